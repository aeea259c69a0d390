import PyProof.Rows.All
import Wide.All
import OpenK.AllK
import Wide.FinOn
import Lean
import PyProof.EqAt
import PyProof.EqKinds
import PyProof.TupleCall
import PyProof.TupleKey
import PyProof.DictFindH
import PyProof.NeData
import PyProof.ListRange
import PyProof.ZipIter
import PyProof.Rows.CallKwBuiltin
import PyProof.MinMaxWalk
import KE.KSortTup
import PyProof.DictItems
import PySem.Challenge.RW_meetwall_k65_whole_loose_ones_of_kinds
set_option Elab.async false
set_option linter.all false
set_option maxRecDepth 100000
set_option maxHeartbeats 4000000
noncomputable section
namespace L2
open PySem PySem.Spec PyProof.Rows
abbrev Key := Sum Int Str
noncomputable def keyIs : Key → Value → Bool
 | .inl k, v => Value.isInt k v
 | .inr x, v => Value.isStrOf x v
noncomputable def keyH (w : World) : Key → Int
 | .inl k => hashInt k
 | .inr x => hashStr w x
theorem keyIs_shape : ∀ {k : Key} {v : Value}, keyIs k v = true → (∃ i t, k = Sum.inl i ∧ v = Value.int i t) ∨ (∃ x t, k = Sum.inr x ∧ v = Value.str x t)
 | .inl i, v, h => by
   obtain ⟨t, e⟩ := Value.isInt_shape (k := i) (v := v) h
   exact .inl ⟨i, t, rfl, e⟩
 | .inr x, v, h => by
   obtain ⟨t, e⟩ := Value.isStrOf_shape (x := x) (v := v) h
   exact .inr ⟨x, t, rfl, e⟩
theorem keyIs_int (i : Int) (t : Tok) : keyIs (.inl i) (.int i t) = true := by simp [keyIs, Value.isInt]
theorem keyIs_str (x : Str) (t : Tok) : keyIs (.inr x) (.str x t) = true := by simp [keyIs, Value.isStrOf]
theorem key_ll (a b : Int) : decide ((Sum.inl a : Key) = Sum.inl b) = (a == b) := by
 by_cases e : a = b
 · subst e; simp
 · have h : ¬ (Sum.inl a : Key) = Sum.inl b := fun q => e (Sum.inl.inj q)
   rw [decide_eq_false h]
   exact (beq_eq_false_iff_ne.mpr e).symm
theorem key_rr (a b : Str) : decide ((Sum.inr a : Key) = Sum.inr b) = decide (a = b) := by
 by_cases e : a = b
 · subst e; simp
 · have h : ¬ (Sum.inr a : Key) = Sum.inr b := fun q => e (Sum.inr.inj q)
   rw [decide_eq_false h, decide_eq_false e]
theorem key_lr (a : Int) (b : Str) : decide ((Sum.inl a : Key) = Sum.inr b) = false := decide_eq_false (fun q => nomatch q)
theorem key_rl (a : Str) (b : Int) : decide ((Sum.inr a : Key) = Sum.inl b) = false := decide_eq_false (fun q => nomatch q)
noncomputable def mixKind (prog : Program) (w : World) : PySem.KeyKind prog w Key where
 is := keyIs
 hash := keyH w
 inj := fun v a b ha hb => by
  rcases keyIs_shape ha with ⟨i, t, rfl, rfl⟩ | ⟨x, t, rfl, rfl⟩
  · rcases keyIs_shape hb with ⟨j, u, rfl, e⟩ | ⟨y, u, rfl, e⟩
    · injection e with e1 _; rw [e1]
    · exact nomatch e
  · rcases keyIs_shape hb with ⟨j, u, rfl, e⟩ | ⟨y, u, rfl, e⟩
    · exact nomatch e
    · injection e with e1 _; rw [e1]
 byValue := fun k v h => by
  rcases keyIs_shape h with ⟨i, t, rfl, rfl⟩ | ⟨x, t, rfl, rfl⟩ <;> rfl
 pyHash := fun hv h => by
  rcases keyIs_shape hv with ⟨i, t, rfl, rfl⟩ | ⟨x, t, rfl, rfl⟩
  · exact wpAny_pyHash_int h
  · exact wpAny_pyHash_str h
 eqBool := fun hu hv h => by
  rcases keyIs_shape hu with ⟨i, t, rfl, rfl⟩ | ⟨x, t, rfl, rfl⟩
  · rcases keyIs_shape hv with ⟨j, u, rfl, rfl⟩ | ⟨y, u, rfl, rfl⟩
    · rw [key_ll] at h; exact wpAny_eqBool_int h
    · rw [key_lr] at h; exact SeqAt.EqAt.int_str i t y u _ _ _ _ h
  · rcases keyIs_shape hv with ⟨j, u, rfl, rfl⟩ | ⟨y, u, rfl, rfl⟩
    · rw [key_rl] at h; exact SeqAt.EqAt.str_int x t j u _ _ _ _ h
    · rw [key_rr] at h; exact wpAny_eqBool_str h
 «strs» := fun k x t v h => by
  rcases keyIs_shape h with ⟨i, u, rfl, e⟩ | ⟨y, u, rfl, e⟩
  · exact nomatch e
  · injection e with e1 _
    subst e1
    cases v <;> rfl
theorem mixKind_int (prog : Program) (w : World) (i : Int) (t : Tok) : (mixKind prog w).is (.inl i) (.int i t) = true := keyIs_int i t
theorem mixKind_str (prog : Program) (w : World) (x : Str) (t : Tok) : (mixKind prog w).is (.inr x) (.str x t) = true := keyIs_str x t
inductive V where
 | non | bl (b : Bool) | int (i : Int) | str (x : Str) | byt (b : Array UInt8) | flt (b : UInt64) | ref (a : Addr) | ty (n : String)
 deriving DecidableEq
noncomputable def RelV : V → Value → Prop
 | .non, u => u = Value.none
 | .bl b, u => u = Value.bool b
 | .int i, u => ∃ t, u = Value.int i t
 | .str x, u => ∃ t, u = Value.str x t
 | .byt b, u => ∃ t, u = Value.bytes b t
 | .flt b, u => ∃ t, u = Value.float b t
 | .ref a, u => u = Value.ref a
 | .ty n, u => u = Value.type n
abbrev Vals : List V → List Value → Prop := Paired RelV
theorem Vals.length {xs : List V} {us : List Value} (r : Vals xs us) : xs.length = us.length := Paired.length r
theorem Vals.get : ∀ {xs : List V} {us : List Value} {i : Nat} {x : V}, Vals xs us → xs[i]? = some x → ∃ u, us[i]? = some u ∧ RelV x u
 | _, _, _, _, .nil, e => by simp at e
 | _, _, 0, _, .cons r _, e => by simp at e; subst e; exact ⟨_, rfl, r⟩
 | _, _, i + 1, x, .cons _ t, e => by
   obtain ⟨u, h1, h2⟩ := Vals.get (i := i) (x := x) t (by simpa using e)
   exact ⟨u, by simpa using h1, h2⟩
theorem Vals.set {x : V} {u : Value} (r : RelV x u) : ∀ {xs : List V} {us : List Value} (i : Nat), Vals xs us → Vals (xs.set i x) (us.set i u)
 | _, _, _, .nil => .nil
 | _, _, 0, .cons _ t => .cons r t
 | _, _, i + 1, .cons q t => .cons q (Vals.set r i t)
theorem Vals.append : ∀ {xs ys : List V} {us ws : List Value}, Vals xs us → Vals ys ws → Vals (xs ++ ys) (us ++ ws)
 | _, _, _, _, .nil, s => s
 | _, _, _, _, .cons r t, s => .cons r (Vals.append t s)
theorem Vals.take : ∀ {xs : List V} {us : List Value} (n : Nat), Vals xs us → Vals (xs.take n) (us.take n)
 | _, _, 0, _ => .nil
 | _, _, _ + 1, .nil => .nil
 | _, _, n + 1, .cons r t => .cons r (Vals.take n t)
theorem Vals.drop : ∀ {xs : List V} {us : List Value} (n : Nat), Vals xs us → Vals (xs.drop n) (us.drop n)
 | _, _, 0, r => r
 | _, _, _ + 1, .nil => .nil
 | _, _, n + 1, .cons _ t => Vals.drop n t
noncomputable def RelO : Option V → Option Value → Prop
 | some v, some u => RelV v u
 | none, none => True
 | _, _ => False
noncomputable def KV {κ : Type} : List (κ × V) → List (κ × Value) → Prop := Paired fun (p : κ × V) (q : κ × Value) => p.1 = q.1 ∧ RelV p.2 q.2
noncomputable def kV : Key → V
 | .inl i => .int i
 | .inr x => .str x
inductive HO where
 | lst (xs : List V)
 | tup (xs : List V)
 | dK (kvs : List (Key × V)) | dT (kvs : List (List Key × V))
 | set (S : Int → Bool) (n : Nat)
 | ins (C dx : Addr) (fs : List (Str × V))
 | own (x : Addr)
 | xd (fs : List (Str × V))
 | met (f x : Addr)
 | rng (lo hi : Int)
 | frz (o : Obj) (u : HO)
 | tbl (ps : Array Value)
 | ext (φ : Heap → Prop)
abbrev Hp := Addr → Option HO
noncomputable def upd (H : Hp) (a : Addr) (o : HO) : Hp := fun b => if b = a then some o else H b
theorem upd_same {H : Hp} {a : Addr} {o : HO} : upd H a o a = some o := by unfold upd; rw [if_pos rfl]
theorem zqf {H : Hp} {a b : Addr} {o : HO} (h : b ≠ a) : upd H a o b = H b := by unfold upd; rw [if_neg h]
theorem ne_of {H : Hp} {a b : Addr} {o u : HO} (h : H a = some o) (h' : H b = some u) (d : o ≠ u) : a ≠ b := by
 intro e; subst e; rw [h] at h'; exact d (Option.some.inj h')
theorem zqg {H : Hp} {a b : Addr} {o : HO} (h : H a = some o) (h' : H b = none) : a ≠ b := by
 intro e; subst e; rw [h] at h'; cases h'
noncomputable def NoD (h : Heap) (a : Addr) : Prop := ∀ o, h.get? a = some o → o.dict = none
theorem NoD.of {h h' : Heap} {a : Addr} {o : Obj} (n : NoD h a) (e : h.get? a = some o) (e' : h'.get? a = some o) : NoD h' a := fun q hq => by rw [e'] at hq; cases hq; exact n o e
theorem NoD.push {h : Heap} {c : Value} {d : Data} {sl : Array (Option Value)} : NoD (h.push { cls := c, dict := none, data := d, slots := sl }) h.objs.size := fun q hq => by
 have e : (h.push { cls := c, dict := none, data := d, slots := sl }).get? h.objs.size = some q := hq
 cases hf : ({ cls := c, dict := none, data := d, slots := sl } : Obj).isFreed with
 | false => rw [Heap.get?_push_size _ hf] at e; cases e; rfl
 | true =>
   simp [Heap.get?, Heap.push, hf] at e
   split at e
   · cases e
   · cases e; rfl
section
variable (P : Program) (w : World)
noncomputable def ObjOk (H : Hp) (h : Heap) (a : Addr) : HO → Prop
 | .lst xs => xs.length ≤ sizeLine ∧ ∃ (its : List Value) (n : Nat), Vals xs its ∧ h.get? a = some { cls := .type "list", data := .seq its.toArray n }
 | .tup xs => xs.length ≤ sizeLine ∧ ∃ its : List Value, Vals xs its ∧ IsTup h a its.toArray ∧ NoD h a
 | .dK kvs => kvs.length ≤ sizeLine ∧ (a == sysModules) = false ∧ ∃ vs, KV kvs vs ∧ h.DictOf (mixKind P w) a vs
 | .dT kvs => kvs.length ≤ sizeLine ∧ (a == sysModules) = false ∧ ∃ xs : List (List Key × Addr × Value),
  Paired (fun (p : List Key × V) (q : List Key × Addr × Value) => p.1 = q.1 ∧ H q.2.1 = some (.tup (p.1.map kV)) ∧ RelV p.2 q.2.2) kvs xs ∧
  ∃ o es ep, h.get? a = some o ∧ o.ExactDict ∧ o.data = .dict es ep ∧ es.toList = xs.map (entryOfKey (tupleKind (mixKind P w))) ∧ (xs.map (·.1)).Nodup
 | .set S n => h.SetOf (intKind P w) a S n
 | .ins C dx fs => H dx = some (.own a) ∧ fs.length ≤ 1000 ∧ dx ≠ a ∧ h.get? a = some (PySem.W.instObj C dx) ∧
  ∃ mA, h.Ns1 dx mA ∧ (∀ f, RelO (fs.lookup f) (mA f)) ∧ PySem.Within mA (fs.map (·.1))
 | .own _ => ∃ o, h.get? a = some o
 | .xd fs => ∃ mA, h.Ns1 a mA ∧ ∀ f, RelO (fs.lookup f) (mA f)
 | .rng lo hi => ∃ t u v, h.get? a = some { cls := .type "range", data := .fields #[.int lo t, .int hi u, .int 1 v] }
 | .frz o u => h.get? a = some o ∧ ObjOk H h a u
 | .tbl ps => h.get? a = some { cls := .none, data := .fields ps }
 | .met f x => h.get? a = some (PySem.W.methodObj (.ref f) (.ref x))
 | .ext φ => φ h ∧ (∃ o, h.get? a = some o) ∧ ∀ h1 h2 : Heap, φ h1 → (∀ o, h1.get? a = some o → h2.get? a = some o) → φ h2
noncomputable def HOk (H : Hp) (h : Heap) : Prop := ∀ a o, H a = some o → ObjOk P w H h a o
end
section
variable {P : Program} {w : World} {H H' : Hp} {h h' : Heap} {a : Addr} {o : HO}
theorem ObjOk.lt (x : ObjOk P w H h a o) : a < h.objs.size := by
 cases o with
 | lst xs => obtain ⟨_, _, _, _, e⟩ := x; exact Heap.lt_size e
 | tup xs => obtain ⟨_, _, _, p, _⟩ := x; exact p.lt
 | dK kvs => obtain ⟨_, _, _, _, o, _, _, e, _⟩ := x; exact Heap.lt_size e
 | dT kvs => obtain ⟨_, _, _, _, o, _, _, e, _⟩ := x; exact Heap.lt_size e
 | set S n => obtain ⟨o, _, _, _, e, _⟩ := x; exact Heap.lt_size e
 | ins C dx fs => obtain ⟨_, _, _, e, _⟩ := x; exact Heap.lt_size e
 | own y => obtain ⟨_, e⟩ := x; exact Heap.lt_size e
 | xd fs => obtain ⟨_, ⟨_, _, _, e, _⟩, _⟩ := x; exact Heap.lt_size e
 | rng lo hi => obtain ⟨_, _, _, e⟩ := x; exact Heap.lt_size e
 | frz ob u => obtain ⟨e, _⟩ := x; exact Heap.lt_size e
 | tbl ps => exact Heap.lt_size (show h.get? a = some _ from x)
 | met f y => exact Heap.lt_size (show h.get? a = some _ from x)
 | ext φ => obtain ⟨_, ⟨_, e⟩, _⟩ := x; exact Heap.lt_size e
theorem Paired.mapP {α β : Type} {F G : α → β → Prop} : ∀ {l₁ : List α} {l₂ : List β}, Paired F l₁ l₂ → (∀ a b, F a b → G a b) → Paired G l₁ l₂
 | _, _, .nil, _ => .nil
 | _, _, .cons r t, f => .cons (f _ _ r) (Paired.mapP t f)
theorem ObjOk.stay (x : ObjOk P w H h a o) (k : ∀ b u, (b = a ∨ H b = some (.own a)) → h.get? b = some u → h'.get? b = some u)
  (ho : ∀ b, H b = some (.own a) → H' b = some (.own a)) (ht : ∀ b xs, H b = some (.tup xs) → H' b = some (.tup xs)) : ObjOk P w H' h' a o := by
 induction o with
 | lst xs => obtain ⟨z, its, n, r, e⟩ := x; exact ⟨z, its, n, r, k _ _ (.inl rfl) e⟩
 | tup xs => obtain ⟨z, its, r, ⟨ob, e, c⟩, nd⟩ := x; exact ⟨z, its, r, ⟨ob, k _ _ (.inl rfl) e, c⟩, nd.of e (k _ _ (.inl rfl) e)⟩
 | dK kvs => obtain ⟨z, y, vs, r, ob, es, ep, e, c⟩ := x; exact ⟨z, y, vs, r, ob, es, ep, k _ _ (.inl rfl) e, c⟩
 | dT kvs =>
   obtain ⟨z, y, xs, r, ob, es, ep, e, c⟩ := x
   exact ⟨z, y, xs, Paired.mapP r fun p q z => ⟨z.1, ht _ _ z.2.1, z.2.2⟩, ob, es, ep, k _ _ (.inl rfl) e, c⟩
 | set S n => obtain ⟨ob, es, ep, t, e, c⟩ := x; exact ⟨ob, es, ep, t, k _ _ (.inl rfl) e, c⟩
 | ins C dx fs =>
   obtain ⟨d, z, ne, e, mA, ⟨od, es, ep, e2, c⟩, r⟩ := x
   exact ⟨ho _ d, z, ne, k _ _ (.inl rfl) e, mA, ⟨od, es, ep, k _ _ (.inr d) e2, c⟩, r⟩
 | own y => obtain ⟨ob, e⟩ := x; exact ⟨ob, k _ _ (.inl rfl) e⟩
 | xd fs => obtain ⟨mA, ⟨od, es, ep, e, c⟩, r⟩ := x; exact ⟨mA, ⟨od, es, ep, k _ _ (.inl rfl) e, c⟩, r⟩
 | rng lo hi => obtain ⟨t, u, v, e⟩ := x; exact ⟨t, u, v, k _ _ (.inl rfl) e⟩
 | frz ob u ih => obtain ⟨e, q⟩ := x; exact ⟨k _ _ (.inl rfl) e, ih q⟩
 | tbl ps =>
   have e : h.get? a = some { cls := .none, data := .fields ps } := x
   show h'.get? a = some { cls := .none, data := .fields ps }
   exact k a _ (.inl rfl) e
 | met f y =>
   have e : h.get? a = some (PySem.W.methodObj (.ref f) (.ref y)) := x
   show h'.get? a = some (PySem.W.methodObj (.ref f) (.ref y))
   exact k a _ (.inl rfl) e
 | ext φ => obtain ⟨p, ⟨o, e⟩, st⟩ := x; exact ⟨st _ _ p fun o q => k _ _ (.inl rfl) q, ⟨o, k _ _ (.inl rfl) e⟩, st⟩
theorem HOk.lt (x : HOk P w H h) (e : H a = some o) : a < h.objs.size := (x a o e).lt
theorem HOk.fresh (x : HOk P w H h) (e : h.objs.size ≤ a) : H a = none := by
 cases q : H a with
 | none => rfl
 | some u => exact absurd (Nat.lt_of_lt_of_le (x.lt q) e) (Nat.lt_irrefl _)
theorem HOk.kept (x : HOk P w H h) (k : ∀ b u, h.get? b = some u → h'.get? b = some u) : HOk P w H h' := fun a o e =>
 (x a o e).stay (fun b u _ q => k b u q) (fun _ q => q) fun _ _ q => q
theorem HOk.laid (x : HOk P w H h) (k : ∀ b u, h.get? b = some u → h'.get? b = some u) (hp : h.objs.size ≤ a) (new : ObjOk P w (upd H a o) h' a o) : HOk P w (upd H a o) h' := fun b u e => by
 have hn := x.fresh hp
 by_cases hb : b = a
 · subst hb; rw [upd_same] at e; cases e; exact new
 · rw [zqf hb] at e
   exact (x b u e).stay (fun c v _ q => k c v q) (fun c q => by rw [zqf (zqg q hn)]; exact q) fun c xs q => by rw [zqf (zqg q hn)]; exact q
end
noncomputable def Rd (H : Hp) (a : Addr) (u : HO) : Prop := H a = some u ∨ ∃ o, H a = some (.frz o u)
theorem Rd.ok {P : Program} {w : World} {H : Hp} {h : Heap} {a : Addr} {u : HO} (r : Rd H a u) (x : HOk P w H h) : ObjOk P w H h a u := by
 rcases r with r | ⟨o, r⟩
 · exact x a u r
 · obtain ⟨_, q⟩ := x a _ r
   exact q
noncomputable def Mut : Option HO → Prop
 | some (.lst _) => True
 | some (.dK _) => True
 | some (.dT _) => True
 | some (.set _ _) => True
 | some (.ins _ _ _) => True
 | some (.ext _) => True
 | _ => False
section
variable {P : Program} {w : World} {H : Hp} {h h' : Heap} {x e : Addr} {o' : HO}
theorem HOk.write (ok : HOk P w H h) (mu : Mut (H x)) (he : e = x ∨ H e = some (.own x)) (k : ∀ b u, b ≠ e → h.get? b = some u → h'.get? b = some u) (heo : ∃ u, h'.get? e = some u)
  (new : ObjOk P w (upd H x o') h' x o') : HOk P w (upd H x o') h' := fun b u q => by
 have nown : ∀ c y, H c = some (.own y) → c ≠ x := fun c y r z => by subst z; rw [r] at mu; exact mu
 have ntup : ∀ c xs, H c = some (.tup xs) → c ≠ x := fun c xs r z => by subst z; rw [r] at mu; exact mu
 by_cases hb : b = x
 · subst hb; rw [upd_same] at q; cases q; exact new
 · rw [zqf hb] at q
   by_cases hbe : b = e
   · have q' : H b = some (.own x) := by
      rcases he with z | z
      · exact absurd (hbe.trans z) hb
      · rw [hbe]; exact z
     rw [q] at q'; cases q'
     obtain ⟨v, hv⟩ := heo
     exact ⟨v, by rw [hbe]; exact hv⟩
   · refine (ok b u q).stay (fun c v hc r => k c v ?_ r) (fun c r => by rw [zqf (nown c b r)]; exact r) fun c xs r => by rw [zqf (ntup c xs r)]; exact r
     rcases hc with rfl | hc
     · exact hbe
     · rintro rfl
       rcases he with z | z
       · exact nown c b hc z
       · rw [hc] at z; cases z; exact hb rfl
end
structure Un (fs ex : List Addr) (H H' : Hp) (h h' : Heap) : Prop where
 keep : ∀ b o, h.get? b = some o → H b = none → b ∉ fs → b ∉ ex → h'.get? b = some o
 slot : ∀ b o, h.get? b = some o → H b = none → b ∈ fs → b ∉ ex → ∃ sl, h'.get? b = some { o with slots := sl }
 free : ∀ b o, h.get? b = some o → H b = none → b ∉ ex → H' b = none
 there : ∀ b o, h.get? b = some o → b ∉ ex → ∃ o', h'.get? b = some o'
 tups : ∀ b xs, H b = some (.tup xs) → H' b = some (.tup xs)
 frzs : ∀ b o u, H b = some (.frz o u) → H' b = some (.frz o u)
 tbls : ∀ b ps, H b = some (.tbl ps) → ∃ more, H' b = some (.tbl (ps ++ more))
section
variable {fs fs' ex ex' : List Addr} {H H1 H2 : Hp} {h h1 h2 h' : Heap} {a x e : Addr} {o : HO}
theorem Un.any (u : Un fs ex H H1 h h1) {b : Addr} {ob : Obj} (q : h.get? b = some ob) (n : H b = none) (hx : b ∉ ex) : ∃ sl, h1.get? b = some { ob with slots := sl } := by
 by_cases hb : b ∈ fs
 · exact u.slot b ob q n hb hx
 · exact ⟨ob.slots, u.keep b ob q n hb hx⟩
theorem Un.kept (k : ∀ b u, h.get? b = some u → h'.get? b = some u) : Un fs ex H H h h' :=
 ⟨fun b ob q _ _ _ => k b ob q, fun b ob q _ _ _ => ⟨ob.slots, k b ob q⟩, fun _ _ _ n _ => n, fun b ob q _ => ⟨ob, k b ob q⟩, fun _ _ q => q, fun _ _ _ q => q, fun _ ps q => ⟨#[], by rw [q]; simp⟩⟩
theorem Un.refl : Un fs ex H H h h := Un.kept fun _ _ q => q
theorem Un.laid (k : ∀ b u, h.get? b = some u → h'.get? b = some u) (hp : h.objs.size ≤ a) (hn : H a = none) : Un fs ex H (upd H a o) h h' where
 keep := fun b u q _ _ _ => k b u q
 slot := fun b u q _ _ _ => ⟨u.slots, k b u q⟩
 free := fun b u q n _ => by rw [zqf (Nat.ne_of_lt (Nat.lt_of_lt_of_le (Heap.lt_size q) hp))]; exact n
 there := fun b u q _ => ⟨u, k b u q⟩
 tups := fun b xs q => by rw [zqf (zqg q hn)]; exact q
 frzs := fun b u xs q => by rw [zqf (zqg q hn)]; exact q
 tbls := fun b ps q => ⟨#[], by rw [zqf (zqg q hn), q]; simp⟩
theorem Un.write (mu : Mut (H x)) (he : e = x ∨ H e = some (.own x)) (k : ∀ b u, b ≠ e → h.get? b = some u → h'.get? b = some u) (heo : ∃ u, h'.get? e = some u) : Un fs ex H (upd H x o) h h' := by
 have hx : ∀ b, H b = none → b ≠ x := fun b n z => by subst z; rw [n] at mu; exact mu
 have hb : ∀ b, H b = none → b ≠ e := fun b n z => by
  subst z
  rcases he with r | r
  · exact hx b n r
  · rw [n] at r; cases r
 have hm : ∀ b u, H b = some u → ¬ Mut (some u) → b ≠ x := fun b u q nm z => by subst z; rw [q] at mu; exact nm mu
 refine ⟨fun b u q n _ _ => k b u (hb b n) q, fun b u q n _ _ => ⟨u.slots, k b u (hb b n) q⟩, fun b u q n _ => by rw [zqf (hx b n)]; exact n, fun b u q _ => ?_,
  fun b xs q => by rw [zqf (hm b _ q fun z => z)]; exact q, fun b u xs q => by rw [zqf (hm b _ q fun z => z)]; exact q, fun b ps q => ⟨#[], by rw [zqf (hm b _ q fun z => z), q]; simp⟩⟩
 by_cases hbe : b = e
 · subst hbe; exact heo
 · exact ⟨u, k b u hbe q⟩
end
noncomputable def trk (h : Heap) (H : Hp) : List Addr := (List.range h.objs.size).filter fun a => (H a).isSome
noncomputable def hidT (h : Heap) (H : Hp) : Heap := PySem.W.hideAll h (trk h H)
theorem hidT_size (h : Heap) (H : Hp) : (hidT h H).objs.size = h.objs.size := PySem.W.hideAll_size _ _
theorem hidT_get {h : Heap} {H : Hp} {b : Addr} {o : Obj} (e : h.get? b = some o) (n : H b = none) : (hidT h H).get? b = some o :=
 PySem.W.hideAll_get _ e fun hm => by
  have q : (H b).isSome = true := (List.mem_filter.mp hm).2
  rw [n] at q; simp at q
theorem of_hidT {h : Heap} {H : Hp} {b : Addr} {o : Obj} (e : (hidT h H).get? b = some o) : h.get? b = some o ∧ H b = none := by
 have e' : h.get? b = some o := PySem.W.of_hideAll (trk h H) e
 refine ⟨e', ?_⟩
 cases q : H b with
 | none => rfl
 | some x =>
   have hm : b ∈ trk h H := List.mem_filter.mpr ⟨List.mem_range.mpr (Heap.lt_size e'), by simp [q]⟩
   have z : (hidT h H).get? b = none := PySem.W.hideAll_none (trk h H) hm
   rw [z] at e; cases e
noncomputable def allNews (g h : Heap) (L : Addr) : List (Addr × Obj) := (List.range h.objs.size).filterMap fun a => if a = L ∨ (g.get? a).isSome = true then none else (h.get? a).map fun o => (a, o)
noncomputable def rest (g h : Heap) (L d : Addr) : List (Addr × Obj) := (allNews g h L).filter fun p => decide (p.1 ≠ d)
structure Mod (K : PySem.W.Frag) (mg : Str → Option Value) (base : Heap) : Prop where
 kin : K.In base
 glob : base.Ns mainGlobals mg
 blt : ∃ mb, base.Ns builtinsNs mb ∧ ∀ x : Str, x ≠ "__name__" → mb x = bootBuiltins x
 nolimit : base.NoLimit
structure Cx where
 prog : Program
 w : World
 K : PySem.W.Frag
 mg : Str → Option Value
 base : Heap
 A : Around
 N : List Str
 s₀ : Shared
 H₀ : Hp
 env : Env
 outer : List Env
 stack : List Env
 ex : List Addr
 fn : Str → Bool
 calm : Bool
 pn : List (Addr × Obj)
 xe : Value → Shared → Prop
noncomputable def frs (l : List Env) : List Addr := l.filterMap (·.frame)
abbrev Cx.fs (X : Cx) : List Addr := frs X.outer
noncomputable def Vis (sc : Scope) (x : Str) : Prop := sc.names.lookup x = some .local ∨ sc.names.lookup x = some .cell ∨ sc.names.lookup x = some .free
noncomputable def Loc (sc : Scope) (x : Str) : Prop := sc.names.lookup x = some .local ∨ sc.names.lookup x = some .cell
noncomputable def Look (env : Env) (h : Heap) (m : Str → Option Value) (x : Str) (u : Value) : Prop :=
 (env.kindOf x = some .local ∧ m x = some u) ∨ ((env.kindOf x = some .cell ∨ env.kindOf x = some .free) ∧ ∃ c, env.cells.lookup x = some c ∧ h.IsCell c (some u))
structure Cx.Ok (X : Cx) : Prop where
 mod : Mod X.K X.mg X.base
 kind : X.env.scope.kind = .function
 glob : X.env.globals = mainGlobals
 blt : X.env.builtins = builtinsNs
 above : X.s₀.heap.objs.size ≤ X.env.locals
 inj : ∀ x y c, X.env.cells.lookup x = some c → X.env.cells.lookup y = some c → x = y
 has : ∀ x, (X.env.kindOf x = some .cell ∨ X.env.kindOf x = some .free) → ∃ c, X.env.cells.lookup x = some c
 cab : ∀ x c, X.fn x = true → X.env.cells.lookup x = some c → X.s₀.heap.objs.size ≤ c
 hd : X.calm = true → X.A.handled = none
 frames : X.A.frames = some X.stack
 stk : X.stack = X.outer ∨ (X.stack = X.env :: X.outer ∧ X.env.frame = some X.env.locals)
 exf : ∀ b ∈ X.ex, b ≠ X.env.locals ∧ ∀ x c, X.env.cells.lookup x = some c → c ≠ b
 bs : ∀ b o, X.base.get? b = some o → X.s₀.heap.get? b = some o ∧ X.H₀ b = none
 bsz : X.base.objs.size ≤ X.s₀.heap.objs.size
 noex : ∀ b o, X.base.get? b = some o → b ∉ X.ex
 exfs : ∀ b ∈ X.ex, b ∉ X.fs
 funs : X.s₀.heap.FunFrames X.base X.outer
 frf : ∀ b ∈ X.fs, X.H₀ b = none
structure Inv (X : Cx) (pins : List (Addr × Obj)) (σ : List (Option V)) (H : Hp) (s : Shared) : Prop where
 ok : X.Ok
 os : s.os = X.s₀.os
 bare : AllBare s.gens
 base : Un X.fs X.ex X.H₀ H X.s₀.heap s.heap
 loc : ∃ m, s.heap.Ns X.env.locals m ∧ ∀ (i : Nat) (x : Str) (v : V), X.N[i]? = some x → σ[i]? = some (some v) → Vis X.env.scope x → ∃ u, RelV v u ∧ Look X.env s.heap m x u
 cell : ∀ x c, X.env.cells.lookup x = some c → ∃ v, s.heap.IsCell c v
 free : H X.env.locals = none
 freeC : ∀ x c, X.env.cells.lookup x = some c → H c = none
 pin : ∀ p ∈ X.pn ++ pins, s.heap.get? p.1 = some p.2 ∧ H p.1 = none ∧ p.1 ≠ X.env.locals ∧ p.1 ∉ X.fs ∧ ∀ v, p.2.data ≠ .cell v
 hok : HOk X.prog X.w H s.heap
 len : σ.length = X.N.length
section
variable {X : Cx} {pins : List (Addr × Obj)} {σ : List (Option V)} {H H' : Hp} {s : Shared} {h' : Heap}
theorem Cx.Ok.nofr (ok : X.Ok) {b : Addr} {o : Obj} (e : X.base.get? b = some o) : b ∉ X.fs := fun hb => by
 have := (ok.funs.mem hb).1
 rw [e] at this; cases this
theorem Inv.bs (I : Inv X pins σ H s) : ∀ b o, X.base.get? b = some o → s.heap.get? b = some o ∧ H b = none := fun b o e =>
 ⟨I.base.keep b o (I.ok.bs b o e).1 (I.ok.bs b o e).2 (I.ok.nofr e) (I.ok.noex b o e), I.base.free b o (I.ok.bs b o e).1 (I.ok.bs b o e).2 (I.ok.noex b o e)⟩
theorem Inv.bk (I : Inv X pins σ H s) : ∀ b o, X.base.get? b = some o → s.heap.get? b = some o := fun b o e => (I.bs b o e).1
theorem Inv.mod (I : Inv X pins σ H s) : Mod X.K X.mg X.base := I.ok.mod
theorem Inv.kIn (I : Inv X pins σ H s) : X.K.In s.heap := I.ok.mod.kin.keeps I.bk
theorem Inv.lt (I : Inv X pins σ H s) : X.env.locals < s.heap.objs.size := let ⟨_, hn, _⟩ := I.loc; hn.lt
theorem Inv.sz (I : Inv X pins σ H s) : X.s₀.heap.objs.size ≤ s.heap.objs.size := Nat.le_trans I.ok.above (Nat.le_of_lt I.lt)
theorem Inv.nofs (I : Inv X pins σ H s) {a : Addr} (h : s.heap.objs.size ≤ a) : a ∉ X.fs := fun hb => by
 obtain ⟨_, o, ho, _⟩ := I.ok.funs.mem hb
 exact absurd (Nat.lt_of_lt_of_le (Heap.lt_size ho) (Nat.le_trans I.sz h)) (Nat.lt_irrefl _)
theorem Inv.cne (I : Inv X pins σ H s) : ∀ x c, X.env.cells.lookup x = some c → c ≠ X.env.locals := fun x c e z => by
 obtain ⟨v, o, ho, hd⟩ := I.cell x c e
 obtain ⟨m, ⟨o', es, ep, ho', hd', _⟩, _⟩ := I.loc
 rw [z, ho'] at ho; cases ho; rw [hd'] at hd; cases hd
theorem Inv.funs (I : Inv X pins σ H s) : s.heap.FunFrames X.base X.outer := by
 have all : ∀ (l : List Env), (∀ b ∈ frs l, b ∈ X.fs) → X.s₀.heap.FunFrames X.base l → s.heap.FunFrames X.base l := by
  intro l
  induction l with
  | nil => intro _ _; trivial
  | cons env r ih =>
    intro hs hl
    obtain ⟨hk, ⟨L, o, hf, hn, ho, hd⟩, hr⟩ := hl
    have hL : L ∈ X.fs := hs L (by unfold frs; rw [List.filterMap_cons, hf]; exact List.mem_cons_self)
    obtain ⟨sl, e⟩ := I.base.slot L o ho (I.ok.frf L hL) hL fun z => I.ok.exfs L z hL
    exact ⟨hk, ⟨L, _, hf, hn, e, hd⟩, ih (fun b hb => hs b (by unfold frs; rw [List.filterMap_cons, hf]; exact List.mem_cons_of_mem _ hb)) hr⟩
 exact all X.outer (fun _ hb => hb) I.ok.funs
theorem Inv.stack (I : Inv X pins σ H s) : s.heap.FunFrames X.base X.stack := by
 rcases I.ok.stk with e | ⟨e, hf⟩
 · rw [e]; exact I.funs
 · rw [e]
   obtain ⟨m, hn, _⟩ := I.loc
   refine .cons (by rw [I.ok.kind]; decide) hf hn ?_ I.funs
   exact Heap.get?_none_of_le (Nat.le_trans I.ok.bsz I.ok.above)
theorem Inv.stkSub (I : Inv X pins σ H s) : ∀ b ∈ frs X.stack, b ∈ X.env.locals :: X.fs := fun b hb => by
 rcases I.ok.stk with e | ⟨e, hf⟩
 · rw [e] at hb; exact List.mem_cons_of_mem _ hb
 · rw [e] at hb
   unfold frs at hb
   rw [List.filterMap_cons, hf] at hb
   exact hb
theorem Inv.stkFree (I : Inv X pins σ H s) : ∀ b ∈ frs X.stack, H b = none := fun b hb => by
 rcases List.mem_cons.mp (I.stkSub b hb) with e | hb
 · rw [e]; exact I.free
 · obtain ⟨_, o, ho, _⟩ := I.ok.funs.mem hb
   exact I.base.free b o ho (I.ok.frf b hb) fun z => I.ok.exfs b z hb
theorem Inv.step {g' : Array GenState} {t' : Nat} {d' : Drawn} {ch : List Addr} (I : Inv X pins σ H s)
  (hch : ∀ b ∈ ch, (b ∈ X.ex ∨ X.s₀.heap.objs.size ≤ b) ∧ b ≠ X.env.locals ∧ (∀ x c, X.env.cells.lookup x = some c → c ≠ b) ∧ ∀ p ∈ X.pn ++ pins, p.1 ≠ b)
  (keep : ∀ b o, b ≠ X.env.locals → b ∉ X.fs → b ∉ ch → s.heap.get? b = some o → H b = none → h'.get? b = some o)
  (slot : ∀ b o, b ≠ X.env.locals → b ∈ X.fs → b ∉ ch → s.heap.get? b = some o → H b = none → ∃ sl, h'.get? b = some { o with slots := sl }) (free : ∀ b o, b ∉ ch → s.heap.get? b = some o → H b = none → H' b = none)
  (there : ∀ b o, b ∉ ch → s.heap.get? b = some o → ∃ o', h'.get? b = some o')
  (tups : ∀ b xs, H b = some (.tup xs) → H' b = some (.tup xs)) (frzs : ∀ b o u, H b = some (.frz o u) → H' b = some (.frz o u)) (tbls : ∀ b ps, H b = some (.tbl ps) → ∃ more, H' b = some (.tbl (ps ++ more)))
  (ns : ∀ m, s.heap.Ns X.env.locals m → h'.Ns X.env.locals m) (hok : HOk X.prog X.w H' h') (hg : AllBare g') :
  Inv X pins σ H' { s with heap := h', gens := g', drawn := d', toks := t' } := by
 have neL : ∀ b o, X.s₀.heap.get? b = some o → b ≠ X.env.locals := fun b o e => Nat.ne_of_lt (Nat.lt_of_lt_of_le (Heap.lt_size e) I.ok.above)
 have neC : ∀ b o, X.s₀.heap.get? b = some o → b ∉ X.ex → b ∉ ch := fun b o e hx hb => by
  rcases (hch b hb).1 with z | z
  · exact hx z
  · exact absurd (Nat.lt_of_lt_of_le (Heap.lt_size e) z) (Nat.lt_irrefl _)
 have cellK : ∀ x c, X.env.cells.lookup x = some c → ∀ v, s.heap.IsCell c v → h'.IsCell c v := fun x c e v ⟨o, ho, hd⟩ => by
  have nch : c ∉ ch := fun z => (hch c z).2.2.1 x c e rfl
  by_cases hc : c ∈ X.fs
  · obtain ⟨sl, q⟩ := slot c o (I.cne x c e) hc nch ho (I.freeC x c e)
    exact ⟨_, q, hd⟩
  · exact ⟨o, keep c o (I.cne x c e) hc nch ho (I.freeC x c e), hd⟩
 refine ⟨I.ok, I.os, hg, ⟨fun b o e n hb hx => ?_, fun b o e n hb hx => ?_, fun b o e n hx => ?_, fun b o e hx => ?_, fun b xs e => tups b xs (I.base.tups b xs e), fun b o xs e => frzs b o xs (I.base.frzs b o xs e), fun b ps e => ?_⟩, ?_, fun x c e => ?_, ?_, fun x c e => ?_, fun p hp => ?_, hok, I.len⟩
 · exact keep b o (neL b o e) hb (neC b o e hx) (I.base.keep b o e n hb hx) (I.base.free b o e n hx)
 · obtain ⟨sl, e1⟩ := I.base.slot b o e n hb hx
   obtain ⟨sl', e2⟩ := slot b _ (neL b o e) hb (neC b o e hx) e1 (I.base.free b o e n hx)
   exact ⟨sl', e2⟩
 · obtain ⟨o', e1⟩ := I.base.there b o e hx
   exact free b o' (neC b o e hx) e1 (I.base.free b o e n hx)
 · obtain ⟨o', e1⟩ := I.base.there b o e hx
   exact there b o' (neC b o e hx) e1
 · obtain ⟨m1, e1⟩ := I.base.tbls b ps e
   obtain ⟨m2, e2⟩ := tbls b _ e1
   exact ⟨m1 ++ m2, by rw [e2, Array.append_assoc]⟩
 · obtain ⟨m, hn, hl⟩ := I.loc
   refine ⟨m, ns m hn, fun i x v e1 e2 e3 => ?_⟩
   obtain ⟨u, r, l⟩ := hl i x v e1 e2 e3
   refine ⟨u, r, ?_⟩
   rcases l with l | ⟨k, c, e, z⟩
   · exact .inl l
   · exact .inr ⟨k, c, e, cellK x c e _ z⟩
 · obtain ⟨v, z⟩ := I.cell x c e
   exact ⟨v, cellK x c e v z⟩
 · obtain ⟨m, ⟨o, _, _, ho, _⟩, _⟩ := I.loc
   exact free _ o (fun z => (hch _ z).2.1 rfl) ho I.free
 · obtain ⟨v, o, ho, hd⟩ := I.cell x c e
   exact free c o (fun z => (hch c z).2.2.1 x c e rfl) ho (I.freeC x c e)
 · obtain ⟨e, n, ne, nf, d⟩ := I.pin p hp
   have nch : p.1 ∉ ch := fun z => (hch p.1 z).2.2.2 p hp rfl
   exact ⟨keep p.1 p.2 ne nf nch e n, free p.1 p.2 nch e n, ne, nf, d⟩
theorem Inv.un {t' : Nat} (I : Inv X pins σ H s) (u : Un X.fs [] H H' s.heap h') (hok : HOk X.prog X.w H' h') : Inv X pins σ H' { s with heap := h', toks := t' } := by
 obtain ⟨m, ⟨o, es, ep, ho, r⟩, _⟩ := id I.loc
 obtain ⟨sl, hL⟩ := u.any ho I.free (by simp)
 exact I.step (g' := s.gens) (d' := s.drawn) (ch := []) (fun _ z => nomatch z) (fun b o _ hb _ e n => u.keep b o e n hb (by simp)) (fun b o _ hb _ e n => u.slot b o e n hb (by simp)) (fun b o _ e n => u.free b o e n (by simp)) (fun b o _ e => u.there b o e (by simp)) u.tups u.frzs u.tbls (fun m' hm => by
  obtain ⟨o', es', ep', ho', r'⟩ := hm
  rw [ho] at ho'; cases ho'
  exact ⟨_, es', ep', hL, r'⟩) hok I.bare
theorem Inv.call {g' : Array GenState} {t' : Nat} {d' : Drawn} {ch : List Addr} (I : Inv X pins σ H s) (u : Un (frs X.stack) ch H H' s.heap h') (hok : HOk X.prog X.w H' h') (hg : AllBare g')
  (hch : ∀ b ∈ ch, (b ∈ X.ex ∨ X.s₀.heap.objs.size ≤ b) ∧ b ≠ X.env.locals ∧ (∀ x c, X.env.cells.lookup x = some c → c ≠ b) ∧ ∀ p ∈ X.pn ++ pins, p.1 ≠ b) :
  Inv X pins σ H' { s with heap := h', gens := g', drawn := d', toks := t' } := by
 obtain ⟨m, ⟨o, es, ep, ho, r⟩, _⟩ := id I.loc
 obtain ⟨sl, hL⟩ := u.any ho I.free fun z => (hch _ z).2.1 rfl
 exact I.step (ch := ch) hch (fun b o hL hb hc e n => u.keep b o e n (fun z => (List.mem_cons.mp (I.stkSub b z)).elim hL hb) hc) (fun b o _ _ hc e n => u.any e n hc) (fun b o hc e n => u.free b o e n hc) (fun b o hc e => u.there b o e hc) u.tups u.frzs u.tbls (fun m' hm => by
  obtain ⟨o', es', ep', ho', r'⟩ := hm
  rw [ho] at ho'; cases ho'
  exact ⟨_, es', ep', hL, r'⟩) hok hg
theorem Inv.turned {t' : Nat} {it : Addr} (I : Inv X pins σ H s) (k : ∀ b o, b ≠ it → s.heap.get? b = some o → h'.get? b = some o) (hn : H it = none) (hL : it ≠ X.env.locals)
  (h1 : it ∈ X.ex ∨ X.s₀.heap.objs.size ≤ it) (h2 : ∀ x c, X.env.cells.lookup x = some c → c ≠ it) (h3 : ∀ p ∈ X.pn ++ pins, p.1 ≠ it) : Inv X pins σ H { s with heap := h', toks := t' } := by
 have nit : ∀ b u, H b = some u → b ≠ it := fun b u e z => by rw [z, hn] at e; cases e
 refine I.step (g' := s.gens) (d' := s.drawn) (ch := [it]) (fun b hb => ?_) (fun b o _ _ hc e _ => k b o (fun z => hc (by simp [z])) e) (fun b o _ _ hc e _ => ⟨o.slots, k b o (fun z => hc (by simp [z])) e⟩) (fun _ _ _ _ n => n)
  (fun b o hc e => ⟨o, k b o (fun z => hc (by simp [z])) e⟩) (fun _ _ e => e) (fun _ _ _ e => e) (fun b ps e => ⟨#[], by rw [e]; simp⟩) (fun m hm => ?_) (fun b u e => ?_) I.bare
 · have e : b = it := by simpa using hb
   subst e
   exact ⟨h1, hL, h2, h3⟩
 · obtain ⟨o, es, ep, ho, r⟩ := hm
   exact ⟨o, es, ep, k _ o (Ne.symm hL) ho, r⟩
 · refine (I.hok b u e).stay (fun c v hc q => k c v ?_ q) (fun _ q => q) fun _ _ q => q
   rcases hc with z | z
   · rw [z]; exact nit b u e
   · exact nit c _ z
theorem Inv.tok (I : Inv X pins σ H s) (t : Nat) : Inv X pins σ H { s with toks := t } := I.un (h' := s.heap) (t' := t) Un.refl I.hok
theorem Inv.kept {t' : Nat} (I : Inv X pins σ H s) (k : ∀ b u, s.heap.get? b = some u → h'.get? b = some u) : Inv X pins σ H { s with heap := h', toks := t' } := I.un (Un.kept k) (I.hok.kept k)
theorem Inv.laid {a : Addr} {o : HO} {t' : Nat} (I : Inv X pins σ H s) (k : ∀ b u, s.heap.get? b = some u → h'.get? b = some u) (hp : s.heap.objs.size ≤ a) (new : ObjOk X.prog X.w (upd H a o) h' a o) :
 Inv X pins σ (upd H a o) { s with heap := h', toks := t' } := I.un (Un.laid k hp (I.hok.fresh hp)) (I.hok.laid k hp new)
theorem Inv.write {x e : Addr} {o : HO} {t' : Nat} (I : Inv X pins σ H s) (mu : Mut (H x)) (he : e = x ∨ H e = some (.own x)) (k : ∀ b u, b ≠ e → s.heap.get? b = some u → h'.get? b = some u) (heo : ∃ u, h'.get? e = some u)
 (new : ObjOk X.prog X.w (upd H x o) h' x o) : Inv X pins σ (upd H x o) { s with heap := h', toks := t' } := I.un (Un.write mu he k heo) (I.hok.write mu he k heo new)
theorem Inv.pins_of {pins' : List (Addr × Obj)} (I : Inv X pins σ H s) (h : ∀ p ∈ pins', s.heap.get? p.1 = some p.2 ∧ H p.1 = none ∧ p.1 ≠ X.env.locals ∧ p.1 ∉ X.fs ∧ ∀ v, p.2.data ≠ .cell v) : Inv X pins' σ H s :=
 ⟨I.ok, I.os, I.bare, I.base, I.loc, I.cell, I.free, I.freeC, fun p hp => (List.mem_append.mp hp).elim (fun z => I.pin p (List.mem_append_left _ z)) (h p), I.hok, I.len⟩
theorem nodup_ix {N : List Str} (hN : N.Nodup) {i j : Nat} {x : Str} (a : N[i]? = some x) (b : N[j]? = some x) : i = j := by
 obtain ⟨h1, e1⟩ := List.getElem?_eq_some_iff.mp a
 obtain ⟨h2, e2⟩ := List.getElem?_eq_some_iff.mp b
 exact (List.getElem_inj hN).mp (e1.trans e2.symm)
theorem store_ok2 {M : Model} {A : Around} {E : Value → Shared → Prop} {i : Nat} {x : Str} {v : V} {u : Value} {Q : Unit → Shared → Prop} (I : Inv X pins σ H s) (hN : X.N.Nodup) (hi : X.N[i]? = some x) (hx : Loc X.env.scope x) (r : RelV v u)
  (h : ∀ s', Inv X pins (σ.set i (some v)) H s' → (∃ a, Heap.SameBut a s.heap s'.heap ∧ (a = X.env.locals ∨ X.env.cells.lookup x = some a)) → Q () s') (hf : X.fn x = true ∨ X.env.scope.names.lookup x = some .local := by first | exact .inl rfl | exact .inr rfl | assumption) : wpAny M A (storeName X.env x u) Q E s := by
 obtain ⟨m, hn, hl⟩ := id I.loc
 have hcls : (X.env.scope.kind == .class || (X.env.scope.kind == .module && X.env.locals != X.env.globals)) = false := by rw [I.ok.kind]; rfl
 have hiσ : i < σ.length := by rw [I.len]; exact (List.getElem?_eq_some_iff.mp hi).1
 have cne := I.cne
 have tracked : ∀ {a : Addr} {h' : Heap}, (∃ o, s.heap.get? a = some o ∧ H a = none) → Heap.SameBut a s.heap h' → HOk X.prog X.w H h' := fun {a h'} ha hs b ob e => by
  obtain ⟨_, _, hfree⟩ := ha
  refine (I.hok b ob e).stay (fun c w' hc q => (hs.2 c ?_).trans q) (fun _ q => q) fun _ _ q => q
  rintro rfl
  rcases hc with rfl | hc
  · rw [hfree] at e; cases e
  · rw [hfree] at hc; cases hc
 rcases hx with hk | hk
 · refine wpAny_storeName_local hk hn (fun h' hn' hs => ?_) hcls
   obtain ⟨oL, _, _, hoL, _⟩ := id hn
   refine h _ ⟨I.ok, I.os, I.bare, ⟨fun b o e n hb hx => ?_, fun b o e n hb hx => ?_, I.base.free, fun b o e hx => ?_, I.base.tups, I.base.frzs, I.base.tbls⟩, ⟨_, hn', fun j y v' e1 e2 e3 => ?_⟩, fun y c e => ?_, I.free, I.freeC, fun p hp => ?_, tracked ⟨oL, hoL, I.free⟩ hs, by simpa using I.len⟩ ⟨_, hs, .inl rfl⟩
   · exact (hs.2 b (Nat.ne_of_lt (Nat.lt_of_lt_of_le (Heap.lt_size e) I.ok.above))).trans (I.base.keep b o e n hb hx)
   · obtain ⟨sl, e1⟩ := I.base.slot b o e n hb hx
     exact ⟨sl, (hs.2 b (Nat.ne_of_lt (Nat.lt_of_lt_of_le (Heap.lt_size e) I.ok.above))).trans e1⟩
   · obtain ⟨o', e1⟩ := I.base.there b o e hx
     exact ⟨o', (hs.2 b (Nat.ne_of_lt (Nat.lt_of_lt_of_le (Heap.lt_size e) I.ok.above))).trans e1⟩
   · by_cases hj : j = i
     · subst hj
       rw [hi] at e1; cases e1
       rw [List.getElem?_set_self hiσ] at e2
       cases e2
       exact ⟨u, r, .inl ⟨hk, by simp⟩⟩
     · rw [List.getElem?_set_ne (Ne.symm hj)] at e2
       obtain ⟨u', r', q⟩ := hl j y v' e1 e2 e3
       refine ⟨u', r', ?_⟩
       rcases q with ⟨k, e⟩ | ⟨k, c, e, z⟩
       · refine .inl ⟨k, ?_⟩
         have : y ≠ x := fun e => hj (nodup_ix hN e1 (e ▸ hi))
         simp [this, e]
       · exact .inr ⟨k, c, e, z.sameBut hs (cne y c e)⟩
   · obtain ⟨w', z⟩ := I.cell y c e
     exact ⟨w', z.sameBut hs (cne y c e)⟩
   · obtain ⟨e, n, ne, nf, d⟩ := I.pin p hp
     exact ⟨(hs.2 p.1 ne).trans e, n, ne, nf, d⟩
 · have hfn : X.fn x = true := by
    rcases hf with z | z
    · exact z
    · rw [z] at hk; cases hk
   obtain ⟨c, hc⟩ := I.ok.has x (.inl hk)
   obtain ⟨w', z⟩ := I.cell x c hc
   refine wpAny_storeName_cell I.ok.kind hk hc z (fun h' hc' hs => ?_)
   obtain ⟨oc, hoc, hocd⟩ := id z
   refine h { s with heap := h' } ⟨I.ok, I.os, I.bare, ⟨fun b o e n hb hx => ?_, fun b o e n hb hx => ?_, I.base.free, fun b o e hx => ?_, I.base.tups, I.base.frzs, I.base.tbls⟩, ⟨m, hn.sameBut hs (Ne.symm (cne x c hc)), fun j y v' e1 e2 e3 => ?_⟩, fun y c' e => ?_, I.free, I.freeC, fun p hp => ?_, tracked ⟨oc, hoc, I.freeC x c hc⟩ hs, by simpa using I.len⟩ ⟨c, hs, .inr hc⟩
   · exact (hs.2 b (Nat.ne_of_lt (Nat.lt_of_lt_of_le (Heap.lt_size e) (I.ok.cab x c hfn hc)))).trans (I.base.keep b o e n hb hx)
   · obtain ⟨sl, e1⟩ := I.base.slot b o e n hb hx
     exact ⟨sl, (hs.2 b (Nat.ne_of_lt (Nat.lt_of_lt_of_le (Heap.lt_size e) (I.ok.cab x c hfn hc)))).trans e1⟩
   · obtain ⟨o', e1⟩ := I.base.there b o e hx
     exact ⟨o', (hs.2 b (Nat.ne_of_lt (Nat.lt_of_lt_of_le (Heap.lt_size e) (I.ok.cab x c hfn hc)))).trans e1⟩
   · by_cases hj : j = i
     · subst hj
       rw [hi] at e1; cases e1
       rw [List.getElem?_set_self hiσ] at e2
       cases e2
       exact ⟨u, r, .inr ⟨.inl hk, c, hc, hc'⟩⟩
     · rw [List.getElem?_set_ne (Ne.symm hj)] at e2
       obtain ⟨u', r', q⟩ := hl j y v' e1 e2 e3
       refine ⟨u', r', ?_⟩
       rcases q with q | ⟨k, c', e, z'⟩
       · exact .inl q
       · refine .inr ⟨k, c', e, z'.sameBut hs ?_⟩
         rintro rfl
         exact hj (nodup_ix hN e1 (I.ok.inj _ _ _ e hc ▸ hi))
   · by_cases hcc : c' = c
     · subst hcc; exact ⟨_, hc'⟩
     · obtain ⟨w2, z2⟩ := I.cell y c' e
       exact ⟨w2, z2.sameBut hs hcc⟩
   · obtain ⟨e, n, ne, nf, d⟩ := I.pin p hp
     refine ⟨(hs.2 p.1 ?_).trans e, n, ne, nf, d⟩
     intro q
     rw [q, hoc] at e
     have q' : oc = p.2 := Option.some.inj e
     exact d w' (by rw [← q']; exact hocd)
theorem store_ok {M : Model} {A : Around} {E : Value → Shared → Prop} {i : Nat} {x : Str} {v : V} {u : Value} {Q : Unit → Shared → Prop} (I : Inv X pins σ H s) (hN : X.N.Nodup) (hi : X.N[i]? = some x) (hx : Loc X.env.scope x) (r : RelV v u)
  (h : ∀ s', Inv X pins (σ.set i (some v)) H s' → Q () s') (hf : X.fn x = true ∨ X.env.scope.names.lookup x = some .local := by first | exact .inl rfl | exact .inr rfl | assumption) : wpAny M A (storeName X.env x u) Q E s :=
 store_ok2 I hN hi hx r (fun s' I' _ => h s' I') hf
theorem Inv.call' {s' : Shared} {ch : List Addr} (I : Inv X pins σ H s) (ho : s'.os = s.os) (u : Un (frs X.stack) ch H H' s.heap s'.heap) (hok : HOk X.prog X.w H' s'.heap) (hg : AllBare s'.gens)
  (hch : ∀ b ∈ ch, (b ∈ X.ex ∨ X.s₀.heap.objs.size ≤ b) ∧ b ≠ X.env.locals ∧ (∀ x c, X.env.cells.lookup x = some c → c ≠ b) ∧ ∀ p ∈ X.pn ++ pins, p.1 ≠ b) : Inv X pins σ H' s' := by
 obtain ⟨h', g', d', t', o'⟩ := s'
 have e : o' = s.os := ho
 subst e
 exact I.call (g' := g') (t' := t') (d' := d') u hok hg hch
end
abbrev XK := Value → Option Addr → Hp → Prop
abbrev St := List (Option V)
abbrev VK := V → Hp → Prop
abbrev TE := St → Hp → VK → Prop
abbrev TT := St → Hp → (Bool → Hp → Prop) → Prop
abbrev TA := St → Hp → (List V → Hp → Prop) → Prop
structure Ends where
 nx : St → Hp → Prop
 rt : VK
 bk : St → Hp → Prop := fun _ _ => False
 ct : St → Hp → Prop := fun _ _ => False
abbrev TS := Ends → St → Hp → Prop
noncomputable def EP (X : Cx) (pins : List (Addr × Obj)) (σ : St) (Q : VK) (u : Value) (s' : Shared) : Prop := ∃ v H', Inv X pins σ H' s' ∧ RelV v u ∧ Q v H'
noncomputable def TP (X : Cx) (pins : List (Addr × Obj)) (σ : St) (Q : Bool → Hp → Prop) (b : Bool) (s' : Shared) : Prop := ∃ H', Inv X pins σ H' s' ∧ Q b H'
noncomputable def AP (X : Cx) (pins : List (Addr × Obj)) (σ : St) (Q : List V → Hp → Prop) (us : List Value) (s' : Shared) : Prop := ∃ vs H', Inv X pins σ H' s' ∧ Vals vs us ∧ Q vs H'
noncomputable def SP (X : Cx) (pins : List (Addr × Obj)) (D : Ends) (f : Flow) (s' : Shared) : Prop :=
 match f with
 | .next => ∃ σ' H', Inv X pins σ' H' s' ∧ D.nx σ' H'
 | .brk => ∃ σ' H', Inv X pins σ' H' s' ∧ D.bk σ' H'
 | .cont => ∃ σ' H', Inv X pins σ' H' s' ∧ D.ct σ' H'
 | .ret u => ∃ v σ' H', Inv X pins σ' H' s' ∧ RelV v u ∧ D.rt v H'
noncomputable def PE (X : Cx) (e : Expr) (t : TE) : Prop :=
 ∀ (pins : List (Addr × Obj)) (s : Shared) (σ : St) (H : Hp) (Q : VK), Inv X pins σ H s → t σ H Q → wpAny (model X.prog X.w) X.A (eval e X.env) (EP X pins σ Q) X.xe s
noncomputable def PT (X : Cx) (e : Expr) (t : TT) : Prop :=
 ∀ (pins : List (Addr × Obj)) (s : Shared) (σ : St) (H : Hp) (Q : Bool → Hp → Prop), Inv X pins σ H s → t σ H Q → wpAny (model X.prog X.w) X.A (isTrue e X.env (eval e X.env)) (TP X pins σ Q) X.xe s
noncomputable def PW (X : Cx) (e : Expr) (t : TT) : Prop :=
 ∀ (whole : Sem Value) (pins : List (Addr × Obj)) (s : Shared) (σ : St) (H : Hp) (Q : Bool → Hp → Prop), Inv X pins σ H s → t σ H Q → wpAny (model X.prog X.w) X.A (isTrue e X.env whole) (TP X pins σ Q) X.xe s
theorem PW.pt {X : Cx} {e : Expr} {t : TT} (h : PW X e t) : PT X e t := h _
noncomputable def PA (X : Cx) (es : List Expr) (t : TA) : Prop :=
 ∀ (pos : Pos) (pins : List (Addr × Obj)) (s : Shared) (σ : St) (H : Hp) (Q : List V → Hp → Prop), Inv X pins σ H s → t σ H Q → wpAny (model X.prog X.w) X.A (spliced (backTo pos (starEach es X.env))) (AP X pins σ Q) X.xe s
noncomputable def PS (X : Cx) (st : Stmt) (t : TS) : Prop :=
 ∀ (pins : List (Addr × Obj)) (s : Shared) (σ : St) (H : Hp) (D : Ends), Inv X pins σ H s → t D σ H → wpAny (model X.prog X.w) X.A (exec st X.env) (SP X pins D) X.xe s
noncomputable def PSs (X : Cx) (st : List Stmt) (t : TS) : Prop :=
 ∀ (pins : List (Addr × Obj)) (s : Shared) (σ : St) (H : Hp) (D : Ends), Inv X pins σ H s → t D σ H → wpAny (model X.prog X.w) X.A (execs st X.env) (SP X pins D) X.xe s
theorem thn {α : Type} {t : Sem α} {Q Q' : α → Shared → Prop} {M : Model} {A : Around} {E : Value → Shared → Prop} {s : Shared} (h : wpAny M A t Q E s) (hQ : ∀ a s, Q a s → Q' a s) : wpAny M A t Q' E s := wpAny_mono h hQ fun _ _ x => x
section
variable {X : Cx}
noncomputable def tVar (i : Nat) : TE := fun σ H Q => ∃ v, σ[i]? = some (some v) ∧ Q v H
noncomputable def tC (v : V) : TE := fun _ H Q => Q v H
theorem pe_var {i : Nat} {x : Str} {pos : Pos} (hN : X.N[i]? = some x) (hv : Vis X.env.scope x) (hd : (x == ("__debug__" : Str)) = false := by decide) (hcd : (x == ("__classdict__" : Str)) = false := by decide) : PE X (.Name x pos) (tVar i) := by
 intro pins s σ H Q I h
 obtain ⟨v, e, h⟩ := h
 obtain ⟨m, hn, hl⟩ := I.loc
 obtain ⟨u, r, l⟩ := hl i x v hN e hv
 have fin : EP X pins σ Q u s := ⟨v, H, I, r, h⟩
 rcases l with ⟨hk, hm⟩ | ⟨hk, c, hc, hcell⟩
 · exact wpAny_Name (wpAny_loadName_local I.ok.kind hk hn hm fin) hd
 · rcases hk with hk | hk
   · exact wpAny_Name (wpAny_loadName_cell I.ok.kind hk hc hcell fin) hd
   · exact wpAny_Name (wpAny_loadName_free I.ok.kind hk hc hcell fin hcd) hd
theorem zqd {i j pos} : PE X (.Constant (.int i) j pos) (tC (.int i)) := fun _ _ _ H _ I h => wpAny_Constant_int ⟨.int i, H, I.tok _, ⟨_, rfl⟩, h⟩
theorem zq9 {b j pos} : PE X (.Constant (.bool b) j pos) (tC (.bl b)) := fun _ _ _ H _ I h => Constant_bool ⟨.bl b, H, I, rfl, h⟩
theorem pe_non {j pos} : PE X (.Constant .none j pos) (tC .non) := fun _ _ _ H _ I h => Constant_none ⟨.non, H, I, rfl, h⟩
theorem zqm {x j pos} : PE X (.Constant (.str x) j pos) (tC (.str x)) := fun _ _ _ H _ I h => Calls.Constant_str ⟨.str x, H, I.tok _, ⟨_, rfl⟩, h⟩
noncomputable def Gl (X : Cx) (x : Str) : Prop := X.env.kindOf x = some .globalImplicit
theorem ld_glob {E : Value → Shared → Prop} {pins : List (Addr × Obj)} {s : Shared} {σ : St} {H : Hp} {x : Str} {u : Value} {pos : Pos} {Q : Value → Shared → Prop} (I : Inv X pins σ H s) (hg : Gl X x) (hm : X.mg x = some u) (h : Q u s)
  (hd : (x == ("__debug__" : Str)) = false := by decide) : wpAny (model X.prog X.w) X.A (eval (.Name x pos) X.env) Q E s :=
 Calls.Name_function_global I.ok.kind hg (Calls.loadGlobal_global (by rw [I.ok.glob]; exact I.mod.glob.keeps I.bk) hm h) hd
theorem ld_blt {E : Value → Shared → Prop} {pins : List (Addr × Obj)} {s : Shared} {σ : St} {H : Hp} {x : Str} {u : Value} {pos : Pos} {Q : Value → Shared → Prop} (I : Inv X pins σ H s) (hg : Gl X x) (hm : X.mg x = none) (hv : bootBuiltins x = some u) (h : Q u s)
  (hn : x ≠ "__name__" := by decide) (hd : (x == ("__debug__" : Str)) = false := by decide) : wpAny (model X.prog X.w) X.A (eval (.Name x pos) X.env) Q E s := by
 obtain ⟨mb, h1, h2⟩ := I.mod.blt
 exact Calls.Name_function_global I.ok.kind hg (Calls.loadGlobal_builtin (by rw [I.ok.glob]; exact I.mod.glob.keeps I.bk) hm (by rw [I.ok.blt]; exact h1.keeps I.bk) ((h2 x hn).trans hv) h) hd
theorem pe_glob {x : Str} {v : V} {u : Value} {pos : Pos} (hg : Gl X x) (hm : X.mg x = some u) (r : RelV v u) (hd : (x == ("__debug__" : Str)) = false := by decide) : PE X (.Name x pos) (tC v) :=
 fun _ _ _ H _ I h => ld_glob I hg hm ⟨v, H, I, r, h⟩ hd
theorem pe_bltn {x : Str} {v : V} {u : Value} {pos : Pos} (hg : Gl X x) (hm : X.mg x = none) (hv : bootBuiltins x = some u) (r : RelV v u) (hn : x ≠ "__name__" := by decide) (hd : (x == ("__debug__" : Str)) = false := by decide) : PE X (.Name x pos) (tC v) :=
 fun _ _ _ H _ I h => ld_blt I hg hm hv ⟨v, H, I, r, h⟩ hn hd
variable {a b : Expr} {ta tb : TE} {pos : Pos}
noncomputable def PC (X : Cx) (op : CmpOp) (a b : Expr) (t : TE) : Prop :=
 ∀ (pins : List (Addr × Obj)) (s : Shared) (σ : St) (H : Hp) (Q : VK), Inv X pins σ H s → t σ H Q →
   wpAny (model X.prog X.w) X.A (eval a X.env) (fun v s₁ => wpAny (model X.prog X.w) X.A (eval b X.env) (fun u s₂ => wpAny (model X.prog X.w) X.A (compareOp op v u) (EP X pins σ Q) X.xe s₂) X.xe s₁) X.xe s
theorem nobehind (b : Expr) {op : CmpOp} (h : op ≠ .In) (h2 : op ≠ .NotIn) : behindInMarks op b = false := by
 have e1 : (op == CmpOp.In) = false := by cases op <;> first | rfl | exact absurd rfl h
 have e2 : (op == CmpOp.NotIn) = false := by cases op <;> first | rfl | exact absurd rfl h2
 cases b <;> simp [behindInMarks, e1, e2]
noncomputable def tB (t : TE) : TT := fun σ H Q => t σ H fun x H1 => ∃ c, x = .bl c ∧ Q c H1
theorem pe_cmp {op : CmpOp} {t : TE} (h : PC X op a b t) (h1 : behindInMarks op b = false := by first | exact nobehind _ (by decide) (by decide) | rfl) : PE X (.Compare a [op] [b] pos) t := fun pins s σ H Q I hw => wpAny_Compare1 (h pins s σ H Q I hw) h1
theorem pt_cmp {op : CmpOp} {t : TE} (h : PC X op a b t) (h1 : behindInMarks op b = false := by first | exact nobehind _ (by decide) (by decide) | rfl) : PT X (.Compare a [op] [b] pos) (tB t) := by
 intro pins s σ H Q I hw
 refine wpAny_isTrue_Compare1 (thn (h pins s σ H _ I hw) fun v s1 h1 => thn h1 fun u s2 h2 => thn h2 fun c s3 ⟨x, H1, I1, r1, q1⟩ => ?_) h1
 obtain ⟨d, rfl, q⟩ := q1
 cases r1
 exact wpAny_truthy_bool ⟨H1, I1, q⟩
theorem zqy {e : Expr} {t : TE} (h : PE X e t) (he : ∀ whole, isTrue e X.env whole = (do let v ← whole; standAt e.pos; holding [v] (truthy v)) := by intro _; rfl) : PT X e (tB t) := by
 intro pins s σ H Q I hw
 refine isTrue_plain (thn (h pins s σ H _ I hw) fun v s1 ⟨x, H1, I1, r1, q1⟩ => ?_) (he _)
 obtain ⟨d, rfl, q⟩ := q1
 cases r1
 exact wpAny_truthy_bool ⟨H1, I1, q⟩
variable {tA tB' : TT} {rest : List Expr}
noncomputable def tAnd (t u : TT) : TT := fun σ H Q => t σ H fun c H1 => if c = true then u σ H1 Q else Q false H1
noncomputable def tOr (t u : TT) : TT := fun σ H Q => t σ H fun c H1 => if c = true then Q true H1 else u σ H1 Q
noncomputable def tNot (t : TT) : TT := fun σ H Q => t σ H fun c H1 => Q (!c) H1
theorem zxm (ha : PT X a tA) : PW X (.BoolOp .And [a] pos) tA := by
 intro wh pins s σ H Q I h
 refine isTrue_and (thn (ha pins s σ H Q I h) fun c s1 e => ?_)
 cases c with
 | true => exact isTrue_and_nil e
 | false => exact e
theorem zxh (ha : PT X a tA) : PW X (.BoolOp .Or [a] pos) tA := by
 intro wh pins s σ H Q I h
 refine isTrue_or (thn (ha pins s σ H Q I h) fun c s1 e => ?_)
 cases c with
 | false => exact isTrue_or_nil e
 | true => exact e
theorem zxv (ha : PT X a tA) (hb : PW X (.BoolOp .And (b :: rest) pos) tB') : PW X (.BoolOp .And (a :: b :: rest) pos) (tAnd tA tB') := by
 intro wh pins s σ H Q I h
 refine isTrue_and (thn (ha pins s σ H _ I h) fun c s1 ⟨H1, I1, q1⟩ => ?_)
 cases c with
 | true => exact hb wh pins s1 σ H1 Q I1 q1
 | false => exact ⟨H1, I1, q1⟩
theorem pw_or (ha : PT X a tA) (hb : PW X (.BoolOp .Or (b :: rest) pos) tB') : PW X (.BoolOp .Or (a :: b :: rest) pos) (tOr tA tB') := by
 intro wh pins s σ H Q I h
 refine isTrue_or (thn (ha pins s σ H _ I h) fun c s1 ⟨H1, I1, q1⟩ => ?_)
 cases c with
 | true => exact ⟨H1, I1, q1⟩
 | false => exact hb wh pins s1 σ H1 Q I1 q1
theorem zq3 (ha : PT X a tA) : PT X (.UnaryOp .Not a pos) (tNot tA) := by
 intro pins s σ H Q I h
 exact isTrue_not (ha pins s σ H (fun c H1 => Q (!c) H1) I h)
noncomputable def tAndV (ta tb : TE) : TE := fun σ H Q => ta σ H fun x H1 => ∃ c, x = .bl c ∧ if c = true then tb σ H1 Q else Q (.bl false) H1
noncomputable def tOrV (ta tb : TE) : TE := fun σ H Q => ta σ H fun x H1 => ∃ c, x = .bl c ∧ if c = true then Q (.bl true) H1 else tb σ H1 Q
noncomputable def tNotV (ta : TE) : TE := fun σ H Q => ta σ H fun x H1 => ∃ c, x = .bl c ∧ Q (.bl (!c)) H1
theorem zxj {op} {t : TE} (h : PE X a t) : PE X (.BoolOp op [a] pos) t := fun pins s σ H Q I hw => BoolOp_one (h pins s σ H Q I hw)
theorem zxp (ha : PE X a ta) (hb : PE X (.BoolOp .And (b :: rest) pos) tb) : PE X (.BoolOp .And (a :: b :: rest) pos) (tAndV ta tb) := by
 intro pins s σ H Q I h
 refine BoolOp_and (thn (ha pins s σ H _ I h) fun v s1 ⟨x, H1, I1, r1, q1⟩ => ?_)
 obtain ⟨c, rfl, q1⟩ := q1
 cases r1
 refine wpAny_truthy_bool ?_
 cases c with
 | true => exact hb pins s1 σ H1 Q I1 q1
 | false => exact ⟨.bl false, H1, I1, rfl, q1⟩
theorem pe_or (ha : PE X a ta) (hb : PE X (.BoolOp .Or (b :: rest) pos) tb) : PE X (.BoolOp .Or (a :: b :: rest) pos) (tOrV ta tb) := by
 intro pins s σ H Q I h
 refine BoolOp_or (thn (ha pins s σ H _ I h) fun v s1 ⟨x, H1, I1, r1, q1⟩ => ?_)
 obtain ⟨c, rfl, q1⟩ := q1
 cases r1
 refine wpAny_truthy_bool ?_
 cases c with
 | false => exact hb pins s1 σ H1 Q I1 q1
 | true => exact ⟨.bl true, H1, I1, rfl, q1⟩
theorem pe_not (ha : PE X a ta) : PE X (.UnaryOp .Not a pos) (tNotV ta) := by
 intro pins s σ H Q I h
 refine UnaryOp_ (thn (ha pins s σ H _ I h) fun v s1 ⟨x, H1, I1, r1, q1⟩ => ?_)
 obtain ⟨c, rfl, q1⟩ := q1
 cases r1
 exact not_of (wpAny_truthy_bool ⟨.bl (!c), H1, I1, rfl, q1⟩)
noncomputable def tIf (t : TT) (ta tb : TE) : TE := fun σ H Q => t σ H fun c H1 => if c = true then ta σ H1 Q else tb σ H1 Q
theorem pe_ifExp {c : Expr} (hc : PT X c tA) (ha : PE X a ta) (hb : PE X b tb) : PE X (.IfExp c a b pos) (tIf tA ta tb) := by
 intro pins s σ H Q I h
 refine wpAny_IfExp (thn (hc pins s σ H _ I h) fun d s1 ⟨H1, I1, q1⟩ => ?_)
 cases d with
 | true => exact ha pins s1 σ H1 Q I1 q1
 | false => exact hb pins s1 σ H1 Q I1 q1
end
noncomputable def SqL (K : PySem.W.Frag) (H : Hp) (a : Addr) (xs : List V) : Prop :=
 Rd H a (.lst xs) ∨
  ∃ (o : Obj) (its : Array Value) (n : Nat), K.lookup a = some o ∧ o.cls = .type "list" ∧ o.dict = none ∧ o.data = .seq its n ∧ its.size ≤ sizeLine ∧ Vals xs its.toList
noncomputable def SqT (K : PySem.W.Frag) (H : Hp) (a : Addr) (xs : List V) : Prop :=
 Rd H a (.tup xs) ∨
  ∃ (o : Obj) (its : Array Value) (n : Nat), K.lookup a = some o ∧ o.cls = .type "tuple" ∧ o.data = .seq its n ∧ its.size ≤ sizeLine ∧ Vals xs its.toList
noncomputable def absV : Value → Option V
 | .none => some .non
 | .bool b => some (.bl b)
 | .int i _ => some (.int i)
 | .str x _ => some (.str x)
 | .bytes b _ => some (.byt b)
 | .float b _ => some (.flt b)
 | .ref a => some (.ref a)
 | .type n => some (.ty n)
 | _ => none
theorem RelV.abs {x : V} {u : Value} (r : RelV x u) : absV u = some x := by
 cases x with
 | non => cases r; rfl
 | bl _ => cases r; rfl
 | int _ => obtain ⟨t, rfl⟩ := r; rfl
 | str _ => obtain ⟨t, rfl⟩ := r; rfl
 | byt _ => obtain ⟨t, rfl⟩ := r; rfl
 | flt _ => obtain ⟨t, rfl⟩ := r; rfl
 | ref _ => cases r; rfl
 | ty _ => cases r; rfl
theorem RelV.inj {x y : V} {u : Value} (r : RelV x u) (q : RelV y u) : x = y := Option.some.inj (r.abs.symm.trans q.abs)
theorem Vals.inj : ∀ {xs ys : List V} {us : List Value}, Vals xs us → Vals ys us → xs = ys
 | _, _, _, .nil, .nil => rfl
 | _, _, _, .cons r t, .cons r' t' => by rw [r.inj r', Vals.inj t t']
section
variable {X : Cx} {pins : List (Addr × Obj)} {σ : St} {H : Hp} {s : Shared} {a : Addr} {xs ys : List V}
theorem SqL.of {K : PySem.W.Frag} (h : H a = some (.lst xs)) : SqL K H a xs := .inl (.inl h)
theorem SqT.of {K : PySem.W.Frag} (h : H a = some (.tup xs)) : SqT K H a xs := .inl (.inl h)
theorem Inv.list (I : Inv X pins σ H s) (h : SqL X.K H a xs) : ∃ its : List Value, Vals xs its ∧ PlainL s.heap a its.toArray ∧ xs.length ≤ sizeLine := by
 rcases h with h | ⟨o, its, n, hk, hc, hd, hs, hz, r⟩
 · obtain ⟨z, its, n, r, e⟩ := h.ok I.hok
   exact ⟨its, r, ⟨_, n, e, rfl, rfl, rfl⟩, z⟩
 · refine ⟨its.toList, r, ⟨o, n, I.kIn a o hk, hc, hd, by simpa using hs⟩, ?_⟩
   have e := r.length
   simp only [Array.length_toList] at e
   omega
theorem Inv.tuple (I : Inv X pins σ H s) (h : SqT X.K H a xs) : ∃ its : List Value, Vals xs its ∧ IsTup s.heap a its.toArray ∧ xs.length ≤ sizeLine := by
 rcases h with h | ⟨o, its, n, hk, hc, hs, hz, r⟩
 · obtain ⟨z, its, r, p, _⟩ := h.ok I.hok
   exact ⟨its, r, p, z⟩
 · refine ⟨its.toList, r, ⟨o, I.kIn a o hk, hc, n, by simpa using hs⟩, ?_⟩
   have e := r.length
   simp only [Array.length_toList] at e
   omega
theorem Inv.list_inj (I : Inv X pins σ H s) (h : SqL X.K H a xs) (h' : SqL X.K H a ys) : xs = ys := by
 obtain ⟨its, r, ⟨o, n, e, _, _, d⟩, _⟩ := I.list h
 obtain ⟨its', r', ⟨o', n', e', _, _, d'⟩, _⟩ := I.list h'
 rw [e] at e'; cases e'
 rw [d] at d'
 injection d' with d1 _
 have : its = its' := by simpa using congrArg Array.toList d1
 subst this
 exact r.inj r'
theorem Inv.tuple_inj (I : Inv X pins σ H s) (h : SqT X.K H a xs) (h' : SqT X.K H a ys) : xs = ys := by
 obtain ⟨its, r, ⟨o, e, _, n, d⟩, _⟩ := I.tuple h
 obtain ⟨its', r', ⟨o', e', _, n', d'⟩, _⟩ := I.tuple h'
 rw [e] at e'; cases e'
 rw [d] at d'
 injection d' with d1 _
 have : its = its' := by simpa using congrArg Array.toList d1
 subst this
 exact r.inj r'
end
abbrev Cx.wish (X : Cx) (E : Value → Shared → Prop) : Cx := { X with xe := E }
abbrev Cx.nox (X : Cx) : Cx := X.wish fun _ _ => False
theorem Cx.Ok.wish {X : Cx} (ok : X.Ok) (E : Value → Shared → Prop) : (X.wish E).Ok :=
 ⟨ok.mod, ok.kind, ok.glob, ok.blt, ok.above, ok.inj, ok.has, ok.cab, ok.hd, ok.frames, ok.stk, ok.exf, ok.bs, ok.bsz, ok.noex, ok.exfs, ok.funs, ok.frf⟩
theorem Cx.Ok.unwish {X : Cx} {E : Value → Shared → Prop} (ok : (X.wish E).Ok) : X.Ok :=
 ⟨ok.mod, ok.kind, ok.glob, ok.blt, ok.above, ok.inj, ok.has, ok.cab, ok.hd, ok.frames, ok.stk, ok.exf, ok.bs, ok.bsz, ok.noex, ok.exfs, ok.funs, ok.frf⟩
section
variable {X : Cx} {pins : List (Addr × Obj)} {σ : St} {H : Hp} {s : Shared} {E : Value → Shared → Prop}
theorem Inv.wish (I : Inv X pins σ H s) (E : Value → Shared → Prop) : Inv (X.wish E) pins σ H s := ⟨I.ok.wish E, I.os, I.bare, I.base, I.loc, I.cell, I.free, I.freeC, I.pin, I.hok, I.len⟩
theorem Inv.unwish (I : Inv (X.wish E) pins σ H s) : Inv X pins σ H s := ⟨I.ok.unwish, I.os, I.bare, I.base, I.loc, I.cell, I.free, I.freeC, I.pin, I.hok, I.len⟩
theorem SP.unwish {D : Ends} {f : Flow} {s' : Shared} (h : SP (X.wish E) pins D f s') : SP X pins D f s' := by
 cases f with
 | next => obtain ⟨σ', H', I, q⟩ := h; exact ⟨σ', H', I.unwish, q⟩
 | brk => obtain ⟨σ', H', I, q⟩ := h; exact ⟨σ', H', I.unwish, q⟩
 | cont => obtain ⟨σ', H', I, q⟩ := h; exact ⟨σ', H', I.unwish, q⟩
 | ret u => obtain ⟨v, σ', H', I, r, q⟩ := h; exact ⟨v, σ', H', I.unwish, r, q⟩
theorem PSs.nox {st : List Stmt} {t : TS} (h : PSs X.nox st t) : PSs X st t := fun pins s σ H D I hw =>
 wpAny_mono (h pins s σ H D (I.wish _) hw) (fun _ _ q => q.unwish) fun _ _ z => False.elim z
end
section
variable {X : Cx} {st : Stmt} {rest : List Stmt} {t u : TS} {e : Expr} {te : TE} {pos : Pos}
noncomputable def tNext : TS := fun D σ H => D.nx σ H
noncomputable def tSeq (t u : TS) : TS := fun D σ H => t { D with nx := u D } σ H
theorem zqi : PSs X [] tNext := fun _ _ σ H _ I h => wpAny_execs_nil ⟨σ, H, I, h⟩
theorem zqb (h1 : PS X st t) (h2 : PSs X rest u) : PSs X (st :: rest) (tSeq t u) := by
 intro pins s σ H D I h
 refine wpAny_execs_cons (thn (h1 pins s σ H { D with nx := u D } I h) fun f s1 q => ?_)
 cases f with
 | next =>
   obtain ⟨σ', H', I', q⟩ := q
   exact h2 pins s1 σ' H' D I' q
 | ret v => exact q
 | brk => exact q
 | cont => exact q
theorem zqe (h1 : PS X st t) : PSs X [st] t := by
 intro pins s σ H D I h
 refine wpAny_execs_cons (thn (h1 pins s σ H D I h) fun f s1 q => ?_)
 cases f with
 | next => exact wpAny_execs_nil q
 | ret v => exact q
 | brk => exact q
 | cont => exact q
theorem Inv.quiet {pins : List (Addr × Obj)} {σ : St} {H : Hp} {s : Shared} (I : Inv X pins σ H s) : interactive X.env = false := by simp [interactive, I.ok.kind]
noncomputable def tDrop (te : TE) : TS := fun D σ H => te σ H fun _ H1 => D.nx σ H1
theorem ps_expr (he : PE X e te) (hs : swapsWith e none pos.line X.env = pure false := by rfl) : PS X (.Expr e pos) (tDrop te) := by
 intro pins s σ H D I h
 exact wpAny_Expr_any (thn (he pins s σ H _ I h) fun v s1 ⟨x, H1, I1, r1, q1⟩ => ⟨σ, H1, I1, q1⟩) I.quiet hs
noncomputable def tRet (te : TE) : TS := fun D σ H => te σ H D.rt
theorem zqh (he : PE X e te) : PS X (.Return (some e) pos) (tRet te) := by
 intro pins s σ H D I h
 exact wpAny_Return_some (thn (he pins s σ H _ I h) fun v s1 ⟨x, H1, I1, r1, q1⟩ => ⟨x, σ, H1, I1, r1, q1⟩)
noncomputable def tIfS (c : TT) (t u : TS) : TS := fun D σ H => c σ H fun b H1 => if b = true then t D σ H1 else u D σ H1
theorem zqv {c : Expr} {a b : List Stmt} {tc : TT} (hc : PT X c tc) (ha : PSs X a t) (hb : PSs X b u) : PS X (.If c a b pos) (tIfS tc t u) := by
 intro pins s σ H D I h
 refine wpAny_If (thn (hc pins s σ H _ I h) fun d s1 ⟨H1, I1, q1⟩ => ?_)
 cases d with
 | true => exact ha pins s1 σ H1 D I1 q1
 | false => exact hb pins s1 σ H1 D I1 q1
noncomputable def tNever : TS := fun _ _ _ => False
theorem zxr : PS X st tNever := fun _ _ _ _ _ _ h => h.elim
end
abbrev TG := V → St → Hp → (St → Hp → Prop) → Prop
abbrev TGs := List V → St → Hp → (St → Hp → Prop) → Prop
noncomputable def PG (X : Cx) (target : Expr) (t : TG) : Prop :=
 ∀ (pins : List (Addr × Obj)) (s : Shared) (σ : St) (H : Hp) (v : V) (u : Value) (Q : St → Hp → Prop), Inv X pins σ H s → RelV v u → t v σ H Q →
   wpAny (model X.prog X.w) X.A (assign target X.env u) (fun _ s' => ∃ σ' H', Inv X pins σ' H' s' ∧ Q σ' H') X.xe s
noncomputable def PGs (X : Cx) (ts : List Expr) (t : TGs) : Prop :=
 ∀ (pins : List (Addr × Obj)) (s : Shared) (σ : St) (H : Hp) (vs : List V) (us : List Value) (Q : St → Hp → Prop), Inv X pins σ H s → Vals vs us → t vs σ H Q →
   wpAny (model X.prog X.w) X.A (assignInOrder ((assignEach ts X.env).map (·.2)) us) (fun _ s' => ∃ σ' H', Inv X pins σ' H' s' ∧ Q σ' H') X.xe s
abbrev TSet := V → V → V → Hp → (Hp → Prop) → Prop
noncomputable def PSet (X : Cx) (t : TSet) : Prop :=
 ∀ (pins : List (Addr × Obj)) (s : Shared) (σ : St) (H : Hp) (o i v : V) (ov iv u : Value) (Q : Hp → Prop), Inv X pins σ H s → RelV o ov → RelV i iv → RelV v u → t o i v H Q →
   wpAny (model X.prog X.w) X.A (setItem ov iv u) (fun _ s' => ∃ H', Inv X pins σ H' s' ∧ Q H') X.xe s
abbrev TIp := V → V → Hp → VK → Prop
noncomputable def PIp (X : Cx) (op : Operator) (t : TIp) : Prop :=
 ∀ (pins : List (Addr × Obj)) (s : Shared) (σ : St) (H : Hp) (x y : V) (v u : Value) (Q : VK), Inv X pins σ H s → RelV x v → RelV y u → t x y H Q →
   wpAny (model X.prog X.w) X.A (inplaceOp op v u) (EP X pins σ Q) X.xe s
section
variable {X : Cx} {pos : Pos}
noncomputable def gName (i : Nat) : TG := fun v σ H Q => Q (σ.set i (some v)) H
theorem pg_name {i : Nat} {x : Str} (hN : X.N.Nodup) (hi : X.N[i]? = some x) (hx : Loc X.env.scope x) (hf : X.fn x = true ∨ X.env.scope.names.lookup x = some .local := by first | exact .inl rfl | exact .inr rfl | assumption) : PG X (.Name x pos) (gName i) := by
 intro pins s σ H v u Q I r h
 exact wpAny_assign_Name (store_ok I hN hi hx r (fun s' I' => ⟨_, H, I', h⟩) hf)
noncomputable def gNil : TGs := fun vs σ H Q => vs = [] ∧ Q σ H
noncomputable def gCons (t : TG) (u : TGs) : TGs := fun vs σ H Q => ∃ v r, vs = v :: r ∧ t v σ H fun σ' H' => u r σ' H' Q
theorem zxn : PGs X [] gNil := by
 intro pins s σ H vs us Q I r h
 obtain ⟨e, h⟩ := h
 subst e
 cases r
 exact assignInOrder_nil ⟨σ, H, I, h⟩
theorem pgs_cons {e : Expr} {es : List Expr} {t : TG} {u : TGs} (h1 : PG X e t) (h2 : PGs X es u)
  (hs : (assignEach (e :: es) X.env).map (·.2) = assign e X.env :: (assignEach es X.env).map (·.2) := by rfl) : PGs X (e :: es) (gCons t u) := by
 intro pins s σ H vs us Q I r h
 obtain ⟨v, vr, e1, h⟩ := h
 subst e1
 cases r with
 | cons r rr =>
   rw [hs]
   refine assignInOrder_cons (thn (h1 pins s σ H _ _ _ I r h) fun _ s1 ⟨σ1, H1, I1, q1⟩ => ?_)
   exact h2 pins s1 σ1 H1 _ _ Q I1 rr q1
noncomputable def gTup (K : PySem.W.Frag) (n : Nat) (t : TGs) : TG := fun v σ H Q => ∃ a xs, v = .ref a ∧ SqT K H a xs ∧ xs.length = n ∧ t xs σ H Q
theorem pg_tup {es : List Expr} {k : Nat} {t : TGs} {n : Nat} (hc : X.calm = true) (h : PGs X es t)
  (hn : (assignEach es X.env).length = n := by rfl) (hst : (assignEach es X.env).findIdx? (·.1) = none := by rfl) : PG X (.Tuple es k pos) (gTup X.K n t) := by
 intro pins s σ H v u Q I r hw
 obtain ⟨a, xs, e1, hq, hl, hw⟩ := hw
 subst e1
 cases r
 obtain ⟨its, rv, ht, hz⟩ := I.tuple hq
 refine assign_Tuple_tuple (I.ok.hd hc) ht (by simp [hn, ← hl, rv.length]) hst fun h' hx => ?_
 have I1 : Inv X pins σ H { s with heap := h' } := I.kept (t' := s.toks) fun b o e => hx b o (Nat.ne_of_lt (Heap.lt_size e)) e
 exact h pins _ σ H xs _ Q I1 (by simpa using rv) hw
noncomputable def gSub (to ti : TE) (t : TSet) : TG := fun v σ H Q => to σ H fun o H1 => ti σ H1 fun i H2 => t o i v H2 fun H3 => Q σ H3
theorem pg_sub {o i : Expr} {to ti : TE} {t : TSet} (ho : PE X o to) (hi : PE X i ti) (hs : PSet X t)
  (ha : ∀ v, assign (.Subscript o i pos) X.env v = (do
   let ov ← holding [v] (eval o X.env)
   let iv ← holding [v, ov] (eval i X.env)
   standAt pos
   holding [v, ov, iv] (setItem ov iv v)
   release [v, ov, iv] []) := by intro _; rfl) : PG X (.Subscript o i pos) (gSub to ti t) := by
 intro pins s σ H v u Q I r h
 rw [ha]
 refine wpAny_bind (wpAny_holding (thn (ho pins s σ H _ I h) fun ov s1 ⟨x, H1, I1, r1, q1⟩ => ?_))
 refine wpAny_bind (wpAny_holding (thn (hi pins s1 σ H1 _ I1 q1) fun iv s2 ⟨y, H2, I2, r2, q2⟩ => ?_))
 refine wpAny_bind (wpAny_standAt (wpAny_bind (wpAny_holding (thn (hs pins s2 σ H2 x y v ov iv u _ I2 r1 r2 r q2) fun _ s3 ⟨H3, I3, q3⟩ => ?_))))
 exact wpAny_release ⟨σ, H3, I3, q3⟩
noncomputable def tAsg (te : TE) (g : TG) : TS := fun D σ H => te σ H fun x H1 => g x σ H1 D.nx
theorem ps_asg {tg e : Expr} {te : TE} {g : TG} (he : PE X e te) (hg : PG X tg g) (hs : swapsWithSole [tg] e pos.line X.env = pure false := by rfl) (hw : swappedStores [tg] e X.env = pure none := by rfl)
  (h1 : (assignEach [tg] X.env).map (·.2) = [assign tg X.env] := by rfl) : PS X (.Assign [tg] e pos) (tAsg te g) := by
 intro pins s σ H D I h
 refine wpAny_Assign_stores (thn (he pins s σ H _ I h) fun v s1 ⟨x, H1, I1, r1, q1⟩ => ?_) hs hw
 rw [h1]
 exact thn (hg pins s1 σ H1 x v _ I1 r1 q1) fun _ s2 q => q
theorem zqq {i : Nat} {x : Str} {e : Expr} {te : TE} {pos' : Pos} (hN : X.N.Nodup) (hi : X.N[i]? = some x) (hx : Loc X.env.scope x) (he : PE X e te) (hs : swapsWith e (some (.Name x pos')) pos.line X.env = pure false := by rfl) (hf : X.fn x = true ∨ X.env.scope.names.lookup x = some .local := by first | exact .inl rfl | exact .inr rfl | assumption) :
  PS X (.Assign [.Name x pos'] e pos) (tAsg te (gName i)) := by
 intro pins s σ H D I h
 refine wpAny_Assign_Name (thn (he pins s σ H _ I h) fun v s1 ⟨y, H1, I1, r1, q1⟩ => ?_) hs
 exact store_ok I1 hN hi hx r1 (fun s2 I2 => ⟨_, H1, I2, q1⟩) hf
noncomputable def tAugS (to ti te : TE) (tget : V → V → Hp → VK → Prop) (tip : TIp) (tset : TSet) : TS := fun D σ H => to σ H fun o H1 => ti σ H1 fun i H2 => tget o i H2 fun x H3 => te σ H3 fun y H4 => tip x y H4 fun z H5 => tset o i z H5 fun H6 => D.nx σ H6
noncomputable def PGet (X : Cx) (t : V → V → Hp → VK → Prop) : Prop :=
 ∀ (pins : List (Addr × Obj)) (s : Shared) (σ : St) (H : Hp) (o i : V) (ov iv : Value) (Q : VK), Inv X pins σ H s → RelV o ov → RelV i iv → t o i H Q →
   wpAny (model X.prog X.w) X.A (getItem ov iv) (EP X pins σ Q) X.xe s
theorem ps_augS {o i e : Expr} {to ti te : TE} {tget : V → V → Hp → VK → Prop} {tip : TIp} {tset : TSet} {op : Operator} {tpos : Pos} (ho : PE X o to) (hi : PE X i ti) (hg : PGet X tget) (he : PE X e te) (hp : PIp X op tip) (hs : PSet X tset)
  (ha : ∀ ov iv new, augStore i ov iv new = (do holding [new, ov, iv] (setItem ov iv new); release [new, ov, iv] []; pure .next) := by intros; rfl) : PS X (.AugAssign (.Subscript o i tpos) op e pos) (tAugS to ti te tget tip tset) := by
 intro pins s σ H D I h
 refine wpAny_AugAssign_SubscriptAny (thn (ho pins s σ H _ I h) fun ov s1 ⟨x1, H1, I1, r1, q1⟩ => ?_) ha
 refine thn (hi pins s1 σ H1 _ I1 q1) fun iv s2 ⟨x2, H2, I2, r2, q2⟩ => ?_
 refine thn (hg pins s2 σ H2 x1 x2 ov iv _ I2 r1 r2 q2) fun old s3 ⟨x3, H3, I3, r3, q3⟩ => ?_
 refine thn (he pins s3 σ H3 _ I3 q3) fun v s4 ⟨x4, H4, I4, r4, q4⟩ => ?_
 refine thn (hp pins s4 σ H4 x3 x4 old v _ I4 r3 r4 q4) fun new s5 ⟨x5, H5, I5, r5, q5⟩ => ?_
 exact thn (hs pins s5 σ H5 x1 x2 x5 ov iv new _ I5 r1 r2 r5 q5) fun _ s6 ⟨H6, I6, q6⟩ => ⟨σ, H6, I6, q6⟩
noncomputable def ipI (f : Int → Int → Int) : TIp := fun x y H Q => ∃ i j, x = .int i ∧ y = .int j ∧ Q (.int (f i j)) H
theorem ip_add : PIp X .Add (ipI fun i j => i + j) := by
 intro pins s σ H x y v u Q I r1 r2 h
 obtain ⟨i, j, e1, e2, q⟩ := h
 subst e1; subst e2
 obtain ⟨t, rfl⟩ := r1
 obtain ⟨t', rfl⟩ := r2
 exact iadd_int ⟨.int _, H, I.tok _, ⟨_, rfl⟩, q⟩
end
section
variable {X : Cx} {pos : Pos}
noncomputable def tWhile (c : TT) (tb : TS) : TS := fun D σ H => ∃ W : Nat → St → Hp → Prop, (∃ m, W m σ H) ∧ ∀ m σ H, W m σ H →
 c σ H fun b H1 => if b = true then ∃ N : St → Hp → Prop, (∀ σ' H', N σ' H' → ∃ m', m' < m ∧ W m' σ' H') ∧ tb { D with nx := N, ct := N, bk := D.nx } σ H1 else D.nx σ H1
theorem ps_while {c : Expr} {body : List Stmt} {tc : TT} {tb : TS} (hp : PassesOwn (model X.prog X.w) X.A X.env X.xe) (hc : PT X c tc) (hb : PSs X body tb) : PS X (.While c body [] pos) (tWhile tc tb) := by
 intro pins s σ H D I h
 obtain ⟨W, ⟨m0, w0⟩, turn⟩ := h
 refine wpAny_While (codeAny_whileLoop (fun n s' => ∃ σ' H', Inv X pins σ' H' s' ∧ W n σ' H') ?_ m0 ⟨σ, H, I, w0⟩)
 rintro n s1 ⟨σ1, H1, I1, w1⟩
 refine wpAny_passesOwn hp (thn (hc pins s1 σ1 H1 _ I1 (turn n σ1 H1 w1)) fun b s2 ⟨H2, I2, q2⟩ => ?_)
 cases b with
 | true =>
   obtain ⟨N, hN, q2⟩ := q2
   rw [if_pos rfl]
   refine wpAny_passesOwn hp (thn (hb pins s2 σ1 H2 _ I2 q2) fun f s3 q3 => ?_)
   cases f with
   | next =>
     obtain ⟨σ3, H3, I3, n3⟩ := q3
     obtain ⟨m', hm, w3⟩ := hN σ3 H3 n3
     exact ⟨m', hm, σ3, H3, I3, w3⟩
   | cont =>
     obtain ⟨σ3, H3, I3, n3⟩ := q3
     obtain ⟨m', hm, w3⟩ := hN σ3 H3 n3
     exact ⟨m', hm, σ3, H3, I3, w3⟩
   | brk => exact q3
   | ret v => exact q3
 | false =>
   rw [if_neg Bool.false_ne_true]
   exact wpAny_execs_nil ⟨σ1, H2, I2, q2⟩
end
structure It where
 go : Nat → Hp → Prop
 yld : Nat → Hp → V → Hp → Prop
 stop : Nat → Hp → Prop
noncomputable def FpOk (X : Cx) (pins : List (Addr × Obj)) (H : Hp) (b : Addr) : Prop :=
 H b = none ∧ b ≠ X.env.locals ∧ b ∉ X.fs ∧ (b ∈ X.ex ∨ X.s₀.heap.objs.size ≤ b) ∧ (∀ x c, X.env.cells.lookup x = some c → c ≠ b) ∧ ∀ p ∈ X.pn ++ pins, p.1 ≠ b
theorem Inv.fpOk {X : Cx} {pins : List (Addr × Obj)} {σ : St} {H H' : Hp} {s : Shared} {b : Addr} (I : Inv X pins σ H s) (hb : s.heap.objs.size ≤ b) (hn : H' b = none) : FpOk X pins H' b := by
 refine ⟨hn, Nat.ne_of_gt (Nat.lt_of_lt_of_le I.lt hb), I.nofs hb, .inr (Nat.le_trans I.sz hb), fun x c e z => ?_, fun p hp z => ?_⟩
 · obtain ⟨v, q⟩ := I.cell x c e
   exact absurd (Nat.lt_of_lt_of_le q.lt (by rw [z]; exact hb)) (Nat.lt_irrefl _)
 · exact absurd (Nat.lt_of_lt_of_le (Heap.lt_size (I.pin p hp).1) (by rw [z]; exact hb)) (Nat.lt_irrefl _)
structure Turn (P : Program) (w : World) (K : PySem.W.Frag) (tg : Expr) (J : It) (fp : List Addr) (it : Addr) (tn : Nat → Heap → Prop) : Prop where
 mem : it ∈ fp
 obj : ∀ i h, tn i h → ∀ b ∈ fp, ∃ o, h.get? b = some o ∧ ∀ v, o.data ≠ .cell v
 keep : ∀ i h h', tn i h → (∀ b ∈ fp, ∀ o, h.get? b = some o → h'.get? b = some o) → tn i h'
 item : ∀ (X : Cx), X.prog = P → X.w = w → X.K = K → X.calm = true → ∀ (i : Nat) (pins : List (Addr × Obj)) (s : Shared) (σ : St) (H : Hp) (E : Value → Shared → Prop), Inv X pins σ H s → (∀ b ∈ fp, FpOk X pins H b) → tn i s.heap → J.go i H →
  wpAny (model P w) X.A (pyNext (.ref it)) (fun r s1 => ∃ u, r = some u ∧
   wpAny (model P w) X.A (letOwnedTupleGo tg (.ref it) u) (fun _ s2 => ∃ x H', Inv X pins σ H' s2 ∧ RelV x u ∧ J.yld i H x H' ∧ tn (i + 1) s2.heap ∧ ∀ b ∈ fp, H' b = none) E s1) E s
 done : ∀ (X : Cx), X.prog = P → X.w = w → X.K = K → X.calm = true → ∀ (i : Nat) (pins : List (Addr × Obj)) (s : Shared) (σ : St) (H : Hp) (E : Value → Shared → Prop), Inv X pins σ H s → (∀ b ∈ fp, FpOk X pins H b) → tn i s.heap → J.stop i H →
  wpAny (model P w) X.A (pyNext (.ref it)) (fun r s1 => r = none ∧ Inv X pins σ H s1) E s
 self : ∀ (A : Around) (i : Nat) (s : Shared) (Q : Value → Shared → Prop) (E : Value → Shared → Prop), tn i s.heap → Q (.ref it) s → wpAny (model P w) A (pyIter (.ref it)) Q E s
abbrev TI := St → Hp → (It → Hp → Prop) → Prop
noncomputable def PIE (X : Cx) (pins : List (Addr × Obj)) (σ : St) (tg : Expr) (R : It → Hp → Prop) (itv : Value) (s2 : Shared) : Prop :=
 ∃ (it : Addr) (fp : List Addr) (tn : Nat → Heap → Prop) (J : It) (H' : Hp), itv = .ref it ∧ Inv X pins σ H' s2 ∧ Turn X.prog X.w X.K tg J fp it tn ∧ tn 0 s2.heap ∧ (∀ b ∈ fp, FpOk X pins H' b) ∧ R J H'
noncomputable def PI (X : Cx) (tg iter : Expr) (wi : TI) : Prop :=
 ∀ (pins : List (Addr × Obj)) (s : Shared) (σ : St) (H : Hp) (R : It → Hp → Prop), Inv X pins σ H s → wi σ H R →
   wpAny (model X.prog X.w) X.A (eval iter X.env) (fun v s1 => wpAny (model X.prog X.w) X.A (pyIter v) (PIE X pins σ tg R) X.xe s1) X.xe s
theorem go_of {M : Model} {A : Around} {E : Value → Shared → Prop} {s : Shared} {tg : Expr} {it : Addr} {u : Value} {o : Obj} {n : String} {vs : Array Value} {Q : Unit → Shared → Prop} (ho : s.heap.get? it = some o) (hc : o.cls = .type n) (hd : o.data = .fields vs)
  (hn : ["enumerate", "zip", "dict_itemiterator", "dict_reverseitemiterator", "odict_iterator", "itertools.zip_longest", "itertools.pairwise"].contains n = false) (hQ : Q () s) : wpAny M A (letOwnedTupleGo tg (.ref it) u) Q E s := by
 unfold letOwnedTupleGo
 cases tg <;> first
  | exact wpAny_pure hQ
  | (cases u <;> first
   | exact wpAny_pure hQ
   | (refine wpAny_bind (wpAny_load ho ?_)
      rw [hc, hd]
      show wpAny M A (if (["enumerate", "zip", "dict_itemiterator", "dict_reverseitemiterator", "odict_iterator", "itertools.zip_longest", "itertools.pairwise"].contains n && vs[0]? == some (rawInt _)) = true then _ else _) Q E s
      rw [if_neg (by intro h; rw [hn, Bool.false_and] at h; cases h)]
      exact wpAny_pure hQ))
noncomputable def Itl (K : PySem.W.Frag) (a : Addr) : It :=
 ⟨fun i H => ∃ xs x, SqL K H a xs ∧ xs[i]? = some x, fun i H x H' => H' = H ∧ ∀ xs, SqL K H a xs → xs[i]? = some x, fun i H => ∃ xs, SqL K H a xs ∧ xs.length ≤ i⟩
noncomputable def Itt (K : PySem.W.Frag) (a : Addr) : It :=
 ⟨fun i H => ∃ xs x, SqT K H a xs ∧ xs[i]? = some x, fun i H x H' => H' = H ∧ ∀ xs, SqT K H a xs → xs[i]? = some x, fun i H => ∃ xs, SqT K H a xs ∧ xs.length ≤ i⟩
noncomputable def Itr (lo : Int) (n : Nat) : It := ⟨fun i _ => i < n, fun i H x H' => H' = H ∧ x = .int (lo + i), fun i _ => n ≤ i⟩
theorem turn_list {P : Program} {w : World} {K : PySem.W.Frag} {tg : Expr} (a it : Addr) : Turn P w K tg (Itl K a) [it] it (fun i h => h.IsListIter it a i) where
 mem := by simp
 obj := fun i h st b hb => by
  have e : b = it := by simpa using hb
  subst e
  obtain ⟨o, e, c, d⟩ := st
  exact ⟨o, e, fun v z => by rw [d] at z; cases z⟩
 keep := fun i h h' st k => st.at fun o e => k it (by simp) o e
 item := by
  intro X hP hw hK hc i pins s σ H E I hf st hg
  subst hP hw hK
  obtain ⟨xs, x, hq, hx⟩ := hg
  obtain ⟨its, rv, p, hz⟩ := I.list hq
  obtain ⟨u, hu, ru⟩ := rv.get hx
  obtain ⟨f0, f1, f2, f3, f4, f5⟩ := hf it (by simp)
  refine wpAny_pyNext_list_item st p.isList (x := u) (by simpa using hu) fun h' st' sb => ?_
  have I1 : Inv X pins σ H { s with heap := h' } := I.turned (t' := s.toks) (fun b o hb e => (sb.2 b hb).trans e) f0 f1 f3 f4 f5
  obtain ⟨o, e, c, d⟩ := id st'
  exact ⟨u, rfl, go_of (s := { s with heap := h' }) e c d (by decide) ⟨x, H, I1, ru, ⟨rfl, fun ys hy => by rw [I.list_inj hy hq]; exact hx⟩, st', fun b hb => (hf b hb).1⟩⟩
 done := by
  intro X hP hw hK hc i pins s σ H E I hf st hg
  subst hP hw hK
  obtain ⟨xs, hq, hx⟩ := hg
  obtain ⟨its, rv, p, hz⟩ := I.list hq
  obtain ⟨f0, f1, f2, f3, f4, f5⟩ := hf it (by simp)
  have hl := rv.length
  exact wpAny_pyNext_list_end (I.ok.hd hc) st p.isList (by simp; omega) fun h' eb => ⟨rfl, I.turned (t' := s.toks) (fun b o hb e => eb b o hb e) f0 f1 f3 f4 f5⟩
 self := fun _ _ _ _ _ st h => wpAny_pyIter_listiter st h
theorem turn_tuple {P : Program} {w : World} {K : PySem.W.Frag} {tg : Expr} (a it : Addr) : Turn P w K tg (Itt K a) [it] it (fun i h => h.IsTupleIter it a i) where
 mem := by simp
 obj := fun i h st b hb => by
  have e : b = it := by simpa using hb
  subst e
  obtain ⟨o, e, c, d⟩ := st
  exact ⟨o, e, fun v z => by rw [d] at z; cases z⟩
 keep := fun i h h' st k => st.at fun o e => k it (by simp) o e
 item := by
  intro X hP hw hK hc i pins s σ H E I hf st hg
  subst hP hw hK
  obtain ⟨xs, x, hq, hx⟩ := hg
  obtain ⟨its, rv, p, hz⟩ := I.tuple hq
  obtain ⟨u, hu, ru⟩ := rv.get hx
  obtain ⟨f0, f1, f2, f3, f4, f5⟩ := hf it (by simp)
  refine wpAny_pyNext_tuple_item st (show s.heap.IsTuple a its.toArray from p) (x := u) (by simpa using hu) fun h' st' sb => ?_
  have I1 : Inv X pins σ H { s with heap := h' } := I.turned (t' := s.toks) (fun b o hb e => (sb.2 b hb).trans e) f0 f1 f3 f4 f5
  obtain ⟨o, e, c, d⟩ := id st'
  exact ⟨u, rfl, go_of (s := { s with heap := h' }) e c d (by decide) ⟨x, H, I1, ru, ⟨rfl, fun ys hy => by rw [I.tuple_inj hy hq]; exact hx⟩, st', fun b hb => (hf b hb).1⟩⟩
 done := by
  intro X hP hw hK hc i pins s σ H E I hf st hg
  subst hP hw hK
  obtain ⟨xs, hq, hx⟩ := hg
  obtain ⟨its, rv, p, hz⟩ := I.tuple hq
  obtain ⟨f0, f1, f2, f3, f4, f5⟩ := hf it (by simp)
  have hl := rv.length
  exact wpAny_pyNext_tuple_end (I.ok.hd hc) st (show s.heap.IsTuple a its.toArray from p) (by simp; omega) fun h' eb => ⟨rfl, I.turned (t' := s.toks) (fun b o hb e => eb b o hb e) f0 f1 f3 f4 f5⟩
 self := fun _ _ _ _ _ st h => wpAny_pyIter_tupleiter st h
theorem turn_range {P : Program} {w : World} {K : PySem.W.Frag} {tg : Expr} (it : Addr) (lo : Int) (n : Nat) : Turn P w K tg (Itr lo n) [it] it (fun i h => IsRangeIter h it (lo + (i : Nat) * 1) ((n : Int) - (i : Nat)) 1) where
 mem := by simp
 obj := fun i h st b hb => by
  have e : b = it := by simpa using hb
  subst e
  exact ⟨_, st, fun v z => by
   have z' : Data.fields _ = Data.cell v := z
   cases z'⟩
 keep := fun i h h' st k => k it (by simp) _ st
 item := by
  intro X hP hw hK hc i pins s σ H E I hf st hg
  subst hP hw hK
  obtain ⟨f0, f1, f2, f3, f4, f5⟩ := hf it (by simp)
  have W := Walks.range (prog := X.prog) (w := X.w) (I.ok.hd hc) it lo 1 n
  refine W.item i s _ _ hg st fun v h' tk hv st' kk => ?_
  obtain ⟨t, rfl⟩ := hv
  have I1 : Inv X pins σ H { s with heap := h', toks := tk } := I.turned (fun b o hb e => kk b o (by simpa using hb) e) f0 f1 f3 f4 f5
  refine ⟨_, rfl, go_of (s := { s with heap := h', toks := tk }) (n := "range_iterator") st' rfl rfl (by decide) ⟨.int (lo + i), H, I1, ⟨t, ?_⟩, ⟨rfl, rfl⟩, st', fun b hb => (hf b hb).1⟩⟩
  rw [Int.mul_one]
 done := by
  intro X hP hw hK hc i pins s σ H E I hf st hg
  subst hP hw hK
  obtain ⟨f0, f1, f2, f3, f4, f5⟩ := hf it (by simp)
  exact wpAny_pyNext_range_end (I.ok.hd hc) st (by have : n ≤ i := hg; omega) fun h' eb => ⟨rfl, I.turned (t' := s.toks) (fun b o hb e => eb b o hb e) f0 f1 f3 f4 f5⟩
 self := fun _ _ _ _ _ st h => wpAny_pyIter_rangeiter st h
section
variable {X : Cx} {tg : Expr}
noncomputable def iList (K : PySem.W.Frag) (tl : TE) : TI := fun σ H R => tl σ H fun x H1 => ∃ a, x = .ref a ∧ (∃ xs, SqL K H1 a xs) ∧ R (Itl K a) H1
noncomputable def iTup (K : PySem.W.Frag) (tl : TE) : TI := fun σ H R => tl σ H fun x H1 => ∃ a, x = .ref a ∧ (∃ xs, SqT K H1 a xs) ∧ R (Itt K a) H1
theorem zxf {l : Expr} {tl : TE} (hl : PE X l tl) : PI X tg l (iList X.K tl) := by
 intro pins s σ H R I h
 refine thn (hl pins s σ H _ I h) fun v s1 ⟨x, H1, I1, r1, q1⟩ => ?_
 obtain ⟨a, e, ⟨xs, hq⟩, q⟩ := q1
 subst e
 cases r1
 obtain ⟨its, rv, p, hz⟩ := I1.list hq
 refine wpAny_pyIter_list p.isList ?_
 refine ⟨s1.heap.objs.size, [s1.heap.objs.size], _, _, H1, rfl, I1.kept (t' := s1.toks) fun b o e => Heap.get?_push_of_some _ e, turn_list a _, ⟨_, Heap.get?_push_size _ rfl, rfl, rfl⟩, fun b hb => ?_, q⟩
 have e : b = s1.heap.objs.size := by simpa using hb
 subst e
 exact I1.fpOk (Nat.le_refl _) (I1.hok.fresh (Nat.le_refl _))
theorem pi_tup {l : Expr} {tl : TE} (hl : PE X l tl) : PI X tg l (iTup X.K tl) := by
 intro pins s σ H R I h
 refine thn (hl pins s σ H _ I h) fun v s1 ⟨x, H1, I1, r1, q1⟩ => ?_
 obtain ⟨a, e, ⟨xs, hq⟩, q⟩ := q1
 subst e
 cases r1
 obtain ⟨its, rv, p, hz⟩ := I1.tuple hq
 refine wpAny_pyIter_tuple (show s1.heap.IsTuple a its.toArray from p) ?_
 refine ⟨s1.heap.objs.size, [s1.heap.objs.size], _, _, H1, rfl, I1.kept (t' := s1.toks) fun b o e => Heap.get?_push_of_some _ e, turn_tuple a _, ⟨_, Heap.get?_push_size _ rfl, rfl, rfl⟩, fun b hb => ?_, q⟩
 have e : b = s1.heap.objs.size := by simpa using hb
 subst e
 exact I1.fpOk (Nat.le_refl _) (I1.hok.fresh (Nat.le_refl _))
theorem range_it {pins : List (Addr × Obj)} {σ : St} {H : Hp} {s : Shared} {R : It → Hp → Prop} {E : Value → Shared → Prop} {lo hi : Int} {t u v : Tok} {tk : Nat} (I : Inv X pins σ H s) (h1 : -(2 ^ 62) ≤ lo) (h2 : lo < 2 ^ 62) (h3 : -(2 ^ 62) ≤ hi) (h4 : hi < 2 ^ 62)
  (q : R (Itr lo (hi - lo).toNat) H) : wpAny (model X.prog X.w) X.A (pyIter (.ref s.heap.objs.size)) (PIE X pins σ tg R) E { s with heap := s.heap.push { cls := .type "range", data := .fields #[.int lo t, .int hi u, .int 1 v] }, toks := tk } := by
 refine wpAny_pyIter_range (IsRange.new ..) (small_one h1 h2 h3 h4) ?_
 have I1 : Inv X pins σ H { s with heap := s.heap.push { cls := .type "range", data := .fields #[.int lo t, .int hi u, .int 1 v] }, toks := tk } := I.kept fun b o e => Heap.get?_push_of_some _ e
 refine ⟨(s.heap.push { cls := .type "range", data := .fields #[.int lo t, .int hi u, .int 1 v] }).objs.size, [(s.heap.push { cls := .type "range", data := .fields #[.int lo t, .int hi u, .int 1 v] }).objs.size], _, _, H, rfl,
  I1.kept (t' := tk) fun b o e => Heap.get?_push_of_some _ e, turn_range _ lo (hi - lo).toNat, ?_, fun b hb => ?_, q⟩
 · have e1 : lo + ((0 : Nat) : Int) * 1 = lo := by simp
   have e2 : (((hi - lo).toNat : Nat) : Int) - ((0 : Nat) : Int) = Builtin.Range.rangeSize lo hi 1 := by rw [rangeSize_one]; split <;> omega
   show IsRangeIter _ _ (lo + ((0 : Nat) : Int) * 1) ((((hi - lo).toNat : Nat) : Int) - ((0 : Nat) : Int)) 1
   rw [e1, e2]
   exact Heap.get?_push_size _ rfl
 · have e : b = (s.heap.push { cls := .type "range", data := .fields #[.int lo t, .int hi u, .int 1 v] }).objs.size := by simpa using hb
   subst e
   exact I1.fpOk (Nat.le_refl _) (I1.hok.fresh (Nat.le_refl _))
noncomputable def iRng1 (ta : TA) : TI := fun σ H R => ta σ H fun vs H1 => ∃ j : Int, vs = [.int j] ∧ -(2 ^ 62) ≤ j ∧ j < 2 ^ 62 ∧ R (Itr 0 j.toNat) H1
theorem pi_range1 {a : Expr} {ta : TA} {p pos : Pos} (hg : Gl X "range") (hm : X.mg "range" = none) (ha : PA X [a] ta) (hs : starEach [a] X.env = [(false, eval a X.env)] := by rfl) : PI X tg (.Call (.Name "range" p) [a] [] pos) (iRng1 ta) := by
 intro pins s σ H R I h
 refine Call_ (ld_blt I hg hm boot_range (PyProof.Rows.callWith_type1 (thn (ha pos pins s σ H _ I h) fun us s1 ⟨vs, H1, I1, r1, q1⟩ => ?_) hs rfl))
 obtain ⟨j, e, q1, q2, q⟩ := q1
 subst e
 cases r1 with
 | cons r rr =>
   cases rr
   obtain ⟨t, rfl⟩ := r
   exact call_range_1 (range_it I1 (by omega) (by omega) q1 q2 (by simpa using q))
noncomputable def tFor (wi : TI) (g : TG) (tb : TS) : TS := fun D σ H => wi σ H fun J H1 => ∃ W : Nat → Nat → St → Hp → Prop, (∃ m, W 0 m σ H1) ∧ ∀ i m σ H, W i m σ H →
 (J.stop i H ∧ D.nx σ H) ∨ (J.go i H ∧ ∃ N : St → Hp → Prop, (∀ σ' H', N σ' H' → ∃ m', m' < m ∧ W (i + 1) m' σ' H') ∧ ∀ x H', J.yld i H x H' → g x σ H' fun σ2 H2 => tb { D with nx := N, ct := N, bk := D.nx } σ2 H2)
noncomputable def pinsAt (fp : List Addr) (h : Heap) : List (Addr × Obj) := fp.filterMap fun b => (h.get? b).map fun o => (b, o)
theorem zxs {fp : List Addr} {h : Heap} {b : Addr} {o : Obj} (hb : b ∈ fp) (e : h.get? b = some o) : (b, o) ∈ pinsAt fp h := List.mem_filterMap.mpr ⟨b, hb, by rw [e]; rfl⟩
theorem of_pinsAt {fp : List Addr} {h : Heap} {p : Addr × Obj} (hp : p ∈ pinsAt fp h) : p.1 ∈ fp ∧ h.get? p.1 = some p.2 := by
 obtain ⟨b, hb, e⟩ := List.mem_filterMap.mp hp
 cases q : h.get? b with
 | none => rw [q] at e; cases e
 | some o =>
   rw [q] at e
   have e' : (b, o) = p := Option.some.inj e
   subst e'
   exact ⟨hb, q⟩
theorem Inv.pinned {pins : List (Addr × Obj)} {σ : St} {H : Hp} {s : Shared} {fp : List Addr} (I : Inv X pins σ H s) (hf : ∀ b ∈ fp, FpOk X pins H b) (ho : ∀ b ∈ fp, ∃ o, s.heap.get? b = some o ∧ ∀ v, o.data ≠ .cell v) : Inv X (pins ++ pinsAt fp s.heap) σ H s :=
 I.pins_of fun p hp => (List.mem_append.mp hp).elim (fun z => I.pin p (List.mem_append_right _ z)) fun z => by
  obtain ⟨hb, e⟩ := of_pinsAt z
  obtain ⟨f0, f1, f2, _⟩ := hf p.1 hb
  obtain ⟨o, e', d⟩ := ho p.1 hb
  rw [e] at e'; cases e'
  exact ⟨e, f0, f1, f2, d⟩
theorem Inv.unpinned {pins pl : List (Addr × Obj)} {σ : St} {H : Hp} {s : Shared} (I : Inv X (pins ++ pl) σ H s) : Inv X pins σ H s := I.pins_of fun p hp => I.pin p (List.mem_append_right _ (List.mem_append_left _ hp))
theorem ps_for {iter : Expr} {body : List Stmt} {wi : TI} {g : TG} {tb : TS} {pos : Pos} (hp : PassesOwn (model X.prog X.w) X.A X.env X.xe) (hc : X.calm = true) (hi : PI X tg iter wi) (hg : PG X tg g) (hb : PSs X body tb)
  (hs : ∀ x, foldedSetIterable iter X.env x = pure x := by intro _; rfl) : PS X (.For tg iter body [] pos) (tFor wi g tb) := by
 intro pins s σ H D I h
 refine wpAny_For (thn (hi pins s σ H _ I h) fun v s1 h1 => thn h1 fun itv s2 h2 => ?_) hs
 obtain ⟨it, fp, tn, J, H2, e, I2, T, st2, f2, W, ⟨m0, w0⟩, turn⟩ := h2
 subst e
 have stat : ∀ {H' : Hp}, (∀ b ∈ fp, H' b = none) → ∀ b ∈ fp, FpOk X pins H' b := fun hn b hb => ⟨hn b hb, (f2 b hb).2⟩
 refine codeAny_forLoop_any (fun n s' => ∃ i σ' H', Inv X pins σ' H' s' ∧ tn i s'.heap ∧ (∀ b ∈ fp, H' b = none) ∧ W i n σ' H') ?_ m0 ⟨0, σ, H2, I2, st2, fun b hb => (f2 b hb).1, w0⟩
 rintro n s3 ⟨i, σ3, H3, I3, st3, fr3, w3⟩
 rcases turn i n σ3 H3 w3 with ⟨stop, qn⟩ | ⟨go, N, hN, step⟩
 · refine wpAny_passesOwn hp (thn (T.done X rfl rfl rfl hc i pins s3 σ3 H3 X.xe I3 (stat fr3) st3 stop) fun r s4 ⟨hr, I4⟩ => ?_)
   subst hr
   exact wpAny_execs_nil ⟨σ3, H3, I4, qn⟩
 · refine wpAny_passesOwn hp (thn (T.item X rfl rfl rfl hc i pins s3 σ3 H3 X.xe I3 (stat fr3) st3 go) fun r s4 ⟨u, hr, h4⟩ => ?_)
   subst hr
   refine wpAny_passesOwn hp (thn h4 fun _ s5 ⟨x, H5, I5, r5, y5, st5, fr5⟩ => ?_)
   have I5' := I5.pinned (stat fr5) (T.obj _ _ st5)
   refine wpAny_passesOwn hp (thn (hg _ s5 σ3 H5 x u _ I5' r5 (step x H5 y5)) fun _ s6 ⟨σ6, H6, I6, q6⟩ => ?_)
   refine wpAny_passesOwn hp (thn (hb _ s6 σ6 H6 _ I6 q6) fun f s7 q7 => ?_)
   have again : ∀ {σ7 : St} {H7 : Hp}, Inv X (pins ++ pinsAt fp s5.heap) σ7 H7 s7 → N σ7 H7 → ∃ m, m < n ∧ ∃ i σ' H', Inv X pins σ' H' s7 ∧ tn i s7.heap ∧ (∀ b ∈ fp, H' b = none) ∧ W i m σ' H' := fun {σ7 H7} I7 n7 => by
    obtain ⟨m', hm, w7⟩ := hN σ7 H7 n7
    refine ⟨m', hm, i + 1, σ7, H7, I7.unpinned, T.keep _ _ _ st5 fun b hb o e => (I7.pin (b, o) (List.mem_append_right _ (List.mem_append_right _ (zxs hb e)))).1, fun b hb => ?_, w7⟩
    obtain ⟨o, e, d⟩ := T.obj _ _ st5 b hb
    exact (I7.pin (b, o) (List.mem_append_right _ (List.mem_append_right _ (zxs hb e)))).2.1
   cases f with
   | next => obtain ⟨σ7, H7, I7, n7⟩ := q7; exact again I7 n7
   | cont => obtain ⟨σ7, H7, I7, n7⟩ := q7; exact again I7 n7
   | brk => obtain ⟨σ7, H7, I7, q7⟩ := q7; exact ⟨σ7, H7, I7.unpinned, q7⟩
   | ret v => obtain ⟨x7, σ7, H7, I7, r7, q7⟩ := q7; exact ⟨x7, σ7, H7, I7.unpinned, r7, q7⟩
end
theorem for_list {K : PySem.W.Frag} {a : Addr} {xs : List V} {g : TG} {tb : TS} {D : Ends} {σ : St} {H : Hp} (Pv : Nat → St → Hp → Prop) (h0 : Pv 0 σ H) (hl : ∀ i σ H, i ≤ xs.length → Pv i σ H → SqL K H a xs)
  (hs : ∀ i x σ H, xs[i]? = some x → Pv i σ H → g x σ H fun σ2 H2 => tb { D with nx := Pv (i + 1), ct := Pv (i + 1), bk := D.nx } σ2 H2) (hd : ∀ σ H, Pv xs.length σ H → D.nx σ H) :
  ∃ W : Nat → Nat → St → Hp → Prop, (∃ m, W 0 m σ H) ∧ ∀ i m σ H, W i m σ H →
    ((Itl K a).stop i H ∧ D.nx σ H) ∨ ((Itl K a).go i H ∧ ∃ N : St → Hp → Prop, (∀ σ' H', N σ' H' → ∃ m', m' < m ∧ W (i + 1) m' σ' H') ∧ ∀ x H', (Itl K a).yld i H x H' → g x σ H' fun σ2 H2 => tb { D with nx := N, ct := N, bk := D.nx } σ2 H2) := by
 refine ⟨fun i m σ H => m = xs.length - i ∧ i ≤ xs.length ∧ Pv i σ H, ⟨xs.length, by simp, Nat.zero_le _, h0⟩, ?_⟩
 rintro i m σ H ⟨rfl, hi, p⟩
 have q := hl i σ H hi p
 by_cases hlt : i < xs.length
 · refine .inr ⟨⟨xs, xs[i], q, by simp [hlt]⟩, Pv (i + 1), fun σ' H' p' => ⟨xs.length - (i + 1), by omega, rfl, hlt, p'⟩, fun x H' y => ?_⟩
   obtain ⟨e, y⟩ := y
   subst e
   exact hs i x σ _ (y xs q) p
 · have e : i = xs.length := by omega
   subst e
   exact .inl ⟨⟨xs, q, Nat.le_refl _⟩, hd σ H p⟩
theorem for_range {lo : Int} {n : Nat} {g : TG} {tb : TS} {D : Ends} {σ : St} {H : Hp} (Pv : Nat → St → Hp → Prop) (h0 : Pv 0 σ H)
  (hs : ∀ i σ H, i < n → Pv i σ H → g (.int (lo + i)) σ H fun σ2 H2 => tb { D with nx := Pv (i + 1), ct := Pv (i + 1), bk := D.nx } σ2 H2) (hd : ∀ σ H, Pv n σ H → D.nx σ H) :
  ∃ W : Nat → Nat → St → Hp → Prop, (∃ m, W 0 m σ H) ∧ ∀ i m σ H, W i m σ H →
    ((Itr lo n).stop i H ∧ D.nx σ H) ∨ ((Itr lo n).go i H ∧ ∃ N : St → Hp → Prop, (∀ σ' H', N σ' H' → ∃ m', m' < m ∧ W (i + 1) m' σ' H') ∧ ∀ x H', (Itr lo n).yld i H x H' → g x σ H' fun σ2 H2 => tb { D with nx := N, ct := N, bk := D.nx } σ2 H2) := by
 refine ⟨fun i m σ H => m = n - i ∧ i ≤ n ∧ Pv i σ H, ⟨n, by simp, Nat.zero_le _, h0⟩, ?_⟩
 rintro i m σ H ⟨rfl, hi, p⟩
 by_cases hlt : i < n
 · refine .inr ⟨hlt, Pv (i + 1), fun σ' H' p' => ⟨n - (i + 1), by omega, rfl, hlt, p'⟩, fun x H' y => ?_⟩
   obtain ⟨e, y⟩ := y
   subst e y
   exact hs i σ _ hlt p
 · have e : i = n := by omega
   subst e
   exact .inl ⟨Nat.le_refl _, hd σ H p⟩
abbrev R2 := V → V → Hp → VK → Prop
noncomputable def OpR (X : Cx) (f : Value → Value → Sem Value) (r : R2) : Prop :=
 ∀ (pins : List (Addr × Obj)) (s : Shared) (σ : St) (H : Hp) (x y : V) (v u : Value) (Q : VK), Inv X pins σ H s → RelV x v → RelV y u → r x y H Q →
   wpAny (model X.prog X.w) X.A (f v u) (EP X pins σ Q) X.xe s
noncomputable def UnR (X : Cx) (f : Value → Sem Value) (r : V → Hp → VK → Prop) : Prop :=
 ∀ (pins : List (Addr × Obj)) (s : Shared) (σ : St) (H : Hp) (x : V) (v : Value) (Q : VK), Inv X pins σ H s → RelV x v → r x H Q →
   wpAny (model X.prog X.w) X.A (f v) (EP X pins σ Q) X.xe s
noncomputable def CallR (X : Cx) (f : Value) (r : List V → Hp → VK → Prop) : Prop :=
 ∀ (pins : List (Addr × Obj)) (s : Shared) (σ : St) (H : Hp) (xs : List V) (us : List Value) (Q : VK), Inv X pins σ H s → Vals xs us → r xs H Q →
   wpAny (model X.prog X.w) X.A (call f us) (EP X pins σ Q) X.xe s
noncomputable def TruR (X : Cx) (r : V → Hp → (Bool → Hp → Prop) → Prop) : Prop :=
 ∀ (pins : List (Addr × Obj)) (s : Shared) (σ : St) (H : Hp) (x : V) (v : Value) (Q : Bool → Hp → Prop), Inv X pins σ H s → RelV x v → r x H Q →
   wpAny (model X.prog X.w) X.A (truthy v) (TP X pins σ Q) X.xe s
noncomputable def tOp (r : R2) (ta tb : TE) : TE := fun σ H Q => ta σ H fun x H1 => tb σ H1 fun y H2 => r x y H2 Q
noncomputable def tUn (r : V → Hp → VK → Prop) (ta : TE) : TE := fun σ H Q => ta σ H fun x H1 => r x H1 Q
noncomputable def rI (C : Int → Int → Prop) (g : Int → Int → V) : R2 := fun x y H Q => ∃ i j, x = .int i ∧ y = .int j ∧ C i j ∧ Q (g i j) H
noncomputable def rI0 (g : Int → Int → V) : R2 := fun x y H Q => ∃ i j, x = .int i ∧ y = .int j ∧ Q (g i j) H
noncomputable def rU (g : Int → V) : V → Hp → VK → Prop := fun x H Q => ∃ i, x = .int i ∧ Q (g i) H
section
variable {X : Cx} {a b c : Expr} {ta tb tc : TE} {pos : Pos}
theorem binT (ha : PE X a ta) (hb : PE X b tb) {pins : List (Addr × Obj)} {s : Shared} {σ : St} {H : Hp} {R : V → V → Hp → Prop} (I : Inv X pins σ H s)
  (h : ta σ H fun x H1 => tb σ H1 fun y H2 => R x y H2) {Q : Value → Shared → Prop} {f : Value → Value → Sem Value}
  (hf : ∀ v u s2 x y H2, Inv X pins σ H2 s2 → RelV x v → RelV y u → R x y H2 → wpAny (model X.prog X.w) X.A (f v u) Q X.xe s2) :
  wpAny (model X.prog X.w) X.A (eval a X.env) (fun v s₁ => wpAny (model X.prog X.w) X.A (eval b X.env) (fun u s₂ => wpAny (model X.prog X.w) X.A (f v u) Q X.xe s₂) X.xe s₁) X.xe s := by
 refine thn (ha pins s σ H _ I h) fun v s1 ⟨x, H1, I1, r1, q1⟩ => ?_
 refine thn (hb pins s1 σ H1 _ I1 q1) fun u s2 ⟨y, H2, I2, r2, q2⟩ => ?_
 exact hf v u s2 x y H2 I2 r1 r2 q2
theorem zqt {op : Operator} {r : R2} (ho : OpR X (binaryOp op) r) (ha : PE X a ta) (hb : PE X b tb) : PE X (.BinOp a op b pos) (tOp r ta tb) := by
 intro pins s σ H Q I h
 exact wpAny_BinOp (binT ha hb I h fun v u s2 x y H2 I2 rx ry q => ho pins s2 σ H2 x y v u Q I2 rx ry q)
theorem pe_un {op : UnaryOp} {r : V → Hp → VK → Prop} (ho : UnR X (unaryOp op) r) (ha : PE X a ta) : PE X (.UnaryOp op a pos) (tUn r ta) := by
 intro pins s σ H Q I h
 exact UnaryOp_ (thn (ha pins s σ H _ I h) fun v s1 ⟨x, H1, I1, r1, q1⟩ => ho pins s1 σ H1 x v Q I1 r1 q1)
theorem opI {f : Value → Value → Sem Value} {C : Int → Int → Prop} {g : Int → Int → Int}
  (rule : ∀ (i j : Int) (t u : Tok) (s : Shared) (Q : Value → Shared → Prop) (E : Value → Shared → Prop), C i j → Q (.int (g i j) s.toks) { s with toks := s.toks + 1 } → wpAny (model X.prog X.w) X.A (f (.int i t) (.int j u)) Q E s) :
  OpR X f (rI C fun i j => .int (g i j)) := by
 intro pins s σ H x y v u Q I rx ry h
 obtain ⟨i, j, rfl, rfl, hc, q⟩ := h
 obtain ⟨t, rfl⟩ := rx
 obtain ⟨t', rfl⟩ := ry
 exact rule i j t t' s _ _ hc ⟨.int (g i j), H, I.tok _, ⟨_, rfl⟩, q⟩
theorem opI0 {f : Value → Value → Sem Value} {g : Int → Int → Int}
  (rule : ∀ (i j : Int) (t u : Tok) (s : Shared) (Q : Value → Shared → Prop) (E : Value → Shared → Prop), Q (.int (g i j) s.toks) { s with toks := s.toks + 1 } → wpAny (model X.prog X.w) X.A (f (.int i t) (.int j u)) Q E s) :
  OpR X f (rI0 fun i j => .int (g i j)) := by
 intro pins s σ H x y v u Q I rx ry h
 obtain ⟨i, j, rfl, rfl, q⟩ := h
 obtain ⟨t, rfl⟩ := rx
 obtain ⟨t', rfl⟩ := ry
 exact rule i j t t' s _ _ ⟨.int (g i j), H, I.tok _, ⟨_, rfl⟩, q⟩
theorem opB0 {f : Value → Value → Sem Value} {g : Int → Int → Bool}
  (rule : ∀ (i j : Int) (t u : Tok) (s : Shared) (Q : Value → Shared → Prop) (E : Value → Shared → Prop), Q (.bool (g i j)) s → wpAny (model X.prog X.w) X.A (f (.int i t) (.int j u)) Q E s) :
  OpR X f (rI0 fun i j => .bl (g i j)) := by
 intro pins s σ H x y v u Q I rx ry h
 obtain ⟨i, j, rfl, rfl, q⟩ := h
 obtain ⟨t, rfl⟩ := rx
 obtain ⟨t', rfl⟩ := ry
 exact rule i j t t' s _ _ ⟨.bl (g i j), H, I, rfl, q⟩
noncomputable def CPow (i j : Int) : Prop := 0 ≤ j ∧ j ≤ 1000000 ∧ i.natAbs < 2 ^ 64
noncomputable def CMul (i j : Int) : Prop := (-(2 ^ 64) < i ∧ i < 2 ^ 64) ∨ (-(2 ^ 64) < j ∧ j < 2 ^ 64)
theorem CMul.ok {i j : Int} (h : CMul i j) : IntMulOk i j := by
 rcases h with ⟨h1, h2⟩ | ⟨h1, h2⟩
 · exact .of_left (intBits_le_64 h1 h2)
 · exact .of_right (intBits_le_64 h1 h2)
theorem zq7 : OpR X (binaryOp .Add) (rI0 fun i j => .int (i + j)) := opI0 fun _ _ _ _ _ _ _ q => add_int q
theorem op_sub : OpR X (binaryOp .Sub) (rI0 fun i j => .int (i - j)) := opI0 fun _ _ _ _ _ _ _ q => sub_int q
theorem zxa : OpR X (binaryOp .Mult) (rI CMul fun i j => .int (i * j)) := opI fun _ _ _ _ _ _ _ hc q => mul_int q hc.ok
theorem zxk : OpR X (binaryOp .Mod) (rI (fun _ j => 0 < j) fun i j => .int (i % j)) := opI fun i j _ _ _ _ _ hc q => by
 have h1 : (0 : Int) < j := hc
 exact mod_int' (by omega) (by rw [Int.fmod_eq_emod_of_nonneg i (by omega)]; exact q)
theorem op_pow : OpR X (binaryOp .Pow) (rI CPow fun i j => .int (i ^ j.toNat)) := opI fun _ _ _ _ _ _ _ hc q => pow_int_small hc.1 hc.2.1 hc.2.2 q
theorem unI {f : Value → Sem Value} {g : Int → Int}
  (rule : ∀ (i : Int) (t : Tok) (s : Shared) (Q : Value → Shared → Prop) (E : Value → Shared → Prop), Q (.int (g i) s.toks) { s with toks := s.toks + 1 } → wpAny (model X.prog X.w) X.A (f (.int i t)) Q E s) :
  UnR X f (rU fun i => .int (g i)) := by
 intro pins s σ H x v Q I rx h
 obtain ⟨i, rfl, q⟩ := h
 obtain ⟨t, rfl⟩ := rx
 exact rule i t s _ _ ⟨.int (g i), H, I.tok _, ⟨_, rfl⟩, q⟩
theorem un_neg : UnR X (unaryOp .USub) (rU fun i => .int (-i)) := unI fun _ _ _ _ _ q => neg_int q
end
noncomputable def scal : V → V → Bool
 | .non, .non => true | .non, .int _ => true | .int _, .non => true | .non, .bl _ => true | .bl _, .non => true | .non, .str _ => true | .str _, .non => true
 | .int _, .int _ => true | .bl _, .bl _ => true | .str _, .str _ => true | .byt _, .byt _ => true
 | .int _, .str _ => true | .str _, .int _ => true | .bl _, .str _ => true | .str _, .bl _ => true
 | _, _ => false
noncomputable def rEq : R2 := fun x y H Q => scal x y = true ∧ Q (.bl (decide (x = y))) H
noncomputable def rNe : R2 := fun x y H Q => scal x y = true ∧ Q (.bl (!decide (x = y))) H
theorem dec_int {i j : Int} : decide (V.int i = V.int j) = (i == j) := by
 rw [Bool.eq_iff_iff]
 simp
theorem dec_bl {i j : Bool} : decide (V.bl i = V.bl j) = (i == j) := by
 rw [Bool.eq_iff_iff]
 simp
theorem dec_str {i j : Str} : decide (V.str i = V.str j) = (i == j) := by
 rw [Bool.eq_iff_iff]
 simp
theorem dec_byt {i j : Array UInt8} : decide (V.byt i = V.byt j) = (i.toList == j.toList) := by
 rw [Bool.eq_iff_iff]
 cases i
 cases j
 simp
section
variable {X : Cx} {a b c : Expr} {ta tb tc : TE} {pos : Pos}
theorem zqw {pins : List (Addr × Obj)} {σ : St} {H : Hp} {s : Shared} {Q : VK} {k k' : Bool} (I : Inv X pins σ H s) (q : Q (.bl k) H) (e : k = k') : EP X pins σ Q (.bool k') s := by
 subst e
 exact ⟨.bl k, H, I, rfl, q⟩
theorem zq4 : OpR X (compareOp .Eq) rEq := by
 intro pins s σ H x y v u Q I rx ry h
 obtain ⟨hs, q⟩ := h
 cases x with
 | non =>
   cases rx
   cases y with
   | non => cases ry; exact PySem.EqNone.eq_none_none (zqw I q (by simp))
   | bl j => cases ry; exact PySem.EqNone.eq_none_bool (zqw I q (by simp))
   | int j => obtain ⟨t', rfl⟩ := ry; exact PySem.EqNone.eq_none_int (zqw I q (by simp))
   | str j => obtain ⟨t', rfl⟩ := ry; exact PySem.EqNone.eq_none_str (zqw I q (by simp))
   | _ => exact absurd (show false = true from hs) Bool.false_ne_true
 | bl i =>
   cases rx
   cases y with
   | non => cases ry; exact PySem.EqNone.eq_bool_none (zqw I q (by simp))
   | bl j => cases ry; exact eq_bool (zqw I q dec_bl)
   | str j => obtain ⟨t', rfl⟩ := ry; exact PySem.EqMixed.eq_bool_str (zqw I q (by simp))
   | _ => exact absurd (show false = true from hs) Bool.false_ne_true
 | int i =>
   obtain ⟨t, rfl⟩ := rx
   cases y with
   | non => cases ry; exact PySem.EqNone.eq_int_none (zqw I q (by simp))
   | int j => obtain ⟨t', rfl⟩ := ry; exact eq_int (zqw I q dec_int)
   | str j => obtain ⟨t', rfl⟩ := ry; exact PySem.EqMixed.eq_int_str (zqw I q (by simp))
   | _ => exact absurd (show false = true from hs) Bool.false_ne_true
 | str i =>
   obtain ⟨t, rfl⟩ := rx
   cases y with
   | non => cases ry; exact PySem.EqNone.eq_str_none (zqw I q (by simp))
   | bl j => cases ry; exact PySem.EqMixed.eq_str_bool (zqw I q (by simp))
   | int j => obtain ⟨t', rfl⟩ := ry; exact PySem.EqMixed.eq_str_int (zqw I q (by simp))
   | str j => obtain ⟨t', rfl⟩ := ry; exact eq_str (zqw I q dec_str)
   | _ => exact absurd (show false = true from hs) Bool.false_ne_true
 | byt i =>
   obtain ⟨t, rfl⟩ := rx
   cases y with
   | byt j => obtain ⟨t', rfl⟩ := ry; exact PySem.W.eq_bytes (zqw I q dec_byt)
   | _ => exact absurd (show false = true from hs) Bool.false_ne_true
 | _ => cases y <;> exact absurd (show false = true from hs) Bool.false_ne_true
theorem op_ne : OpR X (compareOp .NotEq) rNe := by
 intro pins s σ H x y v u Q I rx ry h
 obtain ⟨hs, q⟩ := h
 cases x with
 | non =>
   cases rx
   cases y with
   | non => cases ry; exact PySem.EqNone.ne_none_none (zqw I q (by simp))
   | bl j => cases ry; exact PySem.EqNone.ne_none_bool (zqw I q (by simp))
   | int j => obtain ⟨t', rfl⟩ := ry; exact PySem.EqNone.ne_none_int (zqw I q (by simp))
   | str j => obtain ⟨t', rfl⟩ := ry; exact PySem.EqNone.ne_none_str (zqw I q (by simp))
   | _ => exact absurd (show false = true from hs) Bool.false_ne_true
 | bl i =>
   cases rx
   cases y with
   | non => cases ry; exact PySem.EqNone.ne_bool_none (zqw I q (by simp))
   | bl j => cases ry; exact ne_bool (zqw I q (congrArg not dec_bl))
   | str j => obtain ⟨t', rfl⟩ := ry; exact PySem.EqMixed.ne_bool_str (zqw I q (by simp))
   | _ => exact absurd (show false = true from hs) Bool.false_ne_true
 | int i =>
   obtain ⟨t, rfl⟩ := rx
   cases y with
   | non => cases ry; exact PySem.EqNone.ne_int_none (zqw I q (by simp))
   | int j => obtain ⟨t', rfl⟩ := ry; exact ne_int (zqw I q (congrArg not dec_int))
   | str j => obtain ⟨t', rfl⟩ := ry; exact PySem.EqMixed.ne_int_str (zqw I q (by simp))
   | _ => exact absurd (show false = true from hs) Bool.false_ne_true
 | str i =>
   obtain ⟨t, rfl⟩ := rx
   cases y with
   | non => cases ry; exact PySem.EqNone.ne_str_none (zqw I q (by simp))
   | bl j => cases ry; exact PySem.EqMixed.ne_str_bool (zqw I q (by simp))
   | int j => obtain ⟨t', rfl⟩ := ry; exact PySem.EqMixed.ne_str_int (zqw I q (by simp))
   | str j => obtain ⟨t', rfl⟩ := ry; exact ne_str (zqw I q (congrArg not dec_str))
   | _ => exact absurd (show false = true from hs) Bool.false_ne_true
 | byt i =>
   obtain ⟨t, rfl⟩ := rx
   cases y with
   | byt j => obtain ⟨t', rfl⟩ := ry; exact PySem.W.ne_bytes (zqw I q (congrArg not dec_byt))
   | _ => exact absurd (show false = true from hs) Bool.false_ne_true
 | _ => cases y <;> exact absurd (show false = true from hs) Bool.false_ne_true
theorem op_lt : OpR X (compareOp .Lt) (rI0 fun i j => .bl (decide (i < j))) := opB0 fun _ _ _ _ _ _ _ q => lt_int q
theorem op_le : OpR X (compareOp .LtE) (rI0 fun i j => .bl (decide (i ≤ j))) := opB0 fun _ _ _ _ _ _ _ q => le_int q
theorem op_gt : OpR X (compareOp .Gt) (rI0 fun i j => .bl (decide (j < i))) := opB0 fun _ _ _ _ _ _ _ q => gt_int q
theorem op_ge : OpR X (compareOp .GtE) (rI0 fun i j => .bl (decide (j ≤ i))) := opB0 fun _ _ _ _ _ _ _ q => ge_int q
theorem op_isN : OpR X (compareOp .Is) (fun x y H Q => y = .non ∧ Q (.bl (decide (x = .non))) H) := by
 intro pins s σ H x y v u Q I rx ry h
 obtain ⟨rfl, q⟩ := h
 cases ry
 refine is_none_gen (zqw I q ?_)
 cases x <;> first
  | (cases rx; rfl)
  | (obtain ⟨t, rfl⟩ := rx; rfl)
theorem op_notN : OpR X (compareOp .IsNot) (fun x y H Q => y = .non ∧ Q (.bl (!decide (x = .non))) H) := by
 intro pins s σ H x y v u Q I rx ry h
 obtain ⟨rfl, q⟩ := h
 cases ry
 refine isnot_none_gen (zqw I q ?_)
 cases x <;> first
  | (cases rx; rfl)
  | (obtain ⟨t, rfl⟩ := rx; rfl)
theorem nomark (b : Expr) {op : CmpOp} (h : op ≠ .In := by decide) (h2 : op ≠ .NotIn := by decide) : behindInMarks op b = false := by
 have e1 : (op == CmpOp.In) = false := by cases op <;> first | rfl | exact absurd rfl h
 have e2 : (op == CmpOp.NotIn) = false := by cases op <;> first | rfl | exact absurd rfl h2
 cases b <;> simp [behindInMarks, e1, e2]
theorem zq0 {op : CmpOp} {r : R2} (ho : OpR X (compareOp op) r) (ha : PE X a ta) (hb : PE X b tb) (hm : behindInMarks op b = false) : PE X (.Compare a [op] [b] pos) (tOp r ta tb) := by
 intro pins s σ H Q I h
 exact wpAny_Compare1 (binT ha hb I h fun v u s2 x y H2 I2 rx ry q => ho pins s2 σ H2 x y v u Q I2 rx ry q) hm
noncomputable def tTest (t : TE) : TT := fun σ H Q => t σ H fun x H' => ∃ k, x = .bl k ∧ Q k H'
theorem zql {op : CmpOp} {r : R2} (ho : OpR X (compareOp op) r) (ha : PE X a ta) (hb : PE X b tb) (hm : behindInMarks op b = false) : PT X (.Compare a [op] [b] pos) (tTest (tOp r ta tb)) := by
 intro pins s σ H Q I h
 refine wpAny_isTrue_Compare1 (thn (ha pins s σ H _ I h) fun v s1 ⟨x, H1, I1, r1, q1⟩ => thn (hb pins s1 σ H1 _ I1 q1) fun u s2 ⟨y, H2, I2, r2, q2⟩ =>
  thn (ho pins s2 σ H2 x y v u _ I2 r1 r2 q2) fun c s3 ⟨z, H3, I3, r3, k, e, q3⟩ => ?_) hm
 subst e
 cases r3
 exact wpAny_truthy_bool ⟨H3, I3, q3⟩
noncomputable def tChain (r r' : R2) (ta tb tc : TE) : TE := fun σ H Q => ta σ H fun x H1 => tb σ H1 fun y H2 => r x y H2 fun z H3 => ∃ k, z = .bl k ∧
 (if k = true then tc σ H3 fun w' H4 => r' y w' H4 Q else Q (.bl false) H3)
theorem pe_chain {op op' : CmpOp} {r r' : R2} (ho : OpR X (compareOp op) r) (ho' : OpR X (compareOp op') r') (ha : PE X a ta) (hb : PE X b tb) (hc : PE X c tc)
  (hm : lastMarks [op, op'] [b, c] = false := by with_unfolding_all rfl) : PE X (.Compare a [op, op'] [b, c] pos) (tChain r r' ta tb tc) := by
 intro pins s σ H Q I h
 refine Compare_chain (thn (ha pins s σ H _ I h) fun v s1 ⟨x, H1, I1, r1, q1⟩ => chain_link (thn (hb pins s1 σ H1 _ I1 q1) fun u s2 ⟨y, H2, I2, r2, q2⟩ =>
  thn (ho pins s2 σ H2 x y v u _ I2 r1 r2 q2) fun d s3 ⟨z, H3, I3, r3, k, e, q3⟩ => ?_)) hm
 subst e
 cases r3
 refine wpAny_truthy_bool ?_
 cases k with
 | false => exact ite_ff ⟨.bl false, H3, I3, rfl, q3⟩
 | true => exact ite_tt (chain_last (thn (hc pins s3 σ H3 _ I3 q3) fun w' s4 ⟨z', H4, I4, r4, q4⟩ => ho' pins s4 σ H4 y z' u w' Q I4 r2 r4 q4))
theorem pt_chain {op op' : CmpOp} {r r' : R2} (ho : OpR X (compareOp op) r) (ho' : OpR X (compareOp op') r') (ha : PE X a ta) (hb : PE X b tb) (hc : PE X c tc)
  (hm : lastMarks [op, op'] [b, c] = false := by with_unfolding_all rfl) : PT X (.Compare a [op, op'] [b, c] pos) (tTest (tChain r r' ta tb tc)) := by
 intro pins s σ H Q I h
 refine isTrue_chain (thn (ha pins s σ H _ I h) fun v s1 ⟨x, H1, I1, r1, q1⟩ => test_link (thn (hb pins s1 σ H1 _ I1 q1) fun u s2 ⟨y, H2, I2, r2, q2⟩ =>
  thn (ho pins s2 σ H2 x y v u _ I2 r1 r2 q2) fun d s3 ⟨z, H3, I3, r3, k, e, q3⟩ => ?_)) hm
 subst e
 cases r3
 refine wpAny_truthy_bool ?_
 cases k with
 | false =>
   obtain ⟨k', e', q'⟩ := q3
   cases e'
   exact ite_ff ⟨H3, I3, q'⟩
 | true =>
   refine ite_tt (test_last (thn (hc pins s3 σ H3 _ I3 q3) fun w' s4 ⟨z', H4, I4, r4, q4⟩ => thn (ho' pins s4 σ H4 y z' u w' _ I4 r2 r4 q4) fun d' s5 ⟨z2, H5, I5, r5, k2, e2, q5⟩ => ?_))
   subst e2
   cases r5
   exact wpAny_truthy_bool ⟨H5, I5, q5⟩
noncomputable def TruV (K : PySem.W.Frag) (x : V) (H : Hp) (k : Bool) : Prop :=
 match x with
 | .non => k = false
 | .bl b => k = b
 | .int i => k = (i != 0)
 | .str y => y.length ≤ sizeLine ∧ k = ((y.length : Int) != 0)
 | .byt y => y.size ≤ sizeLine ∧ k = ((y.size : Int) != 0)
 | .ref p => (∃ xs, SqL K H p xs ∧ k = !xs.isEmpty) ∨ (∃ xs, SqT K H p xs ∧ k = !xs.isEmpty) ∨ ∃ kvs, H p = some (.dK kvs) ∧ k = !kvs.isEmpty
 | _ => False
theorem isEmpty_kv {κ : Type} {kvs : List (κ × V)} {vs : List (κ × Value)} (r : KV kvs vs) : (!vs.isEmpty) = !kvs.isEmpty := by
 cases r <;> rfl
theorem isEmpty_of {xs : List V} {its : List Value} (r : Vals xs its) : (!its.toArray.isEmpty) = !xs.isEmpty := by
 cases r <;> simp
theorem line63 : (sizeLine : Nat) < 2 ^ 63 := by rw [sizeLine_eq]; decide
theorem tru_ok : TruR X (fun x H Q => ∃ k, TruV X.K x H k ∧ Q k H) := by
 intro pins s σ H x v Q I rx h
 obtain ⟨k, e, q⟩ := h
 have hl := line63
 have hs : sizeLine = 16777216 := sizeLine_eq
 cases x with
 | non =>
   cases rx
   have e' : k = false := e
   subst e'
   exact truthy_none ⟨H, I, q⟩
 | bl b =>
   cases rx
   have e' : k = b := e
   subst e'
   exact wpAny_truthy_bool ⟨H, I, q⟩
 | int i =>
   obtain ⟨t, rfl⟩ := rx
   have e' : k = (i != 0) := e
   subst e'
   exact PySem.P.truthy_int ⟨H, I, q⟩
 | str y =>
   obtain ⟨t, rfl⟩ := rx
   obtain ⟨hy, e'⟩ : y.length ≤ sizeLine ∧ k = ((y.length : Int) != 0) := e
   subst e'
   exact PySem.P.truthy_str (by omega) ⟨H, I.tok _, q⟩
 | byt y =>
   obtain ⟨t, rfl⟩ := rx
   obtain ⟨hy, e'⟩ : y.size ≤ sizeLine ∧ k = ((y.size : Int) != 0) := e
   subst e'
   exact PySem.W.truthy_bytes (by omega) ⟨H, I.tok _, q⟩
 | ref p =>
   cases rx
   have e' : (∃ xs, SqL X.K H p xs ∧ k = !xs.isEmpty) ∨ (∃ xs, SqT X.K H p xs ∧ k = !xs.isEmpty) ∨ ∃ kvs, H p = some (.dK kvs) ∧ k = !kvs.isEmpty := e
   rcases e' with ⟨xs, hx, e'⟩ | ⟨xs, hx, e'⟩ | ⟨kvs, hx, e'⟩
   · subst e'
     obtain ⟨its, r, pl, hz⟩ := I.list hx
     have hlen := r.length
     exact wpAny_truthy_list pl.isList (by simp only [List.size_toArray]; omega) ⟨H, I.tok _, by rw [isEmpty_of r]; exact q⟩
   · subst e'
     obtain ⟨its, r, pl, hz⟩ := I.tuple hx
     have hlen := r.length
     exact truthy_tuple pl (by simp only [List.size_toArray]; omega) ⟨H, I.tok _, by rw [isEmpty_of r]; exact q⟩
   · subst e'
     obtain ⟨hz, hS, vs, r, m⟩ : kvs.length ≤ sizeLine ∧ (p == sysModules) = false ∧ ∃ vs, KV kvs vs ∧ s.heap.DictOf (mixKind X.prog X.w) p vs := I.hok p _ hx
     have hlen : kvs.length = vs.length := Paired.length r
     exact wpAny_truthy_dict hS m (by omega) ⟨H, I.tok _, by rw [isEmpty_kv r]; exact q⟩
 | _ => exact (show False from e).elim
theorem pt_truth (ha : PE X a ta) (he : ∀ whole, isTrue a X.env whole = (do let v ← whole; standAt a.pos; holding [v] (truthy v))) :
  PT X a (fun σ H Q => ta σ H fun x H' => ∃ k, TruV X.K x H' k ∧ Q k H') := by
 intro pins s σ H Q I h
 exact isTrue_plain (thn (ha pins s σ H _ I h) fun v s1 ⟨x, H1, I1, r1, q1⟩ => tru_ok pins s1 σ H1 x v Q I1 r1 q1) (he _)
theorem vals1 {x : V} {us : List Value} (r : Vals [x] us) : ∃ u, us = [u] ∧ RelV x u := by
 cases r with
 | cons r1 r2 => cases r2; exact ⟨_, rfl, r1⟩
theorem vals2 {x y : V} {us : List Value} (r : Vals [x, y] us) : ∃ u w', us = [u, w'] ∧ RelV x u ∧ RelV y w' := by
 cases r with
 | cons r1 r2 =>
   cases r2 with
   | cons r3 r4 => cases r4; exact ⟨_, _, rfl, r1, r3⟩
theorem call_int1 : CallR X (.type "int") (fun xs H Q => (∃ i, xs = [.int i] ∧ Q (.int i) H) ∨ ∃ k, xs = [.bl k] ∧ Q (.int (if k then 1 else 0)) H) := by
 intro pins s σ H xs us Q I r h
 rcases h with ⟨i, rfl, q⟩ | ⟨k, rfl, q⟩
 · obtain ⟨u, rfl, t, rfl⟩ := vals1 r
   exact call_int_int ⟨.int i, H, I, ⟨_, rfl⟩, q⟩
 · obtain ⟨u, rfl, r1⟩ := vals1 r
   cases r1
   exact call_int_bool ⟨.int (if k then 1 else 0), H, I.tok _, ⟨_, rfl⟩, q⟩
end
structure ObjM (h : Heap) (x dx C : Addr) (mA : Str → Option Value) : Prop where
 obj : h.get? x = some (PySem.W.instObj C dx)
 ns : h.Ns1 dx mA
 ne : dx ≠ x
theorem lookIn_ns {h : Heap} {dx : Addr} {mA : Str → Option Value} (n : h.Ns1 dx mA) : ∃ od, h.get? dx = some od ∧ ∀ name, PySem.W.lookIn name od = some (mA name) := by
 obtain ⟨o, es, ep, ho, hd, hk, _, hm⟩ := n
 refine ⟨o, ho, fun name => ?_⟩
 have e := hm name
 unfold nsFind findBy at e
 rw [← Array.find?_toList] at e
 unfold PySem.W.lookIn
 rw [hd]
 dsimp only
 split
 · rename_i y q
   rw [q] at e
   exact congrArg some e
 · rename_i q
   rw [q] at e
   have a : es.toList.any (·.refKey) = false := by
    rw [List.any_eq_false]
    intro y hy
    obtain ⟨z, t, hkey⟩ := hk y (Array.mem_toList_iff.mp hy)
    simp [DictEntry.refKey, hkey]
   have a' : ¬ es.toList.any (·.refKey) = true := by rw [a]; exact Bool.false_ne_true
   rw [if_neg a']
   exact congrArg some e
theorem ObjM.look {h : Heap} {x dx C : Addr} {mA : Str → Option Value} (I : ObjM h x dx C mA) : ∃ od, PySem.W.InstAt h x (PySem.W.instObj C dx) C (some od) ∧ ∀ name, PySem.W.lookIn name od = some (mA name) :=
 let ⟨od, ho, hl⟩ := lookIn_ns I.ns
 ⟨od, ⟨I.obj, rfl, rfl, ho⟩, hl⟩
section
variable {prog : Program} {w : World} {A : Around} {E : Value → Shared → Prop} {s : Shared} {K : PySem.W.Frag} {x dx C f : Addr} {mA : Str → Option Value} {name : Str} {v : Value}
end
theorem RelO.some_of {v : V} {o : Option Value} (r : RelO (some v) o) : ∃ u, o = some u ∧ RelV v u := by
 cases o with
 | none => exact (show False from r).elim
 | some u => exact ⟨u, rfl, r⟩
section
variable {P : Program} {w : World} {H H' : Hp} {h h' : Heap} {a C dx : Addr} {fs fs' : List (Str × V)}
theorem ins_get (hok : HOk P w H h) (e : H a = some (.ins C dx fs)) : ∃ mA, ObjM h a dx C mA ∧ (∀ f, RelO (fs.lookup f) (mA f)) ∧ PySem.Within mA (fs.map (·.1)) ∧ fs.length ≤ 1000 ∧ H dx = some (.own a) := by
 obtain ⟨d, z, ne, ob, mA, n, r, q⟩ := (show ObjOk P w H h a (.ins C dx fs) from hok a _ e)
 exact ⟨mA, ⟨ob, n, ne⟩, r, q, z, d⟩
end
structure Cls (K : PySem.W.Frag) (C : Addr) : Prop where
 pg : PySem.W.plainGet K C Str.empty = true
 hd : PySem.W.hasDictIn K C = true
 po : PySem.W.plainOver K C = true
 sa : PySem.W.findIn K (.ref C) "__setattr__" = some (some (.builtin "object.__setattr__"))
theorem Cls.get {K : PySem.W.Frag} {C : Addr} (c : Cls K C) (f : Str) : PySem.W.plainGet K C f = true := c.pg
section
variable {X : Cx} {pins : List (Addr × Obj)} {σ : St} {H : Hp} {s : Shared} {a C dx : Addr} {fs : List (Str × V)} {f : Str} {v : V} {A : Around} {E : Value → Shared → Prop}
end
section
variable {X : Cx} {o e value : Expr} {f : Str} {pos pos' tpos : Pos} {ta tv : TE}
end
section
variable {X : Cx} {pins : List (Addr × Obj)} {σ : St} {H : Hp} {s : Shared} {A : Around} {E : Value → Shared → Prop} {Q : Value → Shared → Prop} {c : Value} {b : Bool}
inductive TyOf (K : PySem.W.Frag) (H : Hp) : V → Value → Prop where
 | non : TyOf K H .non (.type "NoneType")
 | bl (x : Bool) : TyOf K H (.bl x) (.type "bool")
 | int (i : Int) : TyOf K H (.int i) (.type "int")
 | str (x : Str) : TyOf K H (.str x) (.type "str")
 | flt (x : UInt64) : TyOf K H (.flt x) (.type "float")
 | lst {a : Addr} {xs : List V} (e : H a = some (.lst xs)) : TyOf K H (.ref a) (.type "list")
 | frz {a : Addr} {o : Obj} {xs : List V} (e : H a = some (.frz o (.lst xs))) : TyOf K H (.ref a) (.type "list")
 | tup {a : Addr} {xs : List V} (e : H a = some (.tup xs)) : TyOf K H (.ref a) (.type "tuple")
 | dK {a : Addr} {kvs : List (Key × V)} (e : H a = some (.dK kvs)) : TyOf K H (.ref a) (.type "dict")
 | dT {a : Addr} {kvs : List (List Key × V)} (e : H a = some (.dT kvs)) : TyOf K H (.ref a) (.type "dict")
 | ins {a C dx : Addr} {fs : List (Str × V)} (e : H a = some (.ins C dx fs)) (cl : Cls K C) (ha : PySem.W.findIn K (.ref C) "__class__" = some (some (.builtin "object.__class__")))
  (hn : PySem.W.specialIn K (.builtin "object.__class__") "__get__" = some (some (.builtin "getset_descriptor.__get__"))) (htk : PySem.W.takesIn K (.builtin "object.__class__") = some true)
  (hm : PySem.W.mroIn K C (.type "object") = some true) : TyOf K H (.ref a) (.ref C)
theorem isinst_ok {x : V} {u t : Value} (I : Inv X pins σ H s) (rx : RelV x u) (ty : TyOf X.K H x t) (e : PySem.W.kitOne X.K t c = some b) (h : ∀ tk, Q (.bool b) { s with toks := tk }) :
  wpAny (model X.prog X.w) A (call (.builtin "isinstance") [u, c]) Q E s := by
 cases ty with
 | non => cases (show u = Value.none from rx); exact PySem.W.kia_one PySem.W.kitx_none I.kIn True.intro e (fun z => nomatch z) h
 | bl y => cases (show u = Value.bool y from rx); exact PySem.W.kia_one PySem.W.kitx_bool I.kIn True.intro e (fun z => nomatch z) h
 | int i => obtain ⟨t, q⟩ := (show ∃ t, u = Value.int i t from rx); cases q; exact PySem.W.kia_one PySem.W.kitx_int I.kIn True.intro e (fun z => nomatch z) h
 | str y => obtain ⟨t, q⟩ := (show ∃ t, u = Value.str y t from rx); cases q; exact PySem.W.kia_one PySem.W.kitx_str I.kIn True.intro e (fun z => nomatch z) h
 | flt y => obtain ⟨t, q⟩ := (show ∃ t, u = Value.float y t from rx); cases q; exact PySem.W.kia_one PySem.W.kitx_float I.kIn True.intro e (fun z => nomatch z) h
 | @lst a xs ea =>
   cases (show u = Value.ref a from rx)
   obtain ⟨_, _, n, _, h1⟩ := (show ObjOk X.prog X.w H s.heap a (.lst xs) from I.hok a _ ea)
   exact PySem.W.kia_one PySem.W.kitx_list I.kIn ⟨_, h1, rfl⟩ e (fun z => nomatch z) h
 | @frz a ob xs ea =>
   cases (show u = Value.ref a from rx)
   obtain ⟨_, _, _, n, _, h1⟩ := (show ObjOk X.prog X.w H s.heap a (.frz ob (.lst xs)) from I.hok a _ ea)
   exact PySem.W.kia_one PySem.W.kitx_list I.kIn ⟨_, h1, rfl⟩ e (fun z => nomatch z) h
 | @tup a xs ea =>
   cases (show u = Value.ref a from rx)
   obtain ⟨_, _, _, p⟩ := (show ObjOk X.prog X.w H s.heap a (.tup xs) from I.hok a _ ea)
   obtain ⟨⟨o, h1, h2, _⟩, _⟩ := p
   exact PySem.W.kia_one PySem.W.kitx_tuple I.kIn ⟨o, h1, h2⟩ e (fun z => nomatch z) h
 | @dK a kvs ea =>
   cases (show u = Value.ref a from rx)
   obtain ⟨_, _, vs, _, p⟩ := (show ObjOk X.prog X.w H s.heap a (.dK kvs) from I.hok a _ ea)
   obtain ⟨o, es, ep, h1, h2, _⟩ := p
   exact PySem.W.kia_one PySem.W.kitx_dict I.kIn ⟨o, h1, h2.1⟩ e (fun z => nomatch z) h
 | @dT a kvs ea =>
   cases (show u = Value.ref a from rx)
   obtain ⟨_, _, xs, _, o, es, ep, h1, h2, _⟩ := (show ObjOk X.prog X.w H s.heap a (.dT kvs) from I.hok a _ ea)
   exact PySem.W.kia_one PySem.W.kitx_dict I.kIn ⟨o, h1, h2.1⟩ e (fun z => nomatch z) h
 | @ins a C dx fs ea cl ha hn htk hm =>
   cases (show u = Value.ref a from rx)
   obtain ⟨mA, O, _⟩ := ins_get I.hok ea
   obtain ⟨od, J, _⟩ := O.look
   exact PySem.W.kia_one (PySem.W.kitx_own (cl.get _) cl.hd ha hn htk hm) I.kIn J e (fun z => nomatch z) h
end
structure Room (k : Nat) (A : Around) : Prop where
 hd : A.handled = none
 dp : A.depth + 3 * k + 5 < recursionLimit
 un : A.units + 16 * k + 200 < cLine
theorem Room.mono {j k : Nat} {A : Around} (r : Room k A) (h : j ≤ k) : Room j A := ⟨r.hd, by have := r.dp; omega, by have := r.un; omega⟩
theorem Room.deeper {k : Nat} {A : Around} (r : Room (k + 1) A) (env : Env) : Room k (A.deeper env) :=
 ⟨r.hd, by have := r.dp; show A.depth + 1 + 3 * k + 5 < _; omega, by have := r.un; show A.units + 3 + 16 * k + 200 < _; omega⟩
theorem Room.depth {k : Nat} {A : Around} (r : Room k A) : A.depth < recursionLimit := by have := r.dp; omega
theorem Room.units {k : Nat} {A : Around} (r : Room k A) : A.units + 64 < cLine := by have := r.un; omega
noncomputable def tNil : TA := fun _ H Q => Q [] H
noncomputable def tCons (ta : TE) (tr : TA) : TA := fun σ H Q => ta σ H fun x H1 => tr σ H1 fun xs H2 => Q (x :: xs) H2
section
variable {X : Cx} {e : Expr} {es : List Expr} {te : TE} {t : TA} {pos : Pos}
theorem zqc : PA X [] tNil := fun _ _ _ _ H Q I h => Calls.spliced_nil ⟨[], H, I, .nil, h⟩
theorem zqa (ha : PE X e te) (hr : PA X es t) (hs : starEach (e :: es) X.env = (false, eval e X.env) :: starEach es X.env := by rfl) : PA X (e :: es) (tCons te t) := by
 intro pos pins s σ H Q I h
 rw [hs]
 show wpAny _ _ (spliced ((false, eval e X.env) :: backTo pos (starEach es X.env))) _ _ s
 refine Calls.spliced_cons (thn (ha pins s σ H _ I h) fun u s1 ⟨x, H1, I1, r1, q1⟩ => ?_)
 exact thn (hr pos pins s1 σ H1 _ I1 q1) fun us s2 ⟨xs, H2, I2, r2, q2⟩ => ⟨x :: xs, H2, I2, .cons r1 r2, q2⟩
noncomputable def tTup (t : TA) : TE := fun σ H Q => t σ H fun xs H1 => xs.length ≤ sizeLine ∧ ∀ p, H1 p = none → Q (.ref p) (upd H1 p (.tup xs))
noncomputable def tLst (t : TA) : TE := fun σ H Q => t σ H fun xs H1 => xs.length ≤ sizeLine ∧ ∀ p, H1 p = none → Q (.ref p) (upd H1 p (.lst xs))
theorem pe_tup {x1} (h : PA X es t) : PE X (.Tuple es x1 pos) (tTup t) := by
 intro pins s σ H Q I hq
 refine wpAny_Tuple_spliced (thn (h pos pins s σ H _ I hq) fun us s1 ⟨xs, H1, I1, r, z, q⟩ => ⟨by rw [← r.length]; exact z, ?_⟩)
 have hf : H1 s1.heap.objs.size = none := I1.hok.fresh (Nat.le_refl _)
 refine ⟨.ref s1.heap.objs.size, upd H1 s1.heap.objs.size (.tup xs), I1.laid (t' := s1.toks) (fun b u e => Heap.get?_push_of_some _ e) (Nat.le_refl _) ?_, rfl, q _ hf⟩
 exact ⟨z, us, r, ⟨_, Heap.get?_push_size _ rfl, rfl, _, rfl⟩, NoD.push⟩
theorem pe_lst (h : PA X es t) : PE X (.List es pos) (tLst t) := by
 intro pins s σ H Q I hq
 refine wpAny_List_spliced (thn (h pos pins s σ H _ I hq) fun us s1 ⟨xs, H1, I1, r, z, q⟩ => ⟨by rw [← r.length]; exact z, ?_⟩)
 have hf : H1 s1.heap.objs.size = none := I1.hok.fresh (Nat.le_refl _)
 refine ⟨.ref s1.heap.objs.size, upd H1 s1.heap.objs.size (.lst xs), I1.laid (t' := s1.toks) (fun b u e => Heap.get?_push_of_some _ e) (Nat.le_refl _) ?_, rfl, q _ hf⟩
 exact ⟨z, us, 0, r, Heap.get?_push_size _ rfl⟩
end
abbrev Sp := List V → Hp → VK → XK → Prop
abbrev CXT := List Env → Hp → Shared → XK → Value → Shared → Prop
structure Env0 (P : Program) (w : World) (K : PySem.W.Frag) (mg : Str → Option Value) (base : Heap) (A : Around) (outer : List Env) (s : Shared) (H : Hp) : Prop where
 frames : A.frames = some outer
 mod : Mod K mg base
 bs : ∀ b o, base.get? b = some o → s.heap.get? b = some o ∧ H b = none
 bsz : base.objs.size ≤ s.heap.objs.size
 funs : s.heap.FunFrames base outer
 frf : ∀ b ∈ frs outer, H b = none
 hok : HOk P w H s.heap
 bare : AllBare s.gens
noncomputable def CE (outer : List Env) (P : Program) (w : World) (H : Hp) (s : Shared) (Q : VK) (u : Value) (s' : Shared) : Prop :=
 ∃ v H', s'.os = s.os ∧ AllBare s'.gens ∧ Un (frs outer) [] H H' s.heap s'.heap ∧ HOk P w H' s'.heap ∧ RelV v u ∧ Q v H'
noncomputable def CR (CX : CXT) (outer : List Env) (P : Program) (w : World) (H : Hp) (s : Shared) (Q : VK) (E : XK) (r : Result) (s' : Shared) : Prop :=
 match r with
 | .ok (.ret u) => CE outer P w H s Q u s'
 | .ok _ => False
 | .error e => CX outer H s E e s'
structure FnOk (P : Program) (w : World) (K : PySem.W.Frag) (mg : Str → Option Value) (base : Heap) (CX : CXT) (k : Nat) (f : Addr) (fd : FuncData) (ps : List Str) (sp : Sp) : Prop where
 len : ∀ vs H Q E, sp vs H Q E → vs.length = ps.length
 run : ∀ (A : Around) (outer : List Env) (s : Shared) (H : Hp) (args : Args) (us : List Value) (vs : List V) (Q : VK) (E : XK), Room k A → Env0 P w K mg base A outer s H → BindsTo s fd args (ps.zip us) → Vals vs us → sp vs H Q E →
  codeAny (model P w) A (.call (.ref f) args) (CR CX outer P w H s Q E) s
section
variable {X : Cx} {pins : List (Addr × Obj)} {σ : St} {H : Hp} {s s' : Shared}
theorem Inv.env0 (I : Inv X pins σ H s) : Env0 X.prog X.w X.K X.mg X.base X.A X.stack s H :=
 ⟨I.ok.frames, I.ok.mod, I.bs, Nat.le_trans I.ok.bsz I.sz, I.stack, I.stkFree, I.hok, I.bare⟩
theorem Inv.after {Q : VK} {u : Value} (I : Inv X pins σ H s) (h : CE X.stack X.prog X.w H s Q u s') : EP X pins σ Q u s' := by
 obtain ⟨v, H', os, bare, un, hok, r, q⟩ := h
 obtain ⟨hh, g, d, t, os'⟩ := s'
 obtain rfl : os' = s.os := os
 exact ⟨v, H', I.call (h' := hh) (g' := g) (d' := d) (t' := t) (ch := []) un hok bare (fun b z => absurd z (by simp)), r, q⟩
end
noncomputable def tCall (sp : Sp) (dvs : List V) (E : XK) (t : TA) : TE := fun σ H Q => t σ H fun vs H1 => sp (vs ++ dvs) H1 Q E
noncomputable def Binds (K : PySem.W.Frag) (fd : FuncData) (ps : List Str) (ds : List Value) : Prop :=
 ∀ (s : Shared) (us : List Value), K.In s.heap → (us ++ ds).length = ps.length → BindsTo s fd ⟨us, []⟩ (ps.zip (us ++ ds))
theorem Binds.all {K : PySem.W.Frag} {fd : FuncData} {ps : List Str} (h : ∀ us : List Value, us.length = ps.length → bindArgs fd ⟨us, []⟩ = pure (ps.zip us)) : Binds K fd ps [] := fun s us _ hl => by
 rw [List.append_nil] at hl ⊢
 exact .of_eq (h us hl)
noncomputable def Passes (CX : CXT) (X : Cx) (E : XK) : Prop := ∀ (pins : List (Addr × Obj)) (σ : St) (H : Hp) (s : Shared) (e : Value) (s' : Shared), Inv X pins σ H s → CX X.stack H s E e s' → X.xe e s'
section
variable {X : Cx} {CX : CXT} {k : Nat} {f C : Addr} {fd : FuncData} {ps : List Str} {sp : Sp} {dvs : List V} {ds : List Value} {E : XK} {x m : Str} {p pos apos : Pos} {e o : Expr} {es : List Expr} {ta : TE} {t : TA}
theorem run_fn {pins : List (Addr × Obj)} {σ : St} {H : Hp} {s : Shared} {Q : VK} {us : List Value} {vs : List V} (F : FnOk X.prog X.w X.K X.mg X.base CX k f fd ps sp) (hr : Room k X.A) (hb : Binds X.K fd ps ds) (hd : Vals dvs ds) (hx : Passes CX X E)
  (I : Inv X pins σ H s) (r : Vals vs us) (h : sp (vs ++ dvs) H Q E) : wpAny (model X.prog X.w) X.A (call (.ref f) us) (EP X pins σ Q) X.xe s := by
 have r2 : Vals (vs ++ dvs) (us ++ ds) := r.append hd
 have hl : (us ++ ds).length = ps.length := by rw [← r2.length]; exact F.len _ _ _ _ h
 refine wpAny_call (codeAny_mono (F.run X.A X.stack s H ⟨us, []⟩ (us ++ ds) (vs ++ dvs) Q E hr I.env0 (hb s us I.kIn hl) r2 h) fun r s' hq => ?_)
 cases r with
 | error e => exact hx pins σ H s e s' I hq
 | ok fl =>
   cases fl with
   | ret u => exact I.after hq
   | next => exact False.elim hq
   | brk => exact False.elim hq
   | cont => exact False.elim hq
theorem pe_call (F : FnOk X.prog X.w X.K X.mg X.base CX k f fd ps sp) (hr : Room k X.A) (hg : Gl X x) (hm : X.mg x = some (.ref f)) (hk : PySem.W.keepIn X.K (.ref f) = true) (hb : Binds X.K fd ps ds) (hd : Vals dvs ds) (hx : Passes CX X E)
  (ha : PA X (e :: es) t) (hdb : (x == ("__debug__" : Str)) = false := by decide) (he : starEach (e :: es) X.env = (false, eval e X.env) :: starEach es X.env := by rfl) (hpl : (backTo pos (starEach es X.env)).any (·.1) = false := by rfl) :
  PE X (.Call (.Name x p) (e :: es) [] pos) (tCall sp dvs E t) := by
 intro pins s σ H Q I h
 refine wpAny_Call_Name_kw (ld_glob I hg hm ?_ hdb)
 refine PySem.W.callWith_K (h₀ := X.base) I.ok.mod.kin hk (thn (ha pos pins s σ H _ I h) fun us s1 ⟨vs, H1, I1, r, q⟩ => ⟨I1.kIn, ?_⟩) he hpl
 exact run_fn F hr hb hd hx I1 r q
end
section
variable {X : Cx} {CX : CXT} {k : Nat} {f C : Addr} {fd : FuncData} {ps ks : List Str} {sp : Sp} {E : XK} {x m : Str} {p pos apos kpos : Pos} {e o : Expr} {es : List Expr} {kws : List Keyword} {te ta : TE} {t tk : TA} {nm : Option Str}
variable {g : List Value → List Value → List Value} {gV : List V → List V → List V}
end
structure FnScope (N P : List Str) (sc : Scope) : Prop where
 kind : sc.kind = .function
 co : sc.isCoroutine = false
 gen : sc.isGenerator = false
 nd : N.Nodup
 pre : N.take P.length = P
 par : ∀ x ∈ P, sc.names.lookup x = some .local ∨ sc.names.lookup x = some .cell
 nofree : ∀ y ∈ sc.names, y.2 ≠ .free
theorem bindL_out {kindOf : Str → Option NameKind} {x : Str} : ∀ {binds : List (Str × Value)} {m : Str → Option Value}, (∀ v, (x, v) ∉ binds) → bindL kindOf binds m x = m x
 | [], _, _ => rfl
 | (n, v) :: r, m, h => by
   unfold bindL
   rw [bindL_out fun w hw => h w (List.mem_cons_of_mem _ hw)]
   split
   · have : x ≠ n := by rintro rfl; exact h v List.mem_cons_self
     simp [this]
   · rfl
theorem bindC_out {kindOf : Str → Option NameKind} {x : Str} : ∀ {binds : List (Str × Value)} {m : Str → Option Value}, (∀ v, (x, v) ∉ binds) → bindC kindOf binds m x = m x
 | [], _, _ => rfl
 | (n, v) :: r, m, h => by
   unfold bindC
   rw [bindC_out fun w hw => h w (List.mem_cons_of_mem _ hw)]
   split
   · rfl
   · have : x ≠ n := by rintro rfl; exact h v List.mem_cons_self
     simp [this]
theorem bindL_get {kindOf : Str → Option NameKind} {x : Str} {v : Value} : ∀ {P : List Str} {vs : List Value} {i : Nat} {m : Str → Option Value}, P.Nodup → P[i]? = some x → vs[i]? = some v → kindOf x = some .local →
  bindL kindOf (P.zip vs) m x = some v
 | [], _, _, _, _, h, _, _ => by simp at h
 | _ :: _, [], _, _, _, _, h, _ => by simp at h
 | p :: P, w :: vs, 0, m, nd, h1, h2, hk => by
   simp at h1 h2; subst h1; subst h2
   show bindL kindOf ((p, w) :: P.zip vs) m p = _
   unfold bindL
   rw [bindL_out fun v hv => (List.nodup_cons.mp nd).1 (List.of_mem_zip hv).1, if_pos hk]
   simp
 | p :: P, w :: vs, i + 1, m, nd, h1, h2, hk => by
   show bindL kindOf ((p, w) :: P.zip vs) m x = _
   unfold bindL
   exact bindL_get (i := i) (List.nodup_cons.mp nd).2 (by simpa using h1) (by simpa using h2) hk
theorem bindC_get {kindOf : Str → Option NameKind} {x : Str} {v : Value} : ∀ {P : List Str} {vs : List Value} {i : Nat} {m : Str → Option Value}, P.Nodup → P[i]? = some x → vs[i]? = some v → kindOf x ≠ some .local →
  bindC kindOf (P.zip vs) m x = some v
 | [], _, _, _, _, h, _, _ => by simp at h
 | _ :: _, [], _, _, _, _, h, _ => by simp at h
 | p :: P, w :: vs, 0, m, nd, h1, h2, hk => by
   simp at h1 h2; subst h1; subst h2
   show bindC kindOf ((p, w) :: P.zip vs) m p = _
   unfold bindC
   rw [bindC_out fun v hv => (List.nodup_cons.mp nd).1 (List.of_mem_zip hv).1, if_neg hk]
   simp
 | p :: P, w :: vs, i + 1, m, nd, h1, h2, hk => by
   show bindC kindOf ((p, w) :: P.zip vs) m x = _
   unfold bindC
   exact bindC_get (i := i) (List.nodup_cons.mp nd).2 (by simpa using h1) (by simpa using h2) hk
noncomputable def start (N : List Str) (vs : List V) : St := vs.map some ++ List.replicate (N.length - vs.length) none
noncomputable def cxOf (CX : CXT) (P : Program) (w : World) (K : PySem.W.Frag) (mg : Str → Option Value) (base : Heap) (N : List Str) (qual : Str) (scope : Scope) (f : Addr) (cd : Value) (A : Around) (outer : List Env) (s : Shared) (H : Hp) (E : XK) : Cx where
 prog := P
 w := w
 K := K
 mg := mg
 base := base
 A := A.deeper (envOfC qual scope s.heap.objs.size f cd)
 N := N
 s₀ := s
 H₀ := H
 env := envOfC qual scope s.heap.objs.size f cd
 outer := outer
 stack := envOfC qual scope s.heap.objs.size f cd :: outer
 ex := []
 calm := true
 fn := fun _ => true
 pn := []
 xe := fun e s' => wpAny (model P w) (A.deeper (envOfC qual scope s.heap.objs.size f cd)) (leaving (envOfC qual scope s.heap.objs.size f cd) e) (fun _ s'' => CX outer H s E e s'') (fun e' s'' => CX outer H s E e' s'') s'
theorem cell_has {sc : Scope} {n : Nat} {x : Str} (h : sc.names.lookup x = some .cell) : ∃ c, (cellsFrom n sc.names []).lookup x = some c := by
 have q := PySem.W.cellsFrom_some sc.names n [] (.inl h)
 exact Option.isSome_iff_exists.mp q
theorem inv_start {CX : CXT} {P : Program} {w : World} {K : PySem.W.Frag} {mg : Str → Option Value} {base : Heap} {N ps : List Str} {qual : Str} {scope : Scope} {f : Addr} {cd : Value} {A : Around} {outer : List Env} {s s1 : Shared} {H : Hp} {E : XK} {us : List Value} {vs : List V}
  (S : FnScope N ps scope) (hd : A.handled = none) (e0 : Env0 P w K mg base A outer s H) (hl : vs.length = ps.length) (r : Vals vs us)
  (x : InCallC s s.heap.objs.size (bindL (envOfC qual scope s.heap.objs.size f cd).kindOf (ps.zip us) fun _ => none) (cellsFrom (s.heap.objs.size + 1) scope.names []) (bindC (envOfC qual scope s.heap.objs.size f cd).kindOf (ps.zip us) fun _ => none) s1) :
  Inv (cxOf CX P w K mg base N qual scope f cd A outer s H E) [] (start N vs) H s1 := by
 have hpl : ps.length ≤ N.length := by have := congrArg List.length S.pre; rw [List.length_take] at this; omega
 obtain ⟨h1, tk, rfl, hk⟩ := x.done
 have noA : ∀ b : Addr, b ∉ (cxOf CX P w K mg base N qual scope f cd A outer s H E).ex := fun b z => absurd (show b ∈ ([] : List Addr) from z) (by simp)
 refine ⟨⟨e0.mod, S.kind, rfl, rfl, Nat.le_refl _, fun y z c h1 h2 => ?_, fun y hy => ?_, fun y c _ h => ?_, fun _ => hd, Around.frames_deeper e0.frames, .inr ⟨rfl, rfl⟩, fun b z => absurd z (noA b), e0.bs, e0.bsz, fun b _ _ => noA b, fun b z => absurd z (noA b), e0.funs, e0.frf⟩,
  rfl, e0.bare, Un.kept hk, ⟨_, x.toInCall.ns, fun i y v h1 h2 h3 => ?_⟩, fun y c h => ⟨_, x.cell y c h⟩, e0.hok.fresh (Nat.le_refl _), fun y c h => ?_, fun p hp => absurd (show p ∈ ([] : List (Addr × Obj)) from hp) (by simp), e0.hok.kept hk, ?_⟩
 · exact name_of_addr x.apart (PySem.mem_of_lookup h1) (PySem.mem_of_lookup h2)
 · have hy : scope.names.lookup y = some .cell ∨ scope.names.lookup y = some .free := hy
   rcases hy with hy | hy
   · exact cell_has hy
   · exact absurd rfl (S.nofree _ (PySem.mem_of_lookup hy))
 · exact Nat.le_of_lt (x.above y c (PySem.mem_of_lookup h))
 · have hi : i < vs.length := by
    unfold start at h2
    by_cases hi : i < vs.length
    · exact hi
    · rw [List.getElem?_append_right (by simpa using hi)] at h2
      rw [List.getElem?_replicate] at h2
      split at h2 <;> cases h2
   have ha : vs[i]? = some v := by
    unfold start at h2
    rw [List.getElem?_append_left (by simpa using hi), List.getElem?_map] at h2
    cases e : vs[i]? with
    | none => rw [e] at h2; cases h2
    | some a => rw [e] at h2; cases h2; rfl
   obtain ⟨u, hu, rv⟩ := r.get ha
   have hp : ps[i]? = some y := by
    rw [← S.pre, List.getElem?_take_of_lt (by omega)]; exact h1
   have ndP : ps.Nodup := by rw [← S.pre]; exact S.nd.sublist (List.take_sublist _ _)
   refine ⟨u, rv, ?_⟩
   rcases S.par y (List.mem_of_getElem? hp) with k | k
   · exact .inl ⟨k, bindL_get ndP hp hu k⟩
   · obtain ⟨c, e⟩ := cell_has (n := s.heap.objs.size + 1) k
     refine .inr ⟨.inl k, c, e, ?_⟩
     have q := x.cell y c e
     rw [bindC_get ndP hp hu (by show scope.names.lookup y ≠ _; rw [k]; decide)] at q
     exact q
 · exact e0.hok.fresh (Nat.le_of_lt (x.above y c (PySem.mem_of_lookup h)))
 · unfold start
   show _ = N.length
   rw [List.length_append, List.length_map, List.length_replicate]
   omega
theorem fn_of {CX : CXT} {P : Program} {w : World} {K : PySem.W.Frag} {mg : Str → Option Value} {base : Heap} {k : Nat} {f : Addr} {name qual : Str} {params : Arguments} {body : List Stmt} {scope : Scope} {dV kV doc pm cdv ct oc : Value} {an od : Option Addr}
  {osl : Array (Option Value)} {N ps : List Str} {sp : Sp} (lk : K.lookup f = some ⟨oc, od, .func (PySem.W.fnOf name qual params body scope dV kV doc pm an cdv ct), osl⟩) (hcd : PySem.W.codeIn K cdv qual = true) (S : FnScope N ps scope)
  (len : ∀ vs H Q E, sp vs H Q E → vs.length = ps.length)
  (hbody : ∀ (A : Around) (outer : List Env) (s : Shared) (H : Hp) (vs : List V) (Q : VK) (E : XK), Room k (A.deeper (envOfC qual scope s.heap.objs.size f cdv)) → sp vs H Q E →
   ∃ t, PSs (cxOf CX P w K mg base N qual scope f cdv A outer s H E) body t ∧ t { nx := fun _ H' => Q .non H', rt := Q } (start N vs) H) :
  FnOk P w K mg base CX (k + 1) f (PySem.W.fnOf name qual params body scope dV kV doc pm an cdv ct) ps sp := by
 refine ⟨len, fun A outer s H args us vs Q E hr e0 hb r hsp => ?_⟩
 have hl := len _ _ _ _ hsp
 have KX : K.In s.heap := e0.mod.kin.keeps fun b o e => (e0.bs b o e).1
 have lim : s.heap.NoLimit := e0.mod.nolimit.keeps fun b o e => (e0.bs b o e).1
 have hkind : ∀ y ∈ ps.zip us, scope.names.lookup y.1 = some .local ∨ (scope.names.lookup y.1 = some .cell ∧ ((cellsFrom (s.heap.objs.size + 1) scope.names []).lookup y.1).isSome = true) := fun ⟨n, v⟩ hy => by
  rcases S.par n (List.of_mem_zip hy).1 with q | q
  · exact .inl q
  · exact .inr ⟨q, PySem.W.cellsFrom_some _ _ _ (.inl q)⟩
 refine codeAny_call_function hr.depth (KX _ _ lk) rfl S.co S.gen rfl (PySem.W.codeRec_of KX hcd) (hb _ _ _ _ ?_)
 refine wpAny_newFunctionEnv_cells S.kind hkind fun env he s1 x => ?_
 subst he
 refine ⟨lim.keeps x.toInCall.keep, codeAny_func ?_⟩
 obtain ⟨t, ht, hq⟩ := hbody A outer s H vs Q E (hr.deeper _) hsp
 have I : Inv (cxOf CX P w K mg base N qual scope f cdv A outer s H E) [] (start N vs) H s1 := inv_start S hr.hd e0 hl r x
 refine wpAny_mono (ht [] s1 (start N vs) H _ I hq) (fun fl s' hs => ?_) fun e s' hs => hs
 have fin : ∀ {σ' : St} {H' : Hp} {v : V} {u : Value}, Inv (cxOf CX P w K mg base N qual scope f cdv A outer s H E) [] σ' H' s' → RelV v u → Q v H' → CE outer P w H s Q u s' :=
  fun {σ' H' v u} J rv q => ⟨v, H', J.os, J.bare, J.base, J.hok, rv, q⟩
 cases fl with
 | ret u =>
   obtain ⟨v, σ', H', J, rv, q⟩ := hs
   exact fin J rv q
 | next =>
   obtain ⟨σ', H', J, q⟩ := hs
   exact fin (v := V.non) (u := Value.none) J rfl q
 | brk =>
   obtain ⟨_, _, _, q⟩ := hs
   exact False.elim q
 | cont =>
   obtain ⟨_, _, _, q⟩ := hs
   exact False.elim q
section
variable {X : Cx} {x : Str} {p pos : Pos} {e : Expr} {es : List Expr} {t : TA} {id T : String} {r : List V → Hp → VK → Prop}
noncomputable def tCB (r : List V → Hp → VK → Prop) (t : TA) : TE := fun σ H Q => t σ H fun vs H1 => r vs H1 Q
theorem zqk (hc : CallR X (.builtin id) r) (hg : Gl X x) (hm : X.mg x = none) (hv : bootBuiltins x = some (.builtin id)) (ha : PA X (e :: es) t) (hn : x ≠ "__name__" := by decide) (hdb : (x == ("__debug__" : Str)) = false := by decide)
  (he : starEach (e :: es) X.env = (false, eval e X.env) :: starEach es X.env := by rfl) (hpl : (backTo pos (starEach es X.env)).any (·.1) = false := by rfl) : PE X (.Call (.Name x p) (e :: es) [] pos) (tCB r t) := by
 intro pins s σ H Q I h
 refine wpAny_Call_Name_kw (ld_blt I hg hm hv ?_ hn hdb)
 exact PyProof.Rows.callWith_builtin1 (thn (ha pos pins s σ H _ I h) fun us s1 ⟨vs, H1, I1, r1, q1⟩ => hc pins s1 σ H1 vs us Q I1 r1 q1) he hpl
theorem zq1 (hc : CallR X (.type T) r) (hg : Gl X x) (hm : X.mg x = none) (hv : bootBuiltins x = some (.type T)) (ha : PA X (e :: es) t) (hn : x ≠ "__name__" := by decide) (hdb : (x == ("__debug__" : Str)) = false := by decide)
  (he : starEach (e :: es) X.env = (false, eval e X.env) :: starEach es X.env := by rfl) (hpl : (backTo pos (starEach es X.env)).any (·.1) = false := by rfl) : PE X (.Call (.Name x p) (e :: es) [] pos) (tCB r t) := by
 intro pins s σ H Q I h
 refine wpAny_Call_Name_kw (ld_blt I hg hm hv ?_ hn hdb)
 exact PyProof.Rows.callWith_type1 (thn (ha pos pins s σ H _ I h) fun us s1 ⟨vs, H1, I1, r1, q1⟩ => hc pins s1 σ H1 vs us Q I1 r1 q1) he hpl
end
section
variable {κ : Type} [DecidableEq κ]
noncomputable def valV (kvs : List (κ × V)) (k : κ) : Option V := (kvs.find? fun kv => decide (kv.1 = k)).map (·.2)
noncomputable def putK (kvs : List (κ × V)) (k : κ) (v : V) : List (κ × V) :=
 if (kvs.any fun kv => decide (kv.1 = k)) = true then kvs.map (fun kv => if kv.1 = k then (kv.1, v) else kv) else kvs ++ [(k, v)]
theorem valV_pos {p : κ × V} {r : List (κ × V)} {k : κ} (e : p.1 = k) : valV (p :: r) k = some p.2 := by simp [valV, List.find?_cons, e]
theorem valV_neg {p : κ × V} {r : List (κ × V)} {k : κ} (e : ¬ p.1 = k) : valV (p :: r) k = valV r k := by simp [valV, List.find?_cons, e]
theorem valV_any (k : κ) : ∀ kvs : List (κ × V), (kvs.any fun kv => decide (kv.1 = k)) = (valV kvs k).isSome
 | [] => rfl
 | p :: r => by
   rw [List.any_cons]
   by_cases e : p.1 = k
   · simp only [valV_pos e, decide_eq_true e, Bool.true_or, Option.isSome_some]
   · rw [valV_neg e, decide_eq_false e, Bool.false_or]; exact valV_any k r
theorem length_putK (kvs : List (κ × V)) (k : κ) (v : V) : (putK kvs k v).length ≤ kvs.length + 1 := by
 unfold putK
 split
 · rw [List.length_map]; omega
 · rw [List.length_append, List.length_cons, List.length_nil]; omega
theorem putK_new {kvs : List (κ × V)} {k : κ} (v : V) (h : valV kvs k = none) : putK kvs k v = kvs ++ [(k, v)] := by
 unfold putK
 rw [valV_any, h]
 exact if_neg (by decide)
theorem RelO.isSome_eq {o : Option V} {u : Option Value} (r : RelO o u) : o.isSome = u.isSome := by
 cases o with
 | none => cases u with
   | none => rfl
   | some _ => exact (show False from r).elim
 | some _ => cases u with
   | none => exact (show False from r).elim
   | some _ => rfl
end
theorem kV_is {P : Program} {w : World} {k : Key} {u : Value} (r : RelV (kV k) u) : (mixKind P w).is k u = true := by
 cases k with
 | inl i => obtain ⟨t, e⟩ := (show ∃ t, u = Value.int i t from r); subst e; exact mixKind_int P w i t
 | inr x => obtain ⟨t, e⟩ := (show ∃ t, u = Value.str x t from r); subst e; exact mixKind_str P w x t
theorem items_are {P : Program} {w : World} : ∀ {ks : List Key} {us : List Value}, Vals (ks.map kV) us → ItemsAre (mixKind P w) ks us
 | [], _, r => by rw [List.map_nil] at r; cases r; exact .nil
 | k :: ks, _, r => by
   rw [List.map_cons] at r
   cases r with
   | cons h t => exact .cons (kV_is h) (items_are t)
abbrev KT (H : Hp) : List (List Key × V) → List (List Key × Addr × Value) → Prop := Paired fun p q => p.1 = q.1 ∧ H q.2.1 = some (.tup (p.1.map kV)) ∧ RelV p.2 q.2.2
section
variable {P : Program} {w : World} {H : Hp} {h : Heap} {a : Addr}
theorem key_of {ks : List Key} (ok : HOk P w H h) (e : H a = some (.tup (ks.map kV))) : (tupleKind (mixKind P w)).is h ks a := by
 obtain ⟨_, its, r, ⟨o, h1, h2, n, h3⟩, _⟩ := (show ObjOk P w H h a (.tup (ks.map kV)) from ok a _ e)
 exact ⟨o, its.toArray, n, h1, h2, h3, by simpa using items_are r⟩
end
section
variable {X : Cx} {pins : List (Addr × Obj)} {σ : St} {H : Hp} {s : Shared} {a : Addr} {y v : V} {u r : Value} {o : Option V} {A : Around} {E : Value → Shared → Prop}
theorem Inv.big (I : Inv X pins σ H s) : sysModules < s.heap.objs.size := by
 have h : mainGlobals < s.heap.objs.size := (I.mod.glob.keeps I.bk).lt
 exact Nat.lt_trans (by decide) h
theorem d_write {h' : Heap} {t' : Nat} {ob : HO} (I : Inv X pins σ H s) (mu : Mut (H a)) (hs : Heap.SameBut a s.heap h') (he : ∃ q, h'.get? a = some q) (new : ObjOk X.prog X.w (upd H a ob) h' a ob) :
  Inv X pins σ (upd H a ob) { s with heap := h', toks := t' } :=
 I.write (x := a) (e := a) mu (.inl rfl) (fun b q hb z => (hs.2 b hb).trans z) he new
end
section
variable {X : Cx} {pins : List (Addr × Obj)} {σ : St} {H : Hp} {s : Shared} {a : Addr} {kvs : List (Key × V)} {k : Key} {u : Value} {A : Around} {E : Value → Shared → Prop}
end
noncomputable def NoSl (i : Expr) : Prop := ∀ ov iv, subscripted i false ov iv = operate [ov, iv] (getItem ov iv)
theorem subD_of {prog : Program} {w : World} {A : Around} {E : Value → Shared → Prop} {s : Shared} {env : Env} {value slice : Expr} {pos : Pos} {T id : String} {Q : Value → Shared → Prop}
  (hl : typeLookup (.type T) "__getitem__" = pure (some (.builtin id))) (hs : NoSl slice)
  (h : wpAny (model prog w) A (eval value env) (fun o s₁ => wpAny (model prog w) A (eval slice env) (fun i s₂ => s₂.TypeIs o T ∧ wpAny (model prog w) A (getItem o i) Q E s₂) E s₁) E s) :
  wpAny (model prog w) A (eval (.Subscript value slice pos) env) Q E s := by
 refine Subscript_ (wpAny_mono h (fun o s₁ h₁ => wpAny_mono h₁ (fun i s₂ h₂ => ?_) fun _ _ x => x) fun _ _ x => x)
 obtain ⟨hT, h₂⟩ := h₂
 unfold subscriptTail
 refine wpAny_bind ?_
 rw [getitemInPython_of_ne hT.not_modules]
 refine wpAny_bind (wpAny_specialOf hT hl ?_)
 have fin : wpAny (model prog w) A (subscripted slice false o i) (fun r s₃ => wpAny (model prog w) A (letTemporaryGo value o r >>= fun _ => pure r) Q E s₃) E s₂ := by
  rw [hs o i]
  exact wpAny_operating (wpAny_mono h₂ (fun r s₃ h₃ => wpAny_bind (wpAny_letTemporaryGo (wpAny_pure h₃))) fun _ _ x => x)
 first
  | exact wpAny_pure (wpAny_bind fin)
  | exact wpAny_bind (wpAny_pure (wpAny_bind fin))
  | exact wpAny_bind fin
section
variable {X : Cx} {o i e value : Expr} {pos pos' tpos : Pos} {td ty tv : TE}
end
section
variable {X : Cx} {pos : Pos}
end
section
variable {X : Cx} {pins : List (Addr × Obj)} {σ : St} {H : Hp} {s : Shared} {a : Addr} {y d : V} {u r : Value} {o : Option V} {A : Around} {E : Value → Shared → Prop}
end
section
variable {X : Cx} {o e f : Expr} {apos cpos : Pos} {td ty tx : TE}
end
section
variable {X : Cx} {pins : List (Addr × Obj)} {σ : St} {H : Hp} {s : Shared} {a : Addr} {kvs : List (Key × V)} {A : Around} {E : Value → Shared → Prop}
end
section
variable {X : Cx} {pins : List (Addr × Obj)} {σ : St} {H : Hp} {s : Shared} {a : Addr} {y : V} {u : Value} {A : Around} {E : Value → Shared → Prop}
end
end L2
namespace HT
open PySem PyProof.Rows
theorem rcLt_int (A : Around) (s : Shared) (a : Int) (t : Tok) (c : Int) (u : Tok) (prog : Program) (w : World) (E : Value → Shared → Prop) (Q : Value → Shared → Prop) (h : Q (.bool (decide (a < c))) s) :
  wpAny (model prog w) A (richCompare .Lt (.int a t) (.int c u)) Q E s :=
 (PyProof.Rows.lt_int h : wpAny (model prog w) A (compareOp .Lt (.int a t) (.int c u)) Q E s)
section
open PySem.SeqAt
open PySem.AutoSeq1 (wpAny_loadPart')
open PySem.MeetsSeq PySem.MeetsSeq2 PySem.MeetsSeq3
end
section
variable {prog : Program} {w : World} {A : Around} {E : Value → Shared → Prop} {s : Shared}
noncomputable def sIx (n d : Nat) : Option Int → Nat
 | none => d
 | some v => if v < 0 then (v + (n : Int)).toNat else min v.toNat n
theorem sIx_none (n d : Nat) : sIx n d none = d := rfl
theorem sIx_nat (n d k : Nat) : sIx n d (some (k : Int)) = min k n := by
 show (if (k : Int) < 0 then ((k : Int) + (n : Int)).toNat else min (k : Int).toNat n) = min k n
 rw [if_neg (by omega), Int.toNat_natCast]
theorem sIx_le (n d : Nat) (hd : d ≤ n) (o : Option Int) : sIx n d o ≤ n := by
 cases o with
 | none => exact hd
 | some v =>
   show (if v < 0 then (v + (n : Int)).toNat else min v.toNat n) ≤ n
   by_cases hv : v < 0
   · rw [if_pos hv]; omega
   · rw [if_neg hv]; exact Nat.min_le_right _ _
theorem clip_eq (v : Int) (n d : Nat) : (if v < 0 then max (v + (n : Int)) 0 else min v (n : Int)) = ((sIx n d (some v) : Nat) : Int) := by
 show (if v < 0 then max (v + (n : Int)) 0 else min v (n : Int)) = (((if v < 0 then (v + (n : Int)).toNat else min v.toNat n) : Nat) : Int)
 by_cases hv : v < 0
 · simp only [if_pos hv]; omega
 · simp only [if_neg hv]; omega
theorem adjust_gen (lo hi : Option Int) (n : Nat) : Builtin.Slice.sliceAdjust lo hi 1 (n : Int) = (((sIx n 0 lo : Nat) : Int), ((sIx n n hi : Nat) : Int)) := by
 have h1 : ¬ ((1 : Int) < 0) := by omega
 unfold Builtin.Slice.sliceAdjust
 simp only [h1, if_false]
 refine Prod.ext ?_ ?_
 · cases lo with
   | none => rfl
   | some v => exact clip_eq v n 0
 · cases hi with
   | none => rfl
   | some v => exact clip_eq v n n
theorem places_gen (i j : Nat) : Builtin.Slice.slicePlaces (i : Int) (j : Int) 1 = j - i := by
 unfold Builtin.Slice.slicePlaces
 have h1 : (1 : Int) > 0 := by omega
 simp only [h1, if_true, Int.ediv_one]
 split <;> omega
theorem slicePart_ {v : Value} {o : Option Int} {Q : Option Int → Shared → Prop} (p : IsPart v o) (h : Q o s) : wpAny (model prog w) A (Builtin.Slice.slicePartIndex v) Q E s := by
 cases p with
 | none => exact slicePart_none h
 | int i t => exact slicePart_int h
theorem sliceApplied_gen {sl : Addr} {vl vu : Value} {lo hi : Option Int} {n : Nat} {Q : Int × Int × Nat → Shared → Prop} (hs : s.heap.IsSliceOf sl vl vu .none) (pl : IsPart vl lo) (pu : IsPart vu hi)
  (h : Q (((sIx n 0 lo : Nat) : Int), 1, sIx n n hi - sIx n 0 lo) s) : wpAny (model prog w) A (Builtin.Slice.sliceApplied (.ref sl) (pure (n : Int))) Q E s := by
 obtain ⟨os, hos, hcs, hds⟩ := id hs
 unfold Builtin.Slice.sliceApplied Builtin.Slice.sliceFields
 refine wpAny_bind (wpAny_bind (wpAny_field hos hds (x := vl) rfl (wpAny_bind (wpAny_field hos hds (x := vu) rfl (wpAny_bind (wpAny_field hos hds (x := .none) rfl (wpAny_pure ?_)))))))
 refine wpAny_bind (slicePart_none ?_)
 show wpAny _ _ (if ((1 : Int) == 0) = true then _ else _) _ _ s
 rw [if_neg (by decide)]
 refine wpAny_bind (slicePart_ pl (wpAny_bind (slicePart_ pu (wpAny_bind (wpAny_pure ?_)))))
 show wpAny _ _ (match Builtin.Slice.sliceAdjust lo hi 1 (n : Int) with | (lo, hi) => pure (lo, (1 : Int), Builtin.Slice.slicePlaces lo hi 1)) _ _ s
 rw [adjust_gen lo hi n]
 show wpAny _ _ (pure (((sIx n 0 lo : Nat) : Int), (1 : Int), Builtin.Slice.slicePlaces ((sIx n 0 lo : Nat) : Int) ((sIx n n hi : Nat) : Int) 1)) _ _ s
 rw [places_gen]
 exact wpAny_pure h
theorem pick_gen (xs : Array Value) (i k : Nat) : ((List.range k).filterMap fun (m : Nat) => xs[((i : Int) + (m : Int) * 1).toNat]?).toArray = ((xs.toList.drop i).take k).toArray := by
 have e : (fun (m : Nat) => xs[((i : Int) + (m : Int) * 1).toNat]?) = fun m => xs[i + m]? := by
  funext m
  have : ((i : Int) + (m : Int) * 1).toNat = i + m := by omega
  rw [this]
 rw [e]
 have := pick_run xs i k
 rw [List.filterMap_map] at this
 have e2 : ((fun x => xs[x]?) ∘ fun x => i + x) = fun m => xs[i + m]? := rfl
 rw [e2] at this
 rw [this]
theorem getItem_tuple_cut {t sl : Addr} {items : Array Value} {vl vu : Value} {lo hi : Option Int} {Q : Value → Shared → Prop} (ht : IsTup s.heap t items) (hs : s.heap.IsSliceOf sl vl vu .none) (pl : IsPart vl lo) (pu : IsPart vu hi)
  (hw : ¬ (sIx items.size 0 lo = 0 ∧ sIx items.size items.size hi = items.size))
  (h : Q (.ref s.heap.objs.size) { s with heap := s.heap.push { cls := .type "tuple", data := .seq ((items.toList.drop (sIx items.size 0 lo)).take (sIx items.size items.size hi - sIx items.size 0 lo)).toArray } })
  (hsz : items.size ≤ sizeLine) : wpAny (model prog w) A (getItem (.ref t) (.ref sl)) Q E s := by
 have htake : sizeOk (.seq ((items.toList.drop (sIx items.size 0 lo)).take (sIx items.size items.size hi - sIx items.size 0 lo)).toArray) := by
  show ((items.toList.drop (sIx items.size 0 lo)).take (sIx items.size items.size hi - sIx items.size 0 lo)).toArray.size ≤ sizeLine
  rw [List.size_toArray, List.length_take, List.length_drop, Array.length_toList]
  omega
 have hj : sIx items.size items.size hi ≤ items.size := sIx_le _ _ (Nat.le_refl _) hi
 obtain ⟨os, hos, hcs, hds⟩ := id hs
 have hTs : s.TypeIs (.ref sl) "slice" := ⟨os, hos, hcs⟩
 unfold getItem
 try with_reducible refine wpAny_holding ?_
 first | refine wpAny_bind (wpAny_pure ?_) | skip
 refine wpAny_bind (wpAny_sequenceKey ht.typeIs (by decide) ?_)
 refine wpAny_bind (wpAny_callSpecial?_slot (name := Str.ofString "__getitem__") ht.typeIs PyProof.Rows.slot_tuple_getitem
  (wpAny_call_entry PyProof.Rows.slot_tuple_getitem ht.typeIs entry_tuple_getitem ?_ (args_tuple_getitem _ _)))
 show wpAny _ _ (Builtin.Tuple.tupleItemsOf (.ref t) >>= _) _ _ s
 refine wpAny_bind (tupleItemsOf_ ht ?_)
 refine wpAny_bind (wpAny_typeOf hTs ?_)
 rw [if_pos (by decide)]
 refine wpAny_bind (sliceApplied_gen hs pl pu ?_)
 have hno : ¬ ((((sIx items.size 0 lo : Nat) : Int) == 0 && (1 : Int) == 1 && (sIx items.size items.size hi - sIx items.size 0 lo) == items.size) = true) := by
  intro q
  rw [Bool.and_eq_true, Bool.and_eq_true] at q
  have q1 : ((sIx items.size 0 lo : Nat) : Int) = 0 := eq_of_beq q.1.1
  have q2 : sIx items.size items.size hi - sIx items.size 0 lo = items.size := eq_of_beq q.2
  exact hw ⟨by omega, by omega⟩
 show wpAny _ _ (if (((sIx items.size 0 lo : Nat) : Int) == 0 && (1 : Int) == 1 && (sIx items.size items.size hi - sIx items.size 0 lo) == items.size) = true then _ else _) _ _ s
 rw [if_neg hno, pick_gen]
 first
  | exact wpAny_bind (m := Builtin.Tuple.tupleExact _) (wpAny_newObj_type (wpAny_pure ⟨_, rfl, wpAny_pure h⟩) htake)
  | exact wpAny_bind (m := Builtin.Tuple.tupleExact _) (wpAny_newObj_type (wpAny_bind (wpAny_pure (wpAny_pure ⟨_, rfl, wpAny_pure h⟩))) htake)
  | exact wpAny_bind (wpAny_bind (m := Builtin.Tuple.tupleExact _) (wpAny_newObj_type (wpAny_pure (wpAny_pure ⟨_, rfl, wpAny_pure h⟩)) htake))
  | exact wpAny_bind (wpAny_bind (m := Builtin.Tuple.tupleExact _) (wpAny_newObj_type (wpAny_pure ⟨_, rfl, wpAny_pure h⟩) htake))
end
end HT
namespace L2
open PySem PySem.Spec PyProof.Rows
abbrev TO := St → Hp → (Option Int → Hp → Prop) → Prop
noncomputable def PO (X : Cx) (e : Option Expr) (t : TO) : Prop :=
 ∀ (pins : List (Addr × Obj)) (s : Shared) (σ : St) (H : Hp) (Q : Option Int → Hp → Prop), Inv X pins σ H s → t σ H Q →
   wpAny (model X.prog X.w) X.A (evalPart e X.env) (fun u s' => ∃ o H', Inv X pins σ H' s' ∧ IsPart u o ∧ Q o H') X.xe s
noncomputable def tNoPart : TO := fun _ H Q => Q none H
noncomputable def tPart (t : TE) : TO := fun σ H Q => t σ H fun x H1 => ∃ i, x = .int i ∧ Q (some i) H1
section
variable {X : Cx} {e : Expr} {te : TE} {lo hi : Option Expr} {tl th : TO} {pos p2 : Pos}
theorem po_none : PO X none tNoPart := by
 intro pins s σ H Q I h
 rw [evalPart_none]
 exact wpAny_pure ⟨none, H, I, .none, h⟩
theorem po_some (h : PE X e te) : PO X (some e) (tPart te) := by
 intro pins s σ H Q I hw
 rw [evalPart_some]
 refine thn (h pins s σ H _ I hw) fun u s1 ⟨x, H1, I1, r1, q1⟩ => ?_
 obtain ⟨i, rfl, q⟩ := q1
 obtain ⟨t, rfl⟩ := r1
 exact ⟨some i, H1, I1, .int i t, q⟩
noncomputable def SlR (X : Cx) (r : V → Option Int → Option Int → Hp → VK → Prop) : Prop :=
 ∀ (pins : List (Addr × Obj)) (s : Shared) (σ : St) (H : Hp) (x : V) (v vl vu : Value) (lo hi : Option Int) (sl : Addr) (Q : VK), Inv X pins σ H s → RelV x v → s.heap.IsSliceOf sl vl vu .none → IsPart vl lo → IsPart vu hi → r x lo hi H Q →
   ∃ T id, typeLookup (.type T) "__getitem__" = pure (some (.builtin id)) ∧ s.TypeIs v T ∧ wpAny (model X.prog X.w) X.A (getItem v (.ref sl)) (EP X pins σ Q) X.xe s
noncomputable def tSl (r : V → Option Int → Option Int → Hp → VK → Prop) (te : TE) (tl th : TO) : TE := fun σ H Q => te σ H fun x H1 => tl σ H1 fun l H2 => th σ H2 fun u H3 => r x l u H3 Q
theorem pe_slice {r : V → Option Int → Option Int → Hp → VK → Prop} (hr : SlR X r) (he : PE X e te) (hl : PO X lo tl) (hu : PO X hi th) : PE X (.Subscript e (.Slice lo hi none p2) pos) (tSl r te tl th) := by
 intro pins s σ H Q I h
 refine Subscript_ (thn (he pins s σ H _ I h) fun v s1 ⟨x, H1, I1, r1, q1⟩ => ?_)
 refine wpAny_Slice (thn (hl pins s1 σ H1 _ I1 q1) fun vl s2 ⟨l, H2, I2, pl, q2⟩ => thn (hu pins s2 σ H2 _ I2 q2) fun vu s3 ⟨u, H3, I3, pu, q3⟩ => ?_)
 rw [evalPart_none]
 refine wpAny_pure ?_
 have I4 : Inv X pins σ H3 { s3 with heap := s3.heap.push { cls := .type "slice", data := .fields #[vl, vu, .none] } } := I3.kept (t' := s3.toks) fun b ob q => Heap.get?_push_of_some _ q
 obtain ⟨T, id, hT, ht, hg⟩ := hr pins { s3 with heap := s3.heap.push { cls := .type "slice", data := .fields #[vl, vu, .none] } } σ H3 x v vl vu l u s3.heap.objs.size Q I4 r1 (Heap.IsSliceOf.new ..) pl pu q3
 show wpAny (model X.prog X.w) X.A (subscriptTail e (.Slice lo hi none p2) v (.ref s3.heap.objs.size)) (EP X pins σ Q) X.xe { s3 with heap := s3.heap.push { cls := .type "slice", data := .fields #[vl, vu, .none] } }
 exact tail_any (ops := [.ref s3.heap.objs.size, v]) ht hT hg (by with_unfolding_all rfl)
noncomputable def cutV (xs : List V) (lo hi : Option Int) : List V := (xs.drop (HT.sIx xs.length 0 lo)).take (HT.sIx xs.length xs.length hi - HT.sIx xs.length 0 lo)
theorem cutV_length (xs : List V) (lo hi : Option Int) : (cutV xs lo hi).length ≤ xs.length := by
 unfold cutV
 rw [List.length_take, List.length_drop]
 omega
noncomputable def rSlT (K : PySem.W.Frag) : V → Option Int → Option Int → Hp → VK → Prop := fun x lo hi H Q => ∃ a xs, x = .ref a ∧ SqT K H a xs ∧
 ¬ (HT.sIx xs.length 0 lo = 0 ∧ HT.sIx xs.length xs.length hi = xs.length) ∧ ∀ p, H p = none → Q (.ref p) (upd H p (.tup (cutV xs lo hi)))
theorem sl_tup : SlR X (rSlT X.K) := by
 intro pins s σ H x v vl vu lo hi sl Q I rx hs pl pu h
 obtain ⟨a, xs, rfl, hx, hw, q⟩ := h
 cases rx
 obtain ⟨its, r, ht, hz⟩ := I.tuple hx
 have hlen : its.toArray.size = xs.length := by rw [List.size_toArray]; exact r.length.symm
 refine ⟨"tuple", _, PyProof.Rows.slot_tuple_getitem.lookup, ht.typeIs, ?_⟩
 refine HT.getItem_tuple_cut ht hs pl pu (by rw [hlen]; exact hw) ?_ (by rw [hlen]; exact hz)
 rw [hlen]
 refine ⟨.ref s.heap.objs.size, _, I.laid (t' := s.toks) (o := .tup (cutV xs lo hi)) (fun b ob q => Heap.get?_push_of_some _ q) (Nat.le_refl _) ?_, rfl, q _ (I.hok.fresh (Nat.le_refl _))⟩
 exact ⟨Nat.le_trans (cutV_length xs lo hi) hz, _, (r.drop (HT.sIx xs.length 0 lo)).take (HT.sIx xs.length xs.length hi - HT.sIx xs.length 0 lo), IsTup.new _ _, NoD.push⟩
end
noncomputable def ixN (n : Nat) (i : Int) : Option Nat := if 0 ≤ i then (if i < n then some i.toNat else none) else if -(n : Int) ≤ i then some (i + n).toNat else none
noncomputable def atI {α : Type} (xs : List α) (i : Int) : Option α := (ixN xs.length i).bind fun j => xs[j]?
theorem ixN_seq {n : Nat} {i : Int} {j : Nat} (h : ixN n i = some j) : seqIndex? i n = some j ∧ j < n ∧ -(n : Int) ≤ i ∧ i < n := by
 unfold ixN at h
 by_cases h0 : 0 ≤ i
 · rw [if_pos h0] at h
   by_cases h1 : i < n
   · rw [if_pos h1] at h
     have e : i.toNat = j := Option.some.inj h
     exact ⟨by rw [seqIndex_of h0 h1, e], by omega, by omega, h1⟩
   · rw [if_neg h1] at h; cases h
 · rw [if_neg h0] at h
   by_cases h1 : -(n : Int) ≤ i
   · rw [if_pos h1] at h
     have e : (i + n).toNat = j := Option.some.inj h
     exact ⟨by rw [seqIndex_neg (by omega) h1, e], by omega, h1, by omega⟩
   · rw [if_neg h1] at h; cases h
theorem atI_get {α : Type} {xs : List α} {i : Int} {v : α} (h : atI xs i = some v) : ∃ j, seqIndex? i xs.length = some j ∧ xs[j]? = some v ∧ j < xs.length ∧ -(xs.length : Int) ≤ i ∧ i < xs.length := by
 unfold atI at h
 cases e : ixN xs.length i with
 | none => rw [e] at h; cases h
 | some j =>
   rw [e] at h
   obtain ⟨h1, h2, h3, h4⟩ := ixN_seq e
   exact ⟨j, h1, h, h2, h3, h4⟩
theorem atI_nat {α : Type} {xs : List α} {j : Nat} {v : α} (h : xs[j]? = some v) : atI xs (j : Int) = some v := by
 have hj : j < xs.length := (List.getElem?_eq_some_iff.mp h).1
 have e : ixN xs.length (j : Int) = some j := by
  unfold ixN
  rw [if_pos (by omega), if_pos (by omega)]; simp
 unfold atI; rw [e]; exact h
theorem atI_last {α : Type} (xs : List α) (v : α) : atI (xs ++ [v]) (-1) = some v := by
 have hl : (xs ++ [v]).length = xs.length + 1 := by simp
 have e : ixN (xs ++ [v]).length (-1) = some xs.length := by
  unfold ixN
  rw [hl, if_neg (by decide), if_pos (by omega)]
  congr 1
  omega
 unfold atI
 rw [e]
 show (xs ++ [v])[xs.length]? = some v
 simp
noncomputable def PlainIx (b : Expr) : Prop := ∀ o i, subscripted b false o i = operate [o, i] (getItem o i)
noncomputable def IxR (X : Cx) (r : R2) : Prop :=
 ∀ (value slice : Expr) (pins : List (Addr × Obj)) (s : Shared) (σ : St) (H : Hp) (x y : V) (v u : Value) (Q : VK), Inv X pins σ H s → RelV x v → RelV y u → r x y H Q →
   subscripted slice false v u = operate [v, u] (getItem v u) → wpAny (model X.prog X.w) X.A (subscriptTail value slice v u) (EP X pins σ Q) X.xe s
noncomputable def MtR (X : Cx) (id : String) (r : V → List V → Hp → VK → Prop) : Prop :=
 ∀ (pins : List (Addr × Obj)) (s : Shared) (σ : St) (H : Hp) (x : V) (xs : List V) (v : Value) (us : List Value) (Q : VK), Inv X pins σ H s → RelV x v → Vals xs us → r x xs H Q →
   wpAny (model X.prog X.w) X.A (call (.builtin id) (v :: us)) (EP X pins σ Q) X.xe s
section
variable {X : Cx} {a b : Expr} {ta tb : TE} {pos : Pos}
theorem zqn {r : R2} (hr : IxR X r) (ha : PE X a ta) (hb : PE X b tb) (hs : PlainIx b) : PE X (.Subscript a b pos) (tOp r ta tb) := by
 intro pins s σ H Q I h
 exact Subscript_ (binT ha hb I h fun v u s2 x y H2 I2 rx ry q => hr a b pins s2 σ H2 x y v u Q I2 rx ry q (hs _ _))
noncomputable def rIxL (K : PySem.W.Frag) : R2 := fun x y H Q => ∃ p xs i v, x = .ref p ∧ y = .int i ∧ SqL K H p xs ∧ atI xs i = some v ∧ Q v H
noncomputable def rIxT (K : PySem.W.Frag) : R2 := fun x y H Q => ∃ p xs i v, x = .ref p ∧ y = .int i ∧ SqT K H p xs ∧ atI xs i = some v ∧ Q v H
theorem zqu : IxR X (rIxL X.K) := by
 intro value slice pins s σ H x y v u Q I rx ry h hs
 obtain ⟨p, xs, i, z, rfl, rfl, hq, he, q⟩ := h
 cases rx
 obtain ⟨t, rfl⟩ := ry
 obtain ⟨its, r, pl, hz⟩ := I.list hq
 obtain ⟨j, h1, h2, h3, h4, h5⟩ := atI_get he
 obtain ⟨w, ew, rw'⟩ := r.get h2
 have hl := r.length
 have hn := line63
 have fin : EP X pins σ Q w s := ⟨z, H, I, rw', q⟩
 by_cases h0 : 0 ≤ i
 · have hj : i.toNat = j := by
    rw [seqIndex_of h0 h5] at h1
    exact Option.some.inj h1
   exact item_listR pl.isList h0 (by omega) (by rw [hj]; simpa using ew) fin hs
 · have hj : (i + (its.toArray.size : Int)).toNat = j := by
    rw [seqIndex_neg (by omega) h4] at h1
    rw [List.size_toArray, ← hl]
    exact Option.some.inj h1
   exact subscriptTail_builtinR (x := w) pl.isList.typeIs slot_list_getitem.lookup
    (wpAny_getItem_list_neg (Q := fun r s' => r = w ∧ EP X pins σ Q r s') pl.isList (by omega) (by rw [List.size_toArray] <;> omega) (by omega) (by rw [hj]; simpa using ew) ⟨rfl, fin⟩) hs
theorem zqo : IxR X (rIxT X.K) := by
 intro value slice pins s σ H x y v u Q I rx ry h hs
 obtain ⟨p, xs, i, z, rfl, rfl, hq, he, q⟩ := h
 cases rx
 obtain ⟨t, rfl⟩ := ry
 obtain ⟨its, r, pl, hz⟩ := I.tuple hq
 obtain ⟨j, h1, h2, h3, h4, h5⟩ := atI_get he
 obtain ⟨w, ew, rw'⟩ := r.get h2
 have hl := r.length
 have hn := line63
 have fin : EP X pins σ Q w s := ⟨z, H, I, rw', q⟩
 exact subscriptTail_builtinR (x := w) pl.typeIs slot_tuple_getitem.lookup
  (getItem_tuple (j := j) (Q := fun r s' => r = w ∧ EP X pins σ Q r s') pl (by omega) (by omega) (by rw [List.size_toArray, ← hl]; exact h1) (by simpa using ew) ⟨rfl, fin⟩) hs
theorem mapSeq_set (its : List Value) (n j : Nat) (u : Value) : Obj.mapSeq (·.setIfInBounds j u) { cls := .type "list", data := .seq its.toArray n } = { cls := .type "list", data := .seq (its.set j u).toArray n } := by
 simp [Obj.mapSeq]
theorem Inv.lst {pins : List (Addr × Obj)} {σ : St} {H : Hp} {s : Shared} {p : Addr} {xs : List V} (I : Inv X pins σ H s) (h : H p = some (.lst xs)) :
  ∃ (its : List Value) (n : Nat), Vals xs its ∧ s.heap.get? p = some { cls := .type "list", data := .seq its.toArray n } ∧ xs.length ≤ sizeLine := by
 obtain ⟨z, its, n, r, e⟩ := I.hok p _ h
 exact ⟨its, n, r, e, z⟩
theorem Inv.lstUpd {pins : List (Addr × Obj)} {σ : St} {H : Hp} {s : Shared} {p : Addr} {xs ys : List V} {its its' : List Value} {n n' : Nat} {f : Obj → Obj} (I : Inv X pins σ H s) (h : H p = some (.lst xs))
  (ho : s.heap.get? p = some { cls := .type "list", data := .seq its.toArray n }) (hf : f { cls := .type "list", data := .seq its.toArray n } = { cls := .type "list", data := .seq its'.toArray n' }) (r : Vals ys its') (hz : ys.length ≤ sizeLine) (t : Nat) :
  Inv X pins σ (upd H p (.lst ys)) { s with heap := s.heap.update p f, toks := t } := by
 have e : (s.heap.update p f).get? p = some { cls := .type "list", data := .seq its'.toArray n' } := by
  rw [Heap.get?_update_self f ho (by rw [hf] <;> rfl), hf]
 refine I.write (x := p) (e := p) (by rw [h]; trivial) (.inl rfl) (fun b u hb q => (Heap.get?_update_other _ _ (Ne.symm hb)).trans q) ⟨_, e⟩ ?_
 exact ⟨hz, its', n', r, e⟩
noncomputable def rSetL : V → V → V → Hp → (Hp → Prop) → Prop := fun o i v H Q => ∃ p xs k j, o = .ref p ∧ i = .int k ∧ H p = some (.lst xs) ∧ ixN xs.length k = some j ∧ Q (upd H p (.lst (xs.set j v)))
theorem zxi : PSet X rSetL := by
 intro pins s σ H o i v ov iv u Q I ro ri rv h
 obtain ⟨p, xs, k, j, rfl, rfl, hp, hj, q⟩ := h
 cases ro
 obtain ⟨t, rfl⟩ := ri
 obtain ⟨its, n, r, ho, hz⟩ := I.lst hp
 obtain ⟨h1, h2, h3, h4⟩ := ixN_seq hj
 have hl := r.length
 have hn := line63
 have I' : Inv X pins σ (upd H p (.lst (xs.set j v))) { s with heap := s.heap.update p (Obj.mapSeq (·.setIfInBounds j u)) } :=
  I.lstUpd hp ho (mapSeq_set its n j u) (r.set rv j) (by rw [List.length_set]; exact hz) s.toks
 by_cases h0 : 0 ≤ k
 · have hk : k.toNat = j := by
    rw [seqIndex_of h0 h4] at h1
    exact Option.some.inj h1
   exact PySem.W.ki_setAt ho h0 (by omega) (by rw [List.size_toArray, ← hl]; exact h4) (by rw [hk]; exact ⟨_, I', q⟩)
 · have hk : (k + (its.toArray.size : Int)).toNat = j := by
    rw [seqIndex_neg (by omega) h3] at h1
    rw [List.size_toArray, ← hl]
    exact Option.some.inj h1
   exact PySem.W.ki_setBack ho (by omega) (by rw [List.size_toArray, ← hl]; exact h3) (by omega) (by rw [hk]; exact ⟨_, I', q⟩)
theorem slice_bounds (lo hi : Option Int) (n : Nat) : (sliceBounds lo hi none n).1 = ((HT.sIx n 0 lo : Nat) : Int) ∧ (sliceBounds lo hi none n).2.1 = ((HT.sIx n n hi : Nat) : Int) ∧ (sliceBounds lo hi none n).2.2 = 1 := by
 refine ⟨?_, ?_, rfl⟩
 · cases lo with
   | none => simp [sliceBounds, HT.sIx]
   | some i =>
     simp only [sliceBounds, HT.sIx, Option.getD_none, show (1 : Int) > 0 by decide, if_true]
     by_cases h : i < 0
     · simp only [h, if_true] <;> omega
     · simp only [h, if_false] <;> omega
 · cases hi with
   | none => simp [sliceBounds, HT.sIx]
   | some i =>
     simp only [sliceBounds, HT.sIx, Option.getD_none, show (1 : Int) > 0 by decide, if_true]
     by_cases h : i < 0
     · simp only [h, if_true] <;> omega
     · simp only [h, if_false] <;> omega
theorem slicePick_cut (its : List Value) (lo hi : Option Int) : slicePick its.toArray lo hi none = ((its.drop (HT.sIx its.length 0 lo)).take (HT.sIx its.length its.length hi - HT.sIx its.length 0 lo)).toArray := by
 obtain ⟨h1, h2, h3⟩ := slice_bounds lo hi its.toArray.size
 unfold slicePick
 rw [h1, h2, h3]
 simp only [sliceRange_one, pick_run, List.size_toArray] <;> rfl
noncomputable def rSlL (K : PySem.W.Frag) : V → Option Int → Option Int → Hp → VK → Prop := fun x lo hi H Q => ∃ a xs, x = .ref a ∧ SqL K H a xs ∧ ∀ p, H p = none → Q (.ref p) (upd H p (.lst (cutV xs lo hi)))
theorem sl_list : SlR X (rSlL X.K) := by
 intro pins s σ H x v vl vu lo hi sl Q I rx hs pl pu h
 obtain ⟨a, xs, rfl, hx, q⟩ := h
 cases rx
 obtain ⟨its, r, ht, hz⟩ := I.list hx
 have hlen := r.length
 refine ⟨"list", _, slot_list_getitem.lookup, ht.isList.typeIs, ?_⟩
 refine wpAny_getItem_list_slice ht.isList hs pl pu .none (by simp) ?_ (by rw [List.size_toArray] <;> omega)
 rw [slicePick_cut, ← hlen]
 refine ⟨.ref s.heap.objs.size, _, I.laid (t' := s.toks) (o := .lst (cutV xs lo hi)) (fun b ob q => Heap.get?_push_of_some _ q) (Nat.le_refl _) ?_, rfl, q _ (I.hok.fresh (Nat.le_refl _))⟩
 exact ⟨Nat.le_trans (cutV_length xs lo hi) hz, _, 0, (r.drop (HT.sIx xs.length 0 lo)).take (HT.sIx xs.length xs.length hi - HT.sIx xs.length 0 lo), Heap.get?_push_size _ rfl⟩
noncomputable def flatV : V → Bool
 | .non => true
 | .bl _ => true
 | .int _ => true
 | .str _ => true
 | _ => false
noncomputable def eqV : V → V → Bool
 | .non, .non => true
 | .bl a, .bl b => a == b
 | .bl a, .int b => (if a then 1 else 0) == b
 | .int a, .bl b => a == (if b then 1 else 0)
 | .int a, .int b => a == b
 | .str a, .str b => a == b
 | _, _ => false
theorem eqAt_V {A : Around} {s : Shared} {y x : V} {u v : Value} (ry : RelV y u) (rx : RelV x v) (fy : flatV y = true) (fx : flatV x = true) : SeqAt.EqAt A s u v (eqV y x) := by
 cases y with
 | non =>
   cases ry
   cases x with
   | non => cases rx; exact SeqAt.EqAt.same _
   | bl b => cases rx; exact SeqAt.EqAt.none_bool b
   | int b => obtain ⟨t, rfl⟩ := rx; exact SeqAt.EqAt.none_int b t
   | str b => obtain ⟨t, rfl⟩ := rx; exact SeqAt.EqAt.none_str b t
   | _ => exact absurd (show false = true from fx) Bool.false_ne_true
 | bl a =>
   cases ry
   cases x with
   | non => cases rx; exact SeqAt.EqAt.bool_none a
   | bl b => cases rx; exact SeqAt.EqAt.bool_bool a b
   | int b => obtain ⟨t, rfl⟩ := rx; exact SeqAt.EqAt.bool_int a b t
   | str b => obtain ⟨t, rfl⟩ := rx; exact SeqAt.EqAt.bool_str a b t
   | _ => exact absurd (show false = true from fx) Bool.false_ne_true
 | int a =>
   obtain ⟨t', rfl⟩ := ry
   cases x with
   | non => cases rx; exact SeqAt.EqAt.int_none a t'
   | bl b => cases rx; exact SeqAt.EqAt.int_bool a t' b
   | int b => obtain ⟨t, rfl⟩ := rx; exact SeqAt.EqAt.int_int a t' b t
   | str b => obtain ⟨t, rfl⟩ := rx; exact SeqAt.EqAt.int_str a t' b t
   | _ => exact absurd (show false = true from fx) Bool.false_ne_true
 | str a =>
   obtain ⟨t', rfl⟩ := ry
   cases x with
   | non => cases rx; exact SeqAt.EqAt.str_none a t'
   | bl b => cases rx; exact SeqAt.EqAt.str_bool a t' b
   | int b => obtain ⟨t, rfl⟩ := rx; exact SeqAt.EqAt.str_int a t' b t
   | str b => obtain ⟨t, rfl⟩ := rx; exact SeqAt.EqAt.str_str a t' b t
   | _ => exact absurd (show false = true from fx) Bool.false_ne_true
 | _ => exact absurd (show false = true from fy) Bool.false_ne_true
noncomputable def eqU (x : V) (u : Value) : Bool := match u with
 | .none => eqV .non x
 | .bool b => eqV (.bl b) x
 | .int i _ => eqV (.int i) x
 | .str z _ => eqV (.str z) x
 | _ => false
theorem eqU_of {x y : V} {u : Value} (r : RelV y u) (f : flatV y = true) : eqU x u = eqV y x := by
 cases y with
 | non => cases r; rfl
 | bl b => cases r; rfl
 | int i => obtain ⟨t, rfl⟩ := r; rfl
 | str z => obtain ⟨t, rfl⟩ := r; rfl
 | _ => exact absurd (show false = true from f) Bool.false_ne_true
theorem any_eqU {x : V} : ∀ {xs : List V} {us : List Value}, Vals xs us → xs.all flatV = true → us.any (eqU x) = xs.any fun y => eqV y x
 | _, _, .nil, _ => rfl
 | y :: xs, u :: us, .cons r t, f => by
   rw [List.all_cons, Bool.and_eq_true] at f
   rw [List.any_cons, List.any_cons, eqU_of r f.1, any_eqU t f.2]
theorem mem_eqAt {A : Around} {s : Shared} {x : V} {v : Value} (rx : RelV x v) (fx : flatV x = true) : ∀ {xs : List V} {us : List Value}, Vals xs us → xs.all flatV = true → ∀ u ∈ us, SeqAt.EqAt A s u v (eqU x u)
 | _, _, .nil, _ => fun u hu => by cases hu
 | y :: xs, u :: us, .cons r t, f => fun u' hu => by
   rw [List.all_cons, Bool.and_eq_true] at f
   rcases List.mem_cons.mp hu with rfl | hu
   · rw [eqU_of r f.1]; exact eqAt_V r rx f.1 fx
   · exact mem_eqAt rx fx t f.2 u' hu
noncomputable def inV (x : V) (xs : List V) : Bool := xs.any fun y => eqV y x
noncomputable def rIn (K : PySem.W.Frag) (neg : Bool) : R2 := fun x y H Q => ∃ p xs, y = .ref p ∧ (SqL K H p xs ∨ SqT K H p xs) ∧ flatV x = true ∧ xs.all flatV = true ∧ Q (.bl (if neg then !inV x xs else inV x xs)) H
theorem op_in_seq : OpR X (compareOp .In) (rIn X.K false) := by
 intro pins s σ H x y v u Q I rx ry h
 obtain ⟨p, xs, rfl, hq, fx, fs, q⟩ := h
 cases ry
 rcases hq with hq | hq
 · obtain ⟨its, r, pl, hz⟩ := I.list hq
   refine SeqAt.in_listAt (eqU x) pl.isList (fun w hw => mem_eqAt rx fx r fs w (by simpa using hw)) ⟨.bl _, H, I, rfl, ?_⟩
   rw [show its.toArray.any (eqU x) = its.any (eqU x) by simp, any_eqU r fs]
   exact q
 · obtain ⟨its, r, pl, hz⟩ := I.tuple hq
   refine SeqAt.in_tupleAt (eqU x) pl (fun w hw => mem_eqAt rx fx r fs w (by simpa using hw)) ⟨.bl _, H, I, rfl, ?_⟩
   rw [show its.toArray.any (eqU x) = its.any (eqU x) by simp, any_eqU r fs]
   exact q
theorem zqj : CallR X (.builtin "len") (fun xs H Q => ∃ p ys, xs = [.ref p] ∧ (SqL X.K H p ys ∨ SqT X.K H p ys) ∧ Q (.int ys.length) H) := by
 intro pins s σ H xs us Q I r h
 obtain ⟨p, ys, rfl, hq, q⟩ := h
 obtain ⟨u, rfl, rx⟩ := vals1 r
 cases rx
 have hn := line63
 rcases hq with hq | hq
 · obtain ⟨its, r', pl, hz⟩ := I.list hq
   have hlen := r'.length
   exact Calls.call_len_list pl.isList (by simp only [List.size_toArray] <;> omega) ⟨.int ys.length, H, I.tok _, ⟨s.toks + 1, by rw [List.size_toArray, hlen]⟩, q⟩
 · obtain ⟨its, r', pl, hz⟩ := I.tuple hq
   have hlen := r'.length
   exact len_tuple pl (by simp only [List.size_toArray] <;> omega) ⟨.int ys.length, H, I.tok _, ⟨s.toks + 1, by rw [List.size_toArray, hlen]⟩, q⟩
theorem call_len_str : CallR X (.builtin "len") (fun xs H Q => ∃ z, xs = [.str z] ∧ z.length ≤ sizeLine ∧ Q (.int z.length) H) := by
 intro pins s σ H xs us Q I r h
 obtain ⟨z, rfl, hz, q⟩ := h
 obtain ⟨u, rfl, t, rfl⟩ := vals1 r
 have hn := line63
 exact len_str (by omega) ⟨.int z.length, H, I.tok _, ⟨_, rfl⟩, q⟩
theorem zxq : CallR X (.type "list") (fun xs H Q => ∃ p ys, xs = [.ref p] ∧ (SqL X.K H p ys ∨ SqT X.K H p ys) ∧ ∀ l, H l = none → Q (.ref l) (upd H l (.lst ys))) := by
 intro pins s σ H xs us Q I r h
 obtain ⟨p, ys, rfl, hq, q⟩ := h
 obtain ⟨u, rfl, rx⟩ := vals1 r
 cases rx
 have fin : ∀ (its : List Value), Vals ys its → ys.length ≤ sizeLine → ∀ (h' : Heap) (c' : Nat), (∀ b o', s.heap.get? b = some o' → h'.get? b = some o') →
   h'.get? s.heap.objs.size = some { cls := .type "list", dict := none, data := .seq its.toArray c', slots := #[] } → EP X pins σ Q (.ref s.heap.objs.size) { s with heap := h' } := fun its r' hz h' c' kp e =>
  ⟨.ref s.heap.objs.size, _, I.laid (t' := s.toks) kp (Nat.le_refl _) (show ObjOk X.prog X.w _ h' _ (.lst ys) from ⟨hz, its, c', r', e⟩), rfl, q _ (I.hok.fresh (Nat.le_refl _))⟩
 rcases hq with hq | hq
 · obtain ⟨its, r', pl, hz⟩ := I.list hq
   have hlen := r'.length
   obtain ⟨o, ho, hc, n, hd⟩ := pl.isList
   exact call_list_seq p (.inl rfl) ho hc hd (fun h' c' kp e => fin its r' hz h' c' kp e) (by simp only [List.size_toArray] <;> omega)
 · obtain ⟨its, r', pl, hz⟩ := I.tuple hq
   have hlen := r'.length
   obtain ⟨o, ho, hc, n, hd⟩ := pl
   exact call_list_seq p (.inr rfl) ho hc hd (fun h' c' kp e => fin its r' hz h' c' kp e) (by simp only [List.size_toArray] <;> omega)
theorem zq5 : CallR X (.type "tuple") (fun xs H Q => ∃ p ys, xs = [.ref p] ∧ ((SqL X.K H p ys ∧ ∀ l, H l = none → Q (.ref l) (upd H l (.tup ys))) ∨ (SqT X.K H p ys ∧ Q (.ref p) H))) := by
 intro pins s σ H xs us Q I r h
 obtain ⟨p, ys, rfl, h⟩ := h
 obtain ⟨u, rfl, rx⟩ := vals1 r
 cases rx
 rcases h with ⟨hq, q⟩ | ⟨hq, q⟩
 · obtain ⟨its, r', pl, hz⟩ := I.list hq
   have hlen := r'.length
   refine call_tuple_list pl.isList (fun h' kp => ?_) (by simp only [List.size_toArray] <;> omega)
   have I1 : Inv X pins σ H { s with heap := h' } := I.kept (t' := s.toks) kp
   have I2 : Inv X pins σ (upd H h'.objs.size (.tup ys)) { s with heap := h'.push { cls := .type "tuple", data := .seq its.toArray } } :=
    I1.laid (t' := s.toks) (fun b o e => Heap.get?_push_of_some _ e) (Nat.le_refl _) (show ObjOk X.prog X.w _ _ _ (.tup ys) from ⟨hz, its, r', IsTup.new _ _, NoD.push⟩)
   exact ⟨.ref h'.objs.size, _, I2, rfl, q _ (I1.hok.fresh (Nat.le_refl _))⟩
 · obtain ⟨its, r', pl, hz⟩ := I.tuple hq
   exact call_tuple_same pl ⟨.ref p, H, I, rfl, q⟩
noncomputable def tyV (K : PySem.W.Frag) (T : String) (x : V) (H : Hp) : Prop := match x with
 | .str _ => T = "str"
 | .int _ => T = "int"
 | .ref p => (T = "list" ∧ ∃ xs, SqL K H p xs) ∨ (T = "tuple" ∧ ∃ o, K.lookup p = some o ∧ o.cls = .type "tuple" ∧ o.dict = none) ∨
  (T = "dict" ∧ ((∃ kvs, H p = some (.dK kvs)) ∨ ∃ kvs, H p = some (.dT kvs))) ∨ (T = "set" ∧ ∃ S n, H p = some (.set S n))
 | _ => False
theorem tyV_is {pins : List (Addr × Obj)} {σ : St} {H : Hp} {s : Shared} {T : String} {x : V} {v : Value} (I : Inv X pins σ H s) (r : RelV x v) (ty : tyV X.K T x H) :
  s.TypeIs v T ∧ ∀ a, v = .ref a → ∃ ob, s.heap.get? a = some ob ∧ ob.dict = none := by
 cases x with
 | str z =>
   obtain ⟨t, rfl⟩ := r
   cases (show T = "str" from ty)
   exact ⟨typeIs_str s z t, fun _ e => nomatch e⟩
 | int i =>
   obtain ⟨t, rfl⟩ := r
   cases (show T = "int" from ty)
   exact ⟨typeIs_int s i t, fun _ e => nomatch e⟩
 | ref p =>
   cases r
   rcases ty with ⟨rfl, xs, hq⟩ | ⟨rfl, o, hk, hc, hd⟩ | ⟨rfl, hk⟩ | ⟨rfl, S, n, hk⟩
   · obtain ⟨its, _, pl, _⟩ := I.list hq
     refine ⟨pl.isList.typeIs, fun a e => ?_⟩
     cases e
     obtain ⟨o, n, e, c, hd, _⟩ := pl
     exact ⟨o, e, hd⟩
   · refine ⟨⟨o, I.kIn p o hk, hc⟩, fun a e => ?_⟩
     cases e
     exact ⟨o, I.kIn _ o hk, hd⟩
   · have z : ∃ o, s.heap.get? p = some o ∧ o.ExactDict := by
      rcases hk with ⟨kvs, hk⟩ | ⟨kvs, hk⟩
      · obtain ⟨_, _, _, _, o, _, _, e, ex, _⟩ := I.hok p _ hk
        exact ⟨o, e, ex⟩
      · obtain ⟨_, _, _, _, o, _, _, e, ex, _⟩ := I.hok p _ hk
        exact ⟨o, e, ex⟩
     obtain ⟨o, e, ex⟩ := z
     refine ⟨⟨o, e, ex.1⟩, fun a e2 => ?_⟩
     cases e2
     exact ⟨o, e, ex.2.1⟩
   · obtain ⟨o, _, _, _, e, ex, _⟩ := I.hok p _ hk
     refine ⟨⟨o, e, ex.1⟩, fun a e2 => ?_⟩
     cases e2
     exact ⟨o, e, ex.2.1⟩
 | _ => exact False.elim ty
noncomputable def tBM (K : PySem.W.Frag) (T : String) (r : V → List V → Hp → VK → Prop) (to : TE) (t : TA) : TE := fun σ H Q => to σ H fun x H1 => tyV K T x H1 ∧ t σ H1 fun xs H2 => r x xs H2 Q
variable {o e : Expr} {es : List Expr} {to : TE} {t : TA} {name : Str} {apos cpos : Pos} {T id : String} {r : V → List V → Hp → VK → Prop}
theorem pe_bm (pa : PlainAttrs T) (slot : Slot T name id) (hty : typeOf (.builtin id) = pure (.type "method_descriptor")) (hm : MtR X id r) (ho : PE X o to) (ha : PA X (e :: es) t)
  (hbase : attributeBase o name X.env (eval o X.env) = eval o X.env := by rfl)
  (hfew : ((backTo cpos (starEach (e :: es) X.env)).all (fun x => !x.1) && (backToKw cpos (keywordEach [] X.env)).all (fun x => x.1.isSome)
   && decide ((e :: es).length + ([] : List Keyword).length + (if ([] : List Keyword).isEmpty then 0 else 1) < 30)) = true := by rfl)
  (hline : (apos.endLine == cpos.line) = true := by rfl) (hs : starEach (e :: es) X.env = (false, eval e X.env) :: starEach es X.env := by rfl) (hplain : (backTo cpos (starEach es X.env)).any (·.1) = false := by rfl) :
  PE X (.Call (.Attribute o name apos) (e :: es) [] cpos) (tBM X.K T r to t) := by
 intro pins s σ H Q I h
 refine wpAny_Call_method_late hbase hfew hline rfl (thn (ho pins s σ H _ I h) fun v s1 ⟨x, H1, I1, r1, ty, q1⟩ => ?_)
 obtain ⟨h1, h2⟩ := tyV_is I1 r1 ty
 refine ⟨T, id, pa, slot, hty, h1, h2, ?_⟩
 have hA := ha cpos pins s1 σ H1 _ I1 q1
 rw [hs] at hA ⊢
 refine Calls.callWith_builtin (by show (false || (backTo cpos (starEach es X.env)).any (·.1)) = false; rw [hplain] <;> rfl) (Calls.evalArgs_plain ?_)
 exact thn hA fun us s2 ⟨vs, H2, I2, r2, q2⟩ => hm pins s2 σ H2 x vs v us Q I2 r1 r2 q2
/- xs.append(e), list.index on a module's tuple .. are MtR facts of 06m -/
end
noncomputable def MtM (X : Cx) (id : String) (r : V → List V → Hp → VK → Prop) : Prop :=
 ∀ (pins : List (Addr × Obj)) (s : Shared) (σ : St) (H : Hp) (x : V) (xs : List V) (v : Value) (us : List Value) (Q : VK), Inv X pins σ H s → RelV x v → Vals xs us → r x xs H Q →
   wpAny (model X.prog X.w) X.A (call (.builtin id) (v :: us)) (EP X pins σ Q) X.xe s
theorem Vals.one : ∀ {x : V} {us : List Value}, Vals [x] us → ∃ u, us = [u] ∧ RelV x u
 | _, _, .cons r .nil => ⟨_, rfl, r⟩
theorem Vals.rep {xs : List V} {us : List Value} (h : Vals xs us) : ∀ k : Nat, Vals (List.replicate k xs).flatten (List.replicate k us).flatten
 | 0 => .nil
 | k + 1 => by
   rw [List.replicate_succ, List.replicate_succ, List.flatten_cons, List.flatten_cons]
   exact Vals.append h (Vals.rep h k)
theorem foldl_rep (its : List Value) : ∀ (k : Nat) (acc : List Value),
  List.foldl (fun x1 x2 => x1 ++ x2) acc.toArray (List.replicate k its.toArray) = (acc ++ (List.replicate k its).flatten).toArray
 | 0, acc => by simp
 | k + 1, acc => by
   have e : acc.toArray ++ its.toArray = (acc ++ its).toArray := by simp
   have e2 : (acc ++ its) ++ (List.replicate k its).flatten = acc ++ (List.replicate (k + 1) its).flatten := by
    rw [List.replicate_succ, List.flatten_cons, List.append_assoc]
   rw [← e2, ← foldl_rep its k (acc ++ its), ← e, List.replicate_succ, List.foldl_cons]
section
variable {X : Cx} {pins : List (Addr × Obj)} {σ : St} {H : Hp} {s : Shared} {l b : Addr} {xs ys zs : List V}
theorem Inv.lset {its its' : List Value} {n : Nat} {f : Array Value → Array Value} {t' : Nat} (I : Inv X pins σ H s) (hH : H l = some (.lst xs))
  (e : s.heap.get? l = some { cls := .type "list", data := .seq its.toArray n }) (hf : f its.toArray = its'.toArray) (hv : Vals ys its') (hz : ys.length ≤ sizeLine) :
  Inv X pins σ (upd H l (.lst ys)) { s with heap := s.heap.update l (Obj.mapSeq f), toks := t' } := by
 have q := PySem.IsL.update e f
 rw [hf] at q
 refine I.write (x := l) (e := l) (by rw [hH]; exact trivial) (.inl rfl) (fun b' u hb hu => (Heap.get?_update_other s.heap (Obj.mapSeq f) (Ne.symm hb)).trans hu) ⟨_, q⟩ ?_
 exact ⟨hz, its', _, hv, q⟩
theorem Inv.lnew {its : List Value} {t' : Nat} (I : Inv X pins σ H s) (hv : Vals ys its) (hz : ys.length ≤ sizeLine) :
  Inv X pins σ (upd H s.heap.objs.size (.lst ys)) { s with heap := s.heap.push { cls := .type "list", data := .seq its.toArray }, toks := t' } :=
 I.laid (fun _ _ q => Heap.get?_push_of_some _ q) (Nat.le_refl _) ⟨hz, its, 0, hv, Heap.get?_push_size _ rfl⟩
theorem Inv.fresh (I : Inv X pins σ H s) : H s.heap.objs.size = none := I.hok.fresh (Nat.le_refl _)
theorem Inv.lstM (I : Inv X pins σ H s) (hH : H l = some (.lst xs)) : xs.length ≤ sizeLine ∧ ∃ (its : List Value) (n : Nat), Vals xs its ∧ xs.length = its.length ∧ s.heap.get? l = some { cls := .type "list", data := .seq its.toArray n } := by
 obtain ⟨z, its, n, r, e⟩ := I.hok l _ hH
 exact ⟨z, its, n, r, r.length, e⟩
theorem notLongL {n : Nat} (h : n ≤ sizeLine) : Builtin.List.listTooLong n = false := by
 unfold Builtin.List.listTooLong
 exact decide_eq_false (by omega)
end
section
variable {X : Cx}
noncomputable def rAppend : V → List V → Hp → VK → Prop := fun x vs H Q => ∃ l xs y, x = .ref l ∧ vs = [y] ∧ H l = some (.lst xs) ∧ xs.length < sizeLine ∧ Q .non (upd H l (.lst (xs ++ [y])))
theorem mt_append : MtM X "list.append" rAppend := by
 intro pins s σ H x vs v us Q I rx rv h
 obtain ⟨l, xs, y, rfl, rfl, hH, hz, q⟩ := h
 cases rx
 obtain ⟨u, rfl, ru⟩ := rv.one
 obtain ⟨z, its, n, r, hl, e⟩ := I.lstM hH
 refine call_meets F.slot_list_append ⟨_, e, rfl⟩ F.entry_list_append (F.args_list_append_2 _ _) (PySem.list_append l its.toArray n u (by rw [List.size_toArray]; omega)) ⟨e, ?_⟩
 refine ⟨.non, _, I.lset (its' := its ++ [u]) hH e (by simp) (r.append (.cons ru .nil)) ?_, rfl, q⟩
 rw [List.length_append, List.length_singleton]
 omega
noncomputable def rCat : R2 := fun x y H Q => ∃ l b xs zs, x = .ref l ∧ y = .ref b ∧ H l = some (.lst xs) ∧ H b = some (.lst zs) ∧ xs.length + zs.length ≤ sizeLine ∧ ∀ p, H p = none → Q (.ref p) (upd H p (.lst (xs ++ zs)))
theorem op_cat : OpR X (binaryOp .Add) rCat := by
 intro pins s σ H x y v u Q I rx ry h
 obtain ⟨l, b, xs, zs, rfl, rfl, hH, hB, hz, q⟩ := h
 cases rx
 cases ry
 obtain ⟨z, its, n, r, hl, e⟩ := I.lstM hH
 obtain ⟨z2, its2, n2, r2, hl2, e2⟩ := I.lstM hB
 refine PySem.P.add_list e e2 ?_ (by rw [List.size_toArray, List.size_toArray]; omega)
 have ea : its.toArray ++ its2.toArray = (its ++ its2).toArray := by simp
 rw [ea]
 exact ⟨.ref _, _, I.lnew (t' := s.toks) (r.append r2) (by rw [List.length_append]; omega), rfl, q _ I.fresh⟩
noncomputable def rRep : R2 := fun x y H Q => ∃ l k xs, x = .ref l ∧ y = .int k ∧ H l = some (.lst xs) ∧ -(2 ^ 63) ≤ k ∧ k < 2 ^ 63 ∧ xs.length * k.toNat ≤ sizeLine ∧
 ∀ p, H p = none → Q (.ref p) (upd H p (.lst (List.replicate k.toNat xs).flatten))
theorem len_rep {α : Type} (xs : List α) (k : Nat) : (List.replicate k xs).flatten.length = k * xs.length := by
 induction k with
 | zero => simp
 | succ k ih => rw [List.replicate_succ, List.flatten_cons, List.length_append, ih, Nat.succ_mul, Nat.add_comm]
theorem op_rep : OpR X (binaryOp .Mult) rRep := by
 intro pins s σ H x y v u Q I rx ry h
 obtain ⟨l, k, xs, rfl, rfl, hH, h1, h2, hz, q⟩ := h
 cases rx
 obtain ⟨t, rfl⟩ := ry
 obtain ⟨z, its, n, r, hl, e⟩ := I.lstM hH
 have hlen : its.toArray.size * k.toNat ≤ sizeLine := by rw [List.size_toArray, ← hl]; exact hz
 have hcap : ¬ its.toArray.size * k.toNat > (2 ^ 63 - 1) / 8 := by
  have : (sizeLine : Nat) ≤ (2 ^ 63 - 1) / 8 := by decide
  omega
 have hfit : ¬ (!Builtin.List.listFitsIndex k) = true := by
  rw [fitsIndex_both h1 h2]
  exact Bool.false_ne_true
 have hlong : ¬ Builtin.List.listTooLong (its.toArray.size * k.toNat) = true := by
  rw [notLongL hlen]
  exact Bool.false_ne_true
 have hnew : List.foldl (fun x1 x2 => x1 ++ x2) #[] (List.replicate (if its.toArray.isEmpty = true then 0 else k.toNat) its.toArray) = (List.replicate k.toNat its).flatten.toArray := by
  have f0 : ∀ m : Nat, List.foldl (fun x1 x2 => x1 ++ x2) #[] (List.replicate m its.toArray) = (List.replicate m its).flatten.toArray := fun m => by
   have := foldl_rep its m []
   rw [List.nil_append] at this
   exact this
  rw [f0]
  cases its with
  | nil => simp
  | cons a r' => rw [if_neg (by simp)]
 refine wpAny_binaryOp_repeat_ref (T := "list") (U := "int") (by decide) ⟨_, e, rfl⟩ (fun s' => typeIs_int s' k t) noFill_list_mul F.fills_int_mul F.slot_int_rmul repeat_list F.slot_int_index.lookup
  (call_meets F.slot_int_rmul (typeIs_int s k t) F.entry_int_rmul (F.args_int_rmul_2 _ _) (int___rmul___int_list k t l its.toArray n)
   ⟨e, rfl, ⟨_, e, rfl⟩, call_meets F.slot_list_mul ⟨_, e, rfl⟩ F.entry_list_mul (F.args_list_mul_2 _ _) (AutoListH.list___mul___list_int_3 l its.toArray n k t hfit hcap hlong) ⟨e, ?_⟩⟩)
 rw [hnew]
 exact ⟨.ref _, _, I.lnew (t' := s.toks) (r.rep k.toNat) (by rw [len_rep, Nat.mul_comm]; exact hz), rfl, q _ I.fresh⟩
end
section
variable {prog : Program} {w : World} {A : Around} {E : Value → Shared → Prop} {s : Shared}
set_option maxRecDepth 100000 in
end
section
variable {X : Cx}
end
end L2
namespace Att
open PySem PySem.W PySem.Calls PyProof.Rows
theorem ints_of_wellAll {P : Params} {h : Heap} : ∀ (ns : List Int) (vs : List Value), WellAll P h vs (ns.map WData.int) → IntsAre vs ns := by
 intro ns
 induction ns with
 | nil =>
   intro vs w
   rw [List.map_nil] at w
   cases w
   exact .nil
 | cons n ns ih =>
   intro vs w
   rw [List.map_cons] at w
   cases w with
   | cons a b =>
     cases a
     exact .cons _ _ (ih _ b)
theorem script_of {l : OpenLaw} {n : Nat} (hn : l.most = some n) {P : Params} {h : Heap} {args : List WData} {vals : List Value}
  (hpre : l.row.toRowW.claim.pre args = true) (hwl : WellAll P h vals args) :
  ∃ a vs ns, vals = [Value.ref a] ∧ args = [WData.list (ns.map WData.int)] ∧ h.get? a = some { cls := .type "list", data := .seq vs.toArray } ∧ IntsAre vs ns ∧ ns.length ≤ n := by
 have hsh : WShape.hasAll [] args [.list .int] = true := (pre_splitW hpre).1
 have hc : l.pre.holds [] { args := args } = true := (pre_splitW hpre).2
 obtain ⟨d, r, rfl, h1, h2⟩ := hasAllW_cons hsh
 obtain rfl := hasAllW_nil h2
 obtain ⟨xs, rfl, h3⟩ := hasW_list h1
 obtain ⟨ns, rfl⟩ := items_int h3
 have hlen : ns.length ≤ n := by
  unfold OpenLaw.pre at hc
  have h4 : (WTm.not (.lt (.lit (.int (n : Int))) (.len (.arg 0)))).holds [] { args := [.list (ns.map .int)] } = true := by
   have h4 := (holds_andW hc).1
   rw [hn] at h4
   exact h4
  have h5 := condW_of h4 (w_not (w_lt w_lit (w_len_list (w_arg rfl))))
  rw [List.length_map] at h5
  refine Nat.le_of_not_lt fun q => ?_
  have q' : (n : Int) < ((ns.length : Nat) : Int) := by omega
  first
   | (rw [decide_eq_true q'] at h5; exact absurd h5 (by decide))
   | (simp at h5; omega)
 cases hwl with
 | cons w1 w2 =>
   cases w2
   cases w1 with
   | list ho hall => exact ⟨_, _, ns, rfl, rfl, ho, ints_of_wellAll ns _ hall, hlen⟩
theorem post_true (l : OpenLaw) (args : List WData) : l.row.toRowW.claim.post args (.bool true) args = true :=
 postW_of (r := l.row.toRowW) (X := (true == true))
  (show WShape.has [] (.bool true) .bool = true by first | rfl | decide | simp [WShape.has, WShape.arms, WShape.armsAll])
  (show (WTm.eq .res (.lit (.bool true))).value [] { args := args, res := some (.bool true), after := args } = some (.bool (true == true)) from w_eq_bool (w_res rfl) w_lit) rfl
theorem attach_call {l : OpenLaw} {n : Nat} {q : Program} {loose : List Str} {XP : (Str → Option Value) → Heap → Prop} {YP : World → Heap → Prop} {d : DefRec}
  (hn : l.most = some n) (hdf : d.params.defaults = [])
  (call : ∀ (w : World) (s₀ s₁ : Shared) (mg mb : Str → Option Value) (fa : Addr) (o : Obj) (pm cd doc : Value) (a : Addr) (vs : List Value) (ns : List Int),
   Ground q loose [] XP w s₀ mg mb s₁.heap → YP w s₁.heap →
   s₁.heap.get? fa = some o → o.data = .func (docDef d.name d.params d.body d.scope pm cd doc) → s₁.heap.CodeRec cd d.name → mg d.name = some (.ref fa) →
   s₁.heap.get? a = some { cls := .type "list", data := .seq vs.toArray } → IntsAre vs ns → ns.length ≤ n → s₁.gens = #[] →
   codeAny (model l.prog w) callerA (.call (.ref fa) ⟨[.ref a], []⟩) (fun r s' => r = .ok (.ret (.bool true)) ∧ OldK s₁.heap s'.heap ∧ s'.os = s₁.os ∧ AllBare s'.gens) s₁) :
  WalkO q loose XP YP l.row.toRowW d [] (fun f vs => PySem.call f vs) := by
 intro w s₀ s₁ mg mb G Y fa o pm cd doc dV kV ho hd hcd hD hmg hg args vals as hpre hlay hrd hwl hlo
 obtain rfl : dV = .none := Dflts.none hD hdf
 obtain rfl : kV = .none := Dflts.noKw hD
 obtain ⟨a, vs, ns, rfl, rfl, hobj, hints, hlen⟩ := script_of hn hpre hwl
 refine enter_call (codeAny_mono (call w s₀ s₁ mg mb fa o pm cd doc a vs ns G Y ho (fd_plain hd) hcd hmg hobj hints hlen hg) fun r s' hq => ?_)
 obtain ⟨rfl, h2, h3, h4⟩ := hq
 exact ⟨.inl ⟨.bool true, .bool true, [], rfl, fun _ => rfl, .bool true, post_true l _, fun _ => ⟨List.Pairwise.nil, fun _ hm => (nomatch hm)⟩⟩, h2, h3, h4⟩
section
variable {prog : Program} {w : World} {A : Around} {E : Value → Shared → Prop} {s : Shared} {K : Frag}
end
end Att
namespace L2
open PySem PySem.Spec PyProof.Rows
theorem vals_ints : ∀ {vs : List Value} {ns : List Int}, IntsAre vs ns → Vals (ns.map V.int) vs
 | _, _, .nil => .nil
 | _, _, .cons n t h => .cons ⟨t, rfl⟩ (vals_ints h)
noncomputable def defArgs (s : Stmt) : Arguments := match s with
 | .FunctionDef _ a _ _ _ _ _ _ _ _ => a
 | _ => { posonlyargs := [], args := [], vararg := none, kwonlyargs := [], kw_defaults := [], kwarg := none, defaults := [] }
noncomputable def defBody (s : Stmt) : List Stmt := match s with
 | .FunctionDef _ _ b _ _ _ _ _ _ _ => b
 | _ => []
noncomputable def defScope (s : Stmt) : Scope := match s with
 | .FunctionDef _ _ _ _ _ _ sc _ _ _ => sc
 | _ => { kind := .function, names := [], isGenerator := false, isCoroutine := false }
abbrev CX0 : CXT := fun _ _ _ _ _ _ => False
abbrev E0 : XK := fun _ _ _ => False
theorem pass0 {X : Cx} : Passes CX0 X E0 := fun _ _ _ _ _ _ _ h => h.elim
structure Fun (K : PySem.W.Frag) (x qual : Str) (st : Stmt) (f : Addr) (fd : FuncData) : Prop where
 ex : ∃ (oc : Value) (od : Option Addr) (kV doc pm : Value) (an : Option Addr) (cdv ct : Value) (osl : Array (Option Value)),
  fd = PySem.W.fnOf x qual (defArgs st) (defBody st) (defScope st) .none kV doc pm an cdv ct ∧ K.lookup f = some ⟨oc, od, .func fd, osl⟩ ∧ PySem.W.codeIn K cdv qual = true
 kp : PySem.W.keepIn K (.ref f) = true
section
variable {P : Program} {w : World} {K : PySem.W.Frag} {mg : Str → Option Value} {base : Heap}
theorem Fun.ok {x qual : Str} {st : Stmt} {f : Addr} {fd : FuncData} {N ps : List Str} {k : Nat} {sp : Sp} (F : Fun K x qual st f fd) (S : FnScope N ps (defScope st)) (len : ∀ vs H Q E, sp vs H Q E → vs.length = ps.length)
  (hbody : ∀ (cdv : Value) (A : Around) (outer : List Env) (s : Shared) (H : Hp) (vs : List V) (Q : VK) (E : XK), Room k (A.deeper (envOfC qual (defScope st) s.heap.objs.size f cdv)) → sp vs H Q E →
   ∃ t, PSs (cxOf CX0 P w K mg base N qual (defScope st) f cdv A outer s H E).nox (defBody st) t ∧ t { nx := fun _ H' => Q .non H', rt := Q } (start N vs) H) : FnOk P w K mg base CX0 (k + 1) f fd ps sp := by
 obtain ⟨oc, od, kV, doc, pm, an, cdv, ct, osl, rfl, lk, hcd⟩ := F.ex
 refine fn_of lk hcd S len fun A outer s H vs Q E hr hsp => ?_
 obtain ⟨t, h, q⟩ := hbody cdv A outer s H vs Q E hr hsp
 exact ⟨t, h.nox, q⟩
theorem Fun.binds {x qual : Str} {st : Stmt} {f : Addr} {fd : FuncData} {ps : List Str} (F : Fun K x qual st f fd)
  (h : ∀ (kV doc pm : Value) (an : Option Addr) (cdv ct : Value) (us : List Value), us.length = ps.length → bindArgs (PySem.W.fnOf x qual (defArgs st) (defBody st) (defScope st) .none kV doc pm an cdv ct) ⟨us, []⟩ = pure (ps.zip us)) : Binds K fd ps [] := by
 obtain ⟨oc, od, kV, doc, pm, an, cdv, ct, osl, rfl, lk, hcd⟩ := F.ex
 exact .all (h kV doc pm an cdv ct)
theorem fun_mk {x qual : Str} {st : Stmt} {f : Addr} {oc : Value} {od an : Option Addr} {osl : Array (Option Value)} {kV doc pm cdv ct : Value} (l : K.lookup f = some ⟨oc, od, .func (PySem.W.fnOf x qual (defArgs st) (defBody st) (defScope st) .none kV doc pm an cdv ct), osl⟩)
 (c : PySem.W.codeIn K cdv qual = true) (k : PySem.W.keepIn K (.ref f) = true) : Fun K x qual st f (PySem.W.fnOf x qual (defArgs st) (defBody st) (defScope st) .none kV doc pm an cdv ct) := ⟨⟨oc, od, kV, doc, pm, an, cdv, ct, osl, rfl, l, c⟩, k⟩
theorem small1000 {n : Nat} (h : n ≤ 1000) : n < sizeLine := Nat.lt_of_le_of_lt h (by decide)
section
variable {X : Cx}
theorem pv (i : Nat) {x : Str} {pos : Pos} (hN : X.N[i]? = some x := by rfl) (hv : Vis X.env.scope x := by first | exact Or.inl rfl | exact Or.inr (Or.inl rfl) | exact Or.inr (Or.inr rfl)) (hd : (x == ("__debug__" : Str)) = false := by decide)
 (hcd : (x == ("__classdict__" : Str)) = false := by decide) : PE X (.Name x pos) (tVar i) := pe_var hN hv hd hcd
end
theorem iteF {A B : Prop} (h : B) : if false = true then A else B := by
 rw [if_neg Bool.false_ne_true]
 exact h
theorem iteT {A B : Prop} (h : A) : if true = true then A else B := by
 rw [if_pos rfl]
 exact h
theorem ite2 {c A B : Prop} [Decidable c] (h1 : c → A) (h2 : ¬ c → B) : if c then A else B := by
 by_cases h : c
 · rw [if_pos h]
   exact h1 h
 · rw [if_neg h]
   exact h2 h
noncomputable def Same (H H' : Hp) : Prop := ∀ b o, H b = some o → H' b = some o
theorem Same.refl (H : Hp) : Same H H := fun _ _ h => h
theorem Same.trans {H H1 H2 : Hp} (a : Same H H1) (b : Same H1 H2) : Same H H2 := fun c o h => b c o (a c o h)
theorem Same.seq {K : PySem.W.Frag} {H H' : Hp} {a : Addr} {xs : List V} (e : Same H H') (h : SqL K H a xs) : SqL K H' a xs := by
 rcases h with (h | ⟨o, h⟩) | h
 · exact .inl (.inl (e _ _ h))
 · exact .inl (.inr ⟨o, e _ _ h⟩)
 · exact .inr h
section
variable {κ : Type} [DecidableEq κ]
end
section
variable {prog : Program} {w : World} {A : Around} {R : Result → Shared → Prop} {s : Shared}
theorem compLoop_any {elt target iter : Expr} {ifs : List Expr} {scope : Scope} {pos : Pos} {it acc : Value} {env : Env} (I : Nat → Shared → Prop)
  (turn : ∀ n s, I n s → wpAny (model prog w) A (pyNext it) (fun r s₁ => match r with
   | none => R (.ok .next) s₁
   | some v => wpAny (model prog w) A (letOwnedTupleGo target it v) (fun _ s₂ => wpAny (model prog w) A (assign target env v) (fun _ s₂ =>
    wpAny (model prog w) A (forIn ifs true fun c r => if r = true then do let ok ← isTrue c env (eval c env); pure (ForInStep.yield ok) else pure (ForInStep.yield r)) (fun ok s₃ =>
     if ok = true then wpAny (model prog w) A (eval elt env) (fun x s₄ =>
      wpAny (model prog w) A (call (.builtin "list.append") [acc, x]) (fun _ s₅ => ∃ m, m < n ∧ I m s₅) (fun _ _ => False) s₄) (fun _ _ => False) s₃
     else ∃ m, m < n ∧ I m s₃) (fun _ _ => False) s₂) (fun _ _ => False) s₂) (fun _ _ => False) s₁) (fun _ _ => False) s)
  (n : Nat) (h : I n s) :
  codeAny (model prog w) A (.compLoop (.ListComp elt [⟨target, iter, ifs, 0⟩] scope pos) 0 it acc env) R s := by
 refine codeAny_loop rfl I (fun n s hI => ?_) n h
 show wpAny _ A ((compTurn (.ListComp elt [⟨target, iter, ifs, 0⟩] scope pos) 0 it acc env).onRaise (fun x => do noteFrame x env; theTreesLotGoes x)) _ _ s
 refine wpAny_noted ?_
 rw [compTurn_list]
 refine wpAny_bind (wpAny_standAt (wpAny_bind (wpAny_mono (turn n s hI) (fun r s₁ h₁ => ?_) fun _ _ h' => h'.elim)))
 cases r with
 | none => exact wpAny_pure h₁
 | some v =>
   refine wpAny_bind (wpAny_mono h₁ (fun _ s₁ h₁ => ?_) fun _ _ h' => h'.elim)
   refine wpAny_bind (wpAny_mono h₁ (fun _ s₂ h₂ => wpAny_bind (wpAny_mono h₂ (fun ok s₃ h₃ => ?_) fun _ _ h' => h'.elim)) fun _ _ h' => h'.elim)
   cases ok with
   | false => exact wpAny_pure ⟨rfl, h₃⟩
   | true =>
     exact wpAny_bind (wpAny_bind (wpAny_mono h₃ (fun x s₄ h₄ => wpAny_bind (wpAny_mono h₄ (fun _ s₅ h₅ => wpAny_pure (wpAny_pure ⟨rfl, h₅⟩)) fun _ _ h' => h'.elim)) fun _ _ h' => h'.elim))
end
noncomputable def clo (env : Env) : List (Str × NameKind) → List (Str × Addr) → List (Str × Addr)
 | [], cs => cs
 | (n, k) :: r, cs => if k == .free then clo env r ((n, (env.cells.lookup n).getD 0) :: cs) else clo env r cs
theorem closureFor_clo {scope : Scope} {env : Env} (hf : ∀ x ∈ scope.names, x.2 = .free → ∃ c, env.cells.lookup x.1 = some c) : closureFor scope env = pure (clo env scope.names []) := by
 have go : ∀ (l : List (Str × NameKind)) (cs : List (Str × Addr)), (∀ x ∈ l, x.2 = .free → ∃ c, env.cells.lookup x.1 = some c) →
   (forIn (m := Sem) l cs fun x r => (if (x.2 == NameKind.free) = true then do let a ← cellOf env x.1; pure (ForInStep.yield ((x.1, a) :: r)) else pure (ForInStep.yield r))) = pure (clo env l cs) := by
  intro l
  induction l with
  | nil => intro cs _; rfl
  | cons p r ih =>
    obtain ⟨n, k⟩ := p
    intro cs h
    have hr : ∀ x ∈ r, x.2 = .free → ∃ c, env.cells.lookup x.1 = some c := fun x hx => h x (List.mem_cons_of_mem _ hx)
    rw [List.forIn_cons]
    by_cases hk : k = .free
    · subst hk
      obtain ⟨c, hc⟩ := h (n, .free) List.mem_cons_self rfl
      have e : cellOf env n = pure c := by unfold cellOf; dsimp only at hc; rw [hc]
      dsimp only
      rw [if_pos (by rfl), e, pure_bind, pure_bind]
      dsimp only
      rw [ih _ hr]
      dsimp only at hc
      show _ = pure (if (NameKind.free == .free) = true then clo env r ((n, (env.cells.lookup n).getD 0) :: cs) else clo env r cs)
      rw [if_pos (by rfl), hc]
      rfl
    · have hk' : (k == NameKind.free) = false := by simpa using hk
      dsimp only
      rw [hk', if_neg Bool.false_ne_true, pure_bind]
      dsimp only
      rw [ih _ hr]
      show _ = pure (if (k == .free) = true then clo env r ((n, (env.cells.lookup n).getD 0) :: cs) else clo env r cs)
      rw [hk', if_neg Bool.false_ne_true]
 have e := go scope.names [] hf
 unfold closureFor
 simp only []
 exact (by
  first
   | exact e
   | (rw [show (forIn (m := Sem) scope.names ([] : List (Str × Addr)) _) = _ from e]; rfl)
   | (simpa using e))
theorem clo_lookup {env : Env} {x : Str} {c : Addr} : ∀ {l : List (Str × NameKind)} {cs : List (Str × Addr)}, (∀ x ∈ l, x.2 = .free → ∃ c, env.cells.lookup x.1 = some c) → (clo env l cs).lookup x = some c → cs.lookup x = some c ∨ env.cells.lookup x = some c
 | [], cs, _, h => .inl h
 | (n, k) :: r, cs, hf, h => by
   have hr : ∀ x ∈ r, x.2 = .free → ∃ c, env.cells.lookup x.1 = some c := fun x hx => hf x (List.mem_cons_of_mem _ hx)
   unfold clo at h
   split at h
   · rename_i hk
     obtain ⟨c', hc'⟩ := hf (n, k) List.mem_cons_self (by simpa using hk)
     dsimp only at hc'
     rcases clo_lookup hr h with q | q
     · rw [List.lookup_cons] at q
       cases e : x == n with
       | true =>
         rw [e] at q
         have : x = n := by simpa using e
         subst this
         rw [hc'] at q
         dsimp at q
         exact .inr (hc'.trans q)
       | false => rw [e] at q; exact .inl q
     · exact .inr q
   · exact clo_lookup hr h
theorem clo_some {env : Env} {x : Str} : ∀ {l : List (Str × NameKind)} {cs : List (Str × Addr)}, (x, NameKind.free) ∈ l ∨ (∃ c, cs.lookup x = some c) → ∃ c, (clo env l cs).lookup x = some c
 | [], cs, h => by
   rcases h with h | h
   · cases h
   · exact h
 | (n, k) :: r, cs, h => by
   unfold clo
   split
   · rename_i hk
     have hk : k = .free := by simpa using hk
     subst hk
     refine clo_some (cs := (n, (env.cells.lookup n).getD 0) :: cs) ?_
     rcases h with h | ⟨c, h⟩
     · rcases List.mem_cons.mp h with h | h
       · cases h
         exact .inr ⟨_, List.lookup_cons_self⟩
       · exact .inl h
     · refine .inr ?_
       cases e : x == n with
       | true => exact ⟨_, by rw [List.lookup_cons, e]⟩
       | false => exact ⟨c, by rw [List.lookup_cons, e]; exact h⟩
   · rename_i hk
     refine clo_some ?_
     rcases h with h | h
     · rcases List.mem_cons.mp h with h | h
       · cases h
         exact absurd rfl hk
       · exact .inl h
     · exact .inr h
theorem relabel_kind {scope : Scope} {env : Env} {x : Str} (hcell : ∀ y ∈ scope.names, y.2 ≠ .cell) (h : (relabel scope env).names.lookup x = some .cell ∨ (relabel scope env).names.lookup x = some .free) : (x, NameKind.free) ∈ scope.names := by
 have go : ∀ (l : List (Str × NameKind)), (∀ y ∈ l, y.2 ≠ .cell) → ∀ k, (k = NameKind.cell ∨ k = .free) →
   (l.map fun (n, k) => if (k == NameKind.free && env.scope.kind == .function && env.kindOf n == some .cell) then (n, NameKind.cell) else (n, k)).lookup x = some k → (x, NameKind.free) ∈ l := by
  intro l
  induction l with
  | nil => intro _ k _ h; cases h
  | cons p r ih =>
    obtain ⟨n, k0⟩ := p
    intro hc k hk h
    have hr : ∀ y ∈ r, y.2 ≠ .cell := fun y hy => hc y (List.mem_cons_of_mem _ hy)
    rw [List.map_cons] at h
    dsimp only at h
    have hn := hc (n, k0) List.mem_cons_self
    dsimp only at hn
    by_cases hx : (x == n) = true
    · have e : x = n := by simpa using hx
      subst e
      split at h
      · rename_i hz
        have : k0 = .free := by
         simp only [Bool.and_eq_true] at hz
         simpa using hz.1.1
        subst this
        exact List.mem_cons_self
      · rw [List.lookup_cons_self] at h
        cases h
        rcases hk with rfl | rfl
        · exact absurd rfl hn
        · exact List.mem_cons_self
    · have hx : (x == n) = false := by simpa using hx
      have h' : (r.map fun (n, k) => if (k == NameKind.free && env.scope.kind == .function && env.kindOf n == some .cell) then (n, NameKind.cell) else (n, k)).lookup x = some k := by
       split at h
       · rw [List.lookup_cons, hx] at h; exact h
       · rw [List.lookup_cons, hx] at h; exact h
      exact List.mem_cons_of_mem _ (ih hr k hk h')
 rcases h with h | h
 · exact go scope.names hcell _ (.inl rfl) h
 · exact go scope.names hcell _ (.inr rfl) h
abbrev lstO (us : List Value) : Obj := { cls := .type "list", data := .seq us.toArray us.length }
theorem lstO_snoc (us : List Value) (u : Value) : ({ cls := .type "list", data := .seq (us.toArray.push u) (us.length + 1) } : Obj) = lstO (us ++ [u]) := by
 show ({ cls := .type "list", data := .seq (us.toArray.push u) (us.length + 1) } : Obj) = { cls := .type "list", data := .seq (us ++ [u]).toArray (us ++ [u]).length }
 rw [List.length_append, List.length_singleton, List.push_toArray]
noncomputable def capσ (k : Nat) (cap : List Nat) (σ : St) : St := List.replicate k none ++ cap.map fun j => (σ[j]?).getD none
noncomputable def capN (own : List Str) (cap : List Nat) (N : List Str) : List Str := own ++ cap.map fun j => (N[j]?).getD Str.empty
noncomputable def compCx (X : Cx) (own : List Str) (cap : List Nat) (scope : Scope) (C : Addr) (fp : List Addr) (s₂ : Shared) (H₂ : Hp) : Cx :=
 { X with N := capN own cap X.N, s₀ := s₂, H₀ := H₂, env := compEnvC scope (clo X.env scope.names []) C X.env, outer := X.stack, ex := fp, fn := fun _ => false, pn := [], xe := fun _ _ => False }
noncomputable def CapOk (X : Cx) (scope : Scope) : List Nat → Prop
 | [] => True
 | j :: r => (∃ x, X.N[j]? = some x ∧ (X.env.scope.names.lookup x = some .cell ∨ X.env.scope.names.lookup x = some .free) ∧ (relabel scope X.env).names.lookup x ≠ some .local) ∧ CapOk X scope r
theorem CapOk.mem {X : Cx} {scope : Scope} : ∀ {cap : List Nat}, CapOk X scope cap → ∀ j ∈ cap, ∃ x, X.N[j]? = some x ∧ (X.env.scope.names.lookup x = some .cell ∨ X.env.scope.names.lookup x = some .free) ∧ (relabel scope X.env).names.lookup x ≠ some .local
 | [], _, _, h => nomatch h
 | _ :: _, ⟨a, b⟩, j, h => by
   rcases List.mem_cons.mp h with rfl | h
   · exact a
   · exact CapOk.mem b j h
structure LcScope (X : Cx) (own : List Str) (cap : List Nat) (scope : Scope) : Prop where
 kind : scope.kind = .function
 free : ∀ x ∈ scope.names, x.2 = .free → X.env.kindOf x.1 = some .cell ∨ X.env.kindOf x.1 = some .free
 cell : ∀ x ∈ scope.names, x.2 ≠ .cell
 names : ∀ x ∈ scope.names, x.2 = .local → scope.names.lookup x.1 = some .local
 cap : CapOk X scope cap
section
variable {X : Cx} {pins : List (Addr × Obj)} {σ : St} {H H₂ : Hp} {s s₂ : Shared} {own : List Str} {cap : List Nat} {scope : Scope} {C : Addr} {fp : List Addr}
theorem LcScope.has (S : LcScope X own cap scope) (ok : X.Ok) : ∀ x ∈ scope.names, x.2 = .free → ∃ c, X.env.cells.lookup x.1 = some c := fun x hx hk => ok.has _ (S.free x hx hk)
theorem LcScope.look (S : LcScope X own cap scope) (ok : X.Ok) {x : Str} {c : Addr} (h : (clo X.env scope.names []).lookup x = some c) : X.env.cells.lookup x = some c := by
 rcases clo_lookup (S.has ok) h with q | q
 · cases q
 · exact q
theorem Un.cellK {fs ex : List Addr} {H H' : Hp} {h h' : Heap} {c : Addr} {v : Option Value} (u : Un fs ex H H' h h') (n : H c = none) (hx : c ∉ ex) (z : h.IsCell c v) : h'.IsCell c v := by
 obtain ⟨o, ho, hd⟩ := z
 obtain ⟨sl, e⟩ := u.any ho n hx
 exact ⟨_, e, hd⟩
theorem compCx_ok (I : Inv X pins σ H₂ s₂) (S : LcScope X own cap scope) (f : ∀ b ∈ fp, FpOk X pins H₂ b) (hC : s₂.heap.objs.size ≤ C) (hfp : ∀ b ∈ fp, b < s₂.heap.objs.size) : (compCx X own cap scope C fp s₂ H₂).Ok where
 mod := I.ok.mod
 kind := S.kind
 glob := I.ok.glob
 blt := I.ok.blt
 above := hC
 inj := fun x y c h1 h2 => I.ok.inj x y c (S.look I.ok h1) (S.look I.ok h2)
 has := fun x h => clo_some (.inl (relabel_kind S.cell h))
 cab := fun x c h => by cases h
 hd := I.ok.hd
 frames := I.ok.frames
 stk := .inl rfl
 exf := fun b hb => ⟨Nat.ne_of_lt (Nat.lt_of_lt_of_le (hfp b hb) hC), fun x c h => (f b hb).2.2.2.2.1 x c (S.look I.ok h)⟩
 bs := I.bs
 bsz := Nat.le_trans I.ok.bsz I.sz
 noex := fun b o e hb => by
  rcases (f b hb).2.2.2.1 with z | z
  · exact I.ok.noex b o e z
  · exact absurd (Nat.lt_of_lt_of_le (Heap.lt_size e) (Nat.le_trans I.ok.bsz z)) (Nat.lt_irrefl _)
 exfs := fun b hb z => by
  rcases List.mem_cons.mp (I.stkSub b z) with e | e
  · exact (f b hb).2.1 e
  · exact (f b hb).2.2.1 e
 funs := I.stack
 frf := fun b hb => I.stkFree b hb
theorem comp_loc (I : Inv X pins σ H₂ s₂) (S : LcScope X own cap scope) (f : ∀ b ∈ fp, FpOk X pins H₂ b) {fs : List Addr} {h' : Heap} {H' : Hp} (u : Un fs fp H₂ H' s₂.heap h') (m : Str → Option Value) :
  ∀ (i : Nat) (x : Str) (v : V), (capN own cap X.N)[i]? = some x → (capσ own.length cap σ)[i]? = some (some v) → Vis (relabel scope X.env) x → ∃ q, RelV v q ∧ Look (compEnvC scope (clo X.env scope.names []) C X.env) h' m x q := by
 intro i x v h1 h2 h3
 unfold capσ at h2
 unfold capN at h1
 by_cases hi : i < own.length
 · rw [List.getElem?_append_left (by simpa using hi), List.getElem?_replicate] at h2
   split at h2 <;> cases h2
 · rw [List.getElem?_append_right (by simpa using hi)] at h2 h1
   rw [List.length_replicate] at h2
   rw [List.getElem?_map] at h1 h2
   cases e : cap[i - own.length]? with
   | none => rw [e] at h1; cases h1
   | some j =>
     rw [e] at h1 h2
     obtain ⟨y, hy, hk, hnl⟩ := S.cap.mem j (List.mem_of_getElem? e)
     have h1 : (X.N[j]?).getD Str.empty = x := Option.some.inj h1
     rw [hy] at h1
     have h1 : y = x := h1
     subst h1
     have h2 : (σ[j]?).getD none = some v := Option.some.inj h2
     have h2' : σ[j]? = some (some v) := by
      cases q : σ[j]? with
      | none => rw [q] at h2; cases h2
      | some z => rw [q] at h2; exact congrArg some h2
     obtain ⟨m0, hn, hl⟩ := I.loc
     obtain ⟨q, r, l⟩ := hl j y v hy h2' (.inr hk)
     refine ⟨q, r, ?_⟩
     rcases l with ⟨kl, _⟩ | ⟨_, c, hc, z⟩
     · have kl : X.env.scope.names.lookup y = some .local := kl
       rcases hk with k | k <;> (rw [kl] at k; cases k)
     · have hk' : (relabel scope X.env).names.lookup y = some .cell ∨ (relabel scope X.env).names.lookup y = some .free := h3.resolve_left hnl
       obtain ⟨c', hc'⟩ := clo_some (env := X.env) (cs := []) (.inl (relabel_kind S.cell hk'))
       have e2 := S.look I.ok hc'
       rw [hc] at e2
       cases e2
       exact .inr ⟨hk', c, hc', u.cellK (I.freeC y c hc) (fun zz => (f c zz).2.2.2.2.1 y c hc rfl) z⟩
theorem comp_back {pins' : List (Addr × Obj)} {σ' : St} {H' : Hp} {s' : Shared} (I : Inv X pins σ H₂ s₂) (S : LcScope X own cap scope) (f : ∀ b ∈ fp, FpOk X pins H₂ b) (J : Inv (compCx X own cap scope C fp s₂ H₂) pins' σ' H' s') :
  Inv (compCx X own cap scope C fp s₂ H₂) pins' (capσ own.length cap σ) H' s' := by
 obtain ⟨m, hn, _⟩ := id J.loc
 refine ⟨J.ok, J.os, J.bare, J.base, ⟨m, hn, comp_loc I S f J.base m⟩, J.cell, J.free, J.freeC, J.pin, J.hok, ?_⟩
 unfold capσ
 show _ = (capN own cap X.N).length
 unfold capN
 simp
theorem comp_end {pins' : List (Addr × Obj)} {σ' : St} {H' : Hp} {s' : Shared} {h' : Heap} {D : Addr} {us : List Value} {ys : List V} (I : Inv X pins σ H₂ s₂) (f : ∀ b ∈ fp, FpOk X pins H₂ b) (J : Inv (compCx X own cap scope C fp s₂ H₂) pins' σ' H' s')
  (hs : Heap.SameBut C s'.heap h') (hC : s₂.heap.objs.size ≤ C) (hD : s₂.heap.objs.size ≤ D) (hDC : D ≠ C) (ho : s'.heap.get? D = some (lstO us)) (hn : H' D = none) (hl : ys.length ≤ sizeLine) (r : Vals ys us) :
  Inv X pins σ (upd H' D (.lst ys)) { s' with heap := h' } := by
 have same : ∀ b o, b ≠ C → s'.heap.get? b = some o → h'.get? b = some o := fun b o hb e => (hs.2 b hb).trans e
 have old : ∀ b o, s₂.heap.get? b = some o → b ≠ C ∧ b ≠ D := fun b o e => ⟨Nat.ne_of_lt (Nat.lt_of_lt_of_le (Heap.lt_size e) hC), Nat.ne_of_lt (Nat.lt_of_lt_of_le (Heap.lt_size e) hD)⟩
 have u : Un (frs X.stack) fp H₂ H' s₂.heap s'.heap := J.base
 have HC : H' C = none := J.free
 have hok : HOk X.prog X.w (upd H' D (.lst ys)) h' := by
  intro b ob e
  by_cases hb : b = D
  · subst hb
    rw [upd_same] at e
    cases e
    exact ⟨hl, us, us.length, r, same b _ hDC ho⟩
  · rw [zqf hb] at e
    have neC : ∀ c w', H' c = some w' → c ≠ C := fun c w' z q => by rw [q, HC] at z; cases z
    refine (J.hok b ob e).stay (fun c v hc q => same c v ?_ q) (fun c q => ?_) fun c xs q => ?_
    · rcases hc with z | z
      · rw [z]; exact neC b ob e
      · exact neC c _ z
    · rw [zqf (zqg q hn)]; exact q
    · rw [zqf (zqg q hn)]; exact q
 refine I.call' (s' := { s' with heap := h' }) (ch := fp) J.os ⟨fun b o e n hb hx => ?_, fun b o e n hb hx => ?_, fun b o e n hx => ?_, fun b o e hx => ?_, fun b xs e => ?_, fun b o xs e => ?_, fun b ps e => ?_⟩ hok J.bare fun b hb => ?_
 · exact same b o (old b o e).1 (u.keep b o e n hb hx)
 · obtain ⟨sl, q⟩ := u.slot b o e n hb hx
   exact ⟨sl, same b _ (old b o e).1 q⟩
 · rw [zqf (old b o e).2]; exact u.free b o e n hx
 · obtain ⟨o', q⟩ := u.there b o e hx
   exact ⟨o', same b _ (old b o e).1 q⟩
 · have q := u.tups b xs e
   rw [zqf (zqg q hn)]; exact q
 · have q := u.frzs b o xs e
   rw [zqf (zqg q hn)]; exact q
 · obtain ⟨more, q⟩ := u.tbls b ps e
   exact ⟨more, by rw [zqf (zqg q hn)]; exact q⟩
 · obtain ⟨f0, f1, f2, f3, f4, f5⟩ := f b hb
   exact ⟨f3, f1, f4, f5⟩
end
noncomputable def PIfs (X : Cx) (ifs : List Expr) (t : TT) : Prop :=
 ∀ (pins : List (Addr × Obj)) (s : Shared) (σ : St) (H : Hp) (Q : Bool → Hp → Prop), Inv X pins σ H s → t σ H Q →
   wpAny (model X.prog X.w) X.A (forIn ifs true fun c r => if r = true then do let ok ← isTrue c X.env (eval c X.env); pure (ForInStep.yield ok) else pure (ForInStep.yield r)) (TP X pins σ Q) X.xe s
noncomputable def tIf0 : TT := fun _ H Q => Q true H
theorem zq2 {X : Cx} : PIfs X [] tIf0 := by
 intro pins s σ H Q I h
 exact wpAny_pure ⟨H, I, h⟩
theorem pif_one {X : Cx} {c : Expr} {t : TT} (h : PT X c t) : PIfs X [c] t := by
 intro pins s σ H Q I hq
 rw [List.forIn_cons]
 rw [if_pos rfl]
 refine wpAny_bind (wpAny_bind (thn (h pins s σ H Q I hq) fun b s1 ⟨H1, I1, q1⟩ => ?_))
 refine wpAny_pure ?_
 dsimp only
 rw [List.forIn_nil]
 exact wpAny_pure ⟨H1, I1, q1⟩
noncomputable def LcEnd (J : It) (g : TG) (tc : TT) (te : TE) (k : Nat) (cap : List Nat) (σ : St) (H : Hp) (Q : VK) : Prop :=
 ∃ W : Nat → Nat → List V → Hp → Prop, (∃ m, W 0 m [] H) ∧ ∀ i m ys H, W i m ys H →
   (J.stop i H ∧ ys.length ≤ sizeLine ∧ ∀ p, H p = none → Q (.ref p) (upd H p (.lst ys))) ∨
   (J.go i H ∧ ys.length ≤ sizeLine ∧ ∃ N : List V → Hp → Prop, (∀ ys' H', N ys' H' → ∃ m', m' < m ∧ W (i + 1) m' ys' H') ∧ ∀ x H', J.yld i H x H' → g x (capσ k cap σ) H' fun σ2 H2 => tc σ2 H2 fun b H3 => if b = true then te σ2 H3 fun y H4 => N (ys ++ [y]) H4 else N ys H3)
noncomputable def tLc (wi : TI) (g : TG) (tc : TT) (te : TE) (k : Nat) (cap : List Nat) : TE := fun σ H Q => wi σ H fun J H1 => LcEnd J g tc te k cap σ H1 Q
section
variable {X : Cx} {own : List Str} {cap : List Nat} {scope : Scope} {tg iter elt : Expr} {ifs : List Expr} {wi : TI} {g : TG} {tc : TT} {te : TE} {pos : Pos}
theorem lc_block {pins : List (Addr × Obj)} {σ : St} {H2 : Hp} {s2 : Shared} {it : Addr} {fp : List Addr} {tn : Nat → Heap → Prop} {J : It} {W : Nat → Nat → List V → Hp → Prop} {m0 : Nat} {QQ : List V → Hp → Prop} {RR : Value → Addr → Result → Shared → Prop}
  (hc : X.calm = true) (S : LcScope X own cap scope)
  (hg : ∀ C fp s₂ H₂, PG (compCx X own cap scope C fp s₂ H₂) tg g) (ht : ∀ C fp s₂ H₂, PIfs (compCx X own cap scope C fp s₂ H₂) ifs tc) (he : ∀ C fp s₂ H₂, PE (compCx X own cap scope C fp s₂ H₂) elt te)
  (I2 : Inv X pins σ H2 s2) (T : Turn X.prog X.w X.K tg J fp it tn) (st2 : tn 0 s2.heap) (f2 : ∀ b ∈ fp, FpOk X pins H2 b) (w0 : W 0 m0 [] H2)
  (turn : ∀ i m ys H, W i m ys H →
   (J.stop i H ∧ ys.length ≤ sizeLine ∧ QQ ys H) ∨
   (J.go i H ∧ ys.length ≤ sizeLine ∧ ∃ N : List V → Hp → Prop, (∀ ys' H', N ys' H' → ∃ m', m' < m ∧ W (i + 1) m' ys' H') ∧ ∀ x H', J.yld i H x H' → g x (capσ own.length cap σ) H' fun σ2 H2 => tc σ2 H2 fun b H3 => if b = true then te σ2 H3 fun y H4 => N (ys ++ [y]) H4 else N ys H3))
  (hRR : ∀ (D C : Addr) (pins' : List (Addr × Obj)) (σ' : St) (H' : Hp) (s' : Shared) (us : List Value) (ys : List V), Inv (compCx X own cap scope C fp s2 H2) pins' σ' H' s' → s2.heap.objs.size ≤ C → s2.heap.objs.size ≤ D → D ≠ C → s'.heap.get? D = some (lstO us) → H' D = none →
   ys.length ≤ sizeLine → Vals ys us → QQ ys H' → RR (.ref D) C (.ok .next) s') :
  wpAny (model X.prog X.w) X.A (newList []) (fun acc s₃ => wpAny (model X.prog X.w) X.A (newFunctionEnv scope X.env.globals (clo X.env scope.names []) [] X.env.qual none .none (some X.env)) (fun cenv s₄ =>
   codeAny (model X.prog X.w) X.A (.compStart (.ListComp elt [⟨tg, iter, ifs, 0⟩] scope pos) 0 (.ref it) acc { cenv with scope := relabel scope X.env }) (RR acc cenv.locals) s₄) X.xe s₃) X.xe s2 := by
 refine wpAny_newObj_type (wpAny_newFunctionEnv S.cell (by intro y hy; simp at hy) (fun h₁ hns₁ hsb₁ => ?_) S.kind)
 dsimp only at hns₁ hsb₁ ⊢
 generalize hH2 : s2.heap.push { cls := .type "list", dict := none, data := .seq ([] : List Value).toArray } = g2 at hns₁ hsb₁ ⊢
 have hCs : g2.objs.size = s2.heap.objs.size + 1 := by rw [← hH2, Heap.size_push]
 have hC : s2.heap.objs.size ≤ g2.objs.size := by rw [hCs]; exact Nat.le_succ _
 have hDC : s2.heap.objs.size ≠ g2.objs.size := by rw [hCs]; exact Nat.ne_of_lt (Nat.lt_succ_self _)
 have below : ∀ b, b < s2.heap.objs.size → b ≠ g2.objs.size ∧ b ≠ s2.heap.objs.size := fun b hb => ⟨by rw [hCs]; exact Nat.ne_of_lt (Nat.lt_succ_of_lt hb), Nat.ne_of_lt hb⟩
 have old : ∀ b o, s2.heap.get? b = some o → h₁.get? b = some o := fun b o e => hsb₁.extBut b o (below b (Heap.lt_size e)).1 (Heap.get?_push_of_some _ (hH2 ▸ Heap.get?_push_of_some _ e))
 have hacc : h₁.get? s2.heap.objs.size = some (lstO []) := hsb₁.extBut _ _ hDC (Heap.get?_push_of_some _ (hH2 ▸ Heap.get?_push_size _ rfl))
 have hfp : ∀ b ∈ fp, b < s2.heap.objs.size := fun b hb => by
  obtain ⟨o, e, _⟩ := T.obj _ _ st2 b hb
  exact Heap.lt_size e
 have freeAt : ∀ a, s2.heap.objs.size ≤ a → H2 a = none := fun a ha => I2.hok.fresh ha
 have ok := compCx_ok (own := own) (C := g2.objs.size) I2 S f2 hC hfp
 have st1 : tn 0 h₁ := T.keep _ _ _ st2 fun b hb o e => old b o e
 let X' := compCx X own cap scope g2.objs.size fp s2 H2
 have u1 : Un (frs X.stack) fp H2 H2 s2.heap h₁ := Un.kept old
 have start : Inv X' [(s2.heap.objs.size, lstO [])] (capσ own.length cap σ) H2 { s2 with heap := h₁, toks := s2.toks + ([] : List (Str × Value)).length } := by
  refine ⟨ok, rfl, I2.bare, u1, ⟨_, hns₁, comp_loc I2 S f2 u1 _⟩, fun x c e => ?_, freeAt _ hC, fun x c e => I2.freeC x c (S.look I2.ok e), fun p hp => ?_, I2.hok.kept old, ?_⟩
  · obtain ⟨v, z⟩ := I2.cell x c (S.look I2.ok e)
    obtain ⟨o, ho, hd⟩ := z
    exact ⟨v, o, old c o ho, hd⟩
  · have e : p = (s2.heap.objs.size, lstO []) := by simpa [X', compCx] using hp
    subst e
    refine ⟨hacc, freeAt _ (Nat.le_refl _), hDC, fun z => ?_, fun v z => by cases z⟩
    obtain ⟨_, o, ho, _⟩ := I2.stack.mem z
    exact absurd (Heap.lt_size ho) (Nat.lt_irrefl _)
  · unfold capσ
    show _ = (capN own cap X.N).length
    unfold capN
    simp
 have stat : ∀ {D : Addr} {o : Obj} {H' : Hp}, s2.heap.objs.size ≤ D → (∀ b ∈ fp, H' b = none) → ∀ b ∈ fp, FpOk X' [(D, o)] H' b := fun {D o H'} hD hn b hb =>
  ⟨hn b hb, (ok.exf b hb).1, ok.exfs b hb, .inl hb, fun x c e => (ok.exf b hb).2 x c e, fun p hp => by
   have e : p = (D, o) := by simpa [X', compCx] using hp
   subst e
   exact Ne.symm (Nat.ne_of_lt (Nat.lt_of_lt_of_le (hfp b hb) hD))⟩
 have loop : ∀ s₃ : Shared, s₃ = { s2 with heap := h₁, toks := s2.toks + ([] : List (Str × Value)).length } →
   codeAny (model X.prog X.w) X.A (.compLoop (.ListComp elt [⟨tg, iter, ifs, 0⟩] scope pos) 0 (.ref it) (.ref s2.heap.objs.size) (compEnvC scope (clo X.env scope.names []) g2.objs.size X.env))
    (RR (.ref s2.heap.objs.size) g2.objs.size) s₃ := by
  rintro s₃ rfl
  refine compLoop_any (fun n s' => ∃ i H' us ys, Inv X' [(s2.heap.objs.size, lstO us)] (capσ own.length cap σ) H' s' ∧ tn i s'.heap ∧ (∀ b ∈ fp, H' b = none) ∧ Vals ys us ∧ W i n ys H') ?_ m0
   ⟨0, H2, [], [], start, st1, fun b hb => (f2 b hb).1, .nil, w0⟩
  rintro n s3 ⟨i, H3, us, ys, I3, st3, fr3, rv, w3⟩
  have hacc3 := I3.pin (s2.heap.objs.size, lstO us) (List.mem_append_right _ List.mem_cons_self)
  rcases turn i n ys H3 w3 with ⟨stop, hl, qn⟩ | ⟨go, hl, N, hN, step⟩
  · refine thn (T.done X' rfl rfl rfl hc i _ s3 _ H3 _ I3 (stat (Nat.le_refl _) fr3) st3 stop) fun r s4 ⟨hr, I4⟩ => ?_
    subst hr
    have hacc4 := I4.pin (s2.heap.objs.size, lstO us) (List.mem_append_right _ List.mem_cons_self)
    exact hRR _ _ _ _ H3 s4 us ys I4 hC (Nat.le_refl _) hDC hacc4.1 hacc4.2.1 hl rv qn
  · refine thn (T.item X' rfl rfl rfl hc i _ s3 _ H3 _ I3 (stat (Nat.le_refl _) fr3) st3 go) fun r s4 ⟨u, hr, h4⟩ => ?_
    subst hr
    refine thn h4 fun _ s5 ⟨x, H5, I5, r5, y5, st5, fr5⟩ => ?_
    have I5' := I5.pinned (stat (Nat.le_refl _) fr5) (T.obj _ _ st5)
    refine thn (hg _ _ _ _ _ s5 _ H5 x u _ I5' r5 (step x H5 y5)) fun _ s6 ⟨σ6, H6, I6, q6⟩ => ?_
    refine thn (ht _ _ _ _ _ s6 σ6 H6 _ I6 q6) fun b s7 ⟨H7, I7, q7⟩ => ?_
    have tnK : ∀ {σ8 : St} {H8 : Hp} {s8 : Shared}, Inv X' ([(s2.heap.objs.size, lstO us)] ++ pinsAt fp s5.heap) σ8 H8 s8 → tn (i + 1) s8.heap ∧ ∀ b ∈ fp, H8 b = none := fun {σ8 H8 s8} I8 => by
     refine ⟨T.keep _ _ _ st5 fun b hb o e => (I8.pin (b, o) (List.mem_append_right _ (List.mem_append_right _ (zxs hb e)))).1, fun b hb => ?_⟩
     obtain ⟨o, e, d⟩ := T.obj _ _ st5 b hb
     exact (I8.pin (b, o) (List.mem_append_right _ (List.mem_append_right _ (zxs hb e)))).2.1
    cases b with
    | false =>
      rw [if_neg Bool.false_ne_true] at q7
      obtain ⟨m', hm, w7⟩ := hN _ _ q7
      rw [if_neg Bool.false_ne_true]
      obtain ⟨t7, n7⟩ := tnK I7
      exact ⟨m', hm, i + 1, H7, us, ys, comp_back I2 S f2 I7.unpinned, t7, n7, rv, w7⟩
    | true =>
      rw [if_pos rfl] at q7
      rw [if_pos rfl]
      refine thn (he _ _ _ _ _ s7 σ6 H7 _ I7 q7) fun y s8 ⟨z, H8, I8, r8, n8'⟩ => ?_
      obtain ⟨m', hm, w8⟩ := hN _ _ n8'
      obtain ⟨t8, n8⟩ := tnK I8
      have p8 := I8.pin (s2.heap.objs.size, lstO us) (List.mem_append_right _ (List.mem_append_left _ List.mem_cons_self))
      have hlu : us.length ≤ sizeLine := by rw [← rv.length]; exact hl
      refine append_at (hsz := by show us.toArray.size ≤ sizeLine; rw [List.size_toArray]; exact hlu) p8.1 fun h9 hs9 hD9 => ?_
      have hD9' : h9.get? s2.heap.objs.size = some (lstO (us ++ [y])) := hD9.trans (congrArg some (lstO_snoc us y))
      refine ⟨m', hm, i + 1, H8, us ++ [y], ys ++ [z], ?_, T.keep _ _ _ t8 fun b hb o e => (hs9.2 b (fun q => ?_)).trans e, n8, Vals.append rv (.cons r8 .nil), w8⟩
      · have J0 : Inv X' [] (capσ own.length cap σ) H8 s8 := (comp_back I2 S f2 I8).pins_of fun p hp => by cases hp
        have J1 : Inv X' [] (capσ own.length cap σ) H8 { s8 with heap := h9, toks := s8.toks } := J0.turned (it := s2.heap.objs.size) (fun b o hb e => (hs9.2 b hb).trans e) p8.2.1 p8.2.2.1 (.inr (Nat.le_refl _)) (fun x c e q => by
         obtain ⟨v, hv⟩ := I2.cell x c (S.look I2.ok e)
         exact absurd (Nat.lt_of_lt_of_le hv.lt (by rw [q]; exact Nat.le_refl _)) (Nat.lt_irrefl _)) (fun p hp => by
         have : p ∈ ([] : List (Addr × Obj)) := by simpa [X', compCx] using hp
         cases this)
        exact J1.pins_of fun p hp => by
         have e : p = (s2.heap.objs.size, lstO (us ++ [y])) := by simpa using hp
         subst e
         exact ⟨hD9', p8.2.1, p8.2.2.1, p8.2.2.2.1, fun v z => by cases z⟩
      · exact absurd (hfp b hb) (by rw [q]; exact Nat.lt_irrefl _)
 exact codeAny_compStart_list (loop _ rfl) (T.self _ 0 _ _ _ st1 (loop _ rfl))
theorem zxl (hc : X.calm = true) (S : LcScope X own cap scope) (hi : PI X tg iter wi)
  (hg : ∀ C fp s₂ H₂, PG (compCx X own cap scope C fp s₂ H₂) tg g) (ht : ∀ C fp s₂ H₂, PIfs (compCx X own cap scope C fp s₂ H₂) ifs tc) (he : ∀ C fp s₂ H₂, PE (compCx X own cap scope C fp s₂ H₂) elt te)
  (hs : ∀ x, foldedSetIterable iter X.env x = pure x := by intro _; rfl) : PE X (.ListComp elt [⟨tg, iter, ifs, 0⟩] scope pos) (tLc wi g tc te own.length cap) := by
 intro pins s σ H Q I h
 rw [eval_ListComp]
 refine wpAny_comprehension_free (use := none) (cl := clo X.env scope.names []) rfl hs (closureFor_clo (S.has I.ok)) S.kind S.names (thn (hi pins s σ H _ I h) fun v s1 h1 => thn h1 fun itv s2 h2 => ?_)
 obtain ⟨it, fp, tn, J, H2, e, I2, T, st2, f2, W, ⟨m0, w0⟩, turn⟩ := h2
 subst e
 refine lc_block hc S hg ht he I2 T st2 f2 w0 turn fun D C pins' σ' H' s' us ys J' hC hD hDC hD' hn hl rv q => ?_
 obtain ⟨m, hns, _⟩ := id J'.loc
 exact ⟨m, hns, fun h' hs' => ⟨.ref D, _, comp_end I2 f2 J' hs' hC hD hDC hD' hn hl rv, rfl, q D hn⟩⟩
noncomputable def tLcA (i : Nat) (te : TE) : TS := fun D σ H => te σ H fun x H1 => D.nx (σ.set i (some x)) H1
theorem ps_lc {y : Str} {py spos : Pos} {i : Nat} (hc : X.calm = true) (S : LcScope X own cap scope) (hi : PI X tg iter wi)
  (hg : ∀ C fp s₂ H₂, PG (compCx X own cap scope C fp s₂ H₂) tg g) (ht : ∀ C fp s₂ H₂, PIfs (compCx X own cap scope C fp s₂ H₂) ifs tc) (he : ∀ C fp s₂ H₂, PE (compCx X own cap scope C fp s₂ H₂) elt te)
  (hN : X.N.Nodup) (hy : X.N[i]? = some y) (hl : X.env.scope.names.lookup y = some .local)
  (hsw : swapsWith (.ListComp elt [⟨tg, iter, ifs, 0⟩] scope pos) (some (.Name y py)) spos.line X.env = pure true)
  (hs : ∀ x, foldedSetIterable iter X.env x = pure x := by intro _; rfl) : PS X (.Assign [.Name y py] (.ListComp elt [⟨tg, iter, ifs, 0⟩] scope pos) spos) (tLcA i (tLc wi g tc te own.length cap)) := by
 intro pins s σ H D I h
 rw [exec_Assign_Name_used _ _ _ _ hsw]
 refine wpAny_bind (wpAny_standAt (wpAny_bind ?_))
 show wpAny _ X.A (do let _ ← comprehension (.ListComp elt [⟨tg, iter, ifs, 0⟩] scope pos) scope X.env _ (newList []) false (eval iter X.env) (some (assign (.Name y py) X.env))) _ _ s
 refine wpAny_bind (wpAny_mono (wpAny_comprehension_free (use := some (assign (.Name y py) X.env)) (Q := fun _ s' => SP X pins D .next s') (cl := clo X.env scope.names []) rfl hs (closureFor_clo (S.has I.ok)) S.kind S.names
  (thn (hi pins s σ H _ I h) fun v s1 h1 => thn h1 fun itv s2 h2 => ?_)) (fun _ s' hq => wpAny_pure (wpAny_pure hq)) fun _ _ e => e)
 obtain ⟨it, fp, tn, J, H2, e, I2, T, st2, f2, W, ⟨m0, w0⟩, turn⟩ := h2
 subst e
 refine lc_block hc S hg ht he I2 T st2 f2 w0 turn fun L C pins' σ' H' s' us ys J' hC hD hDC hD' hn hll rv q => ?_
 show wpAny _ X.A (assign (.Name y py) X.env (.ref L)) _ _ _
 obtain ⟨m, hns, _⟩ := id J'.loc
 have I3 : Inv X pins σ (upd H' L (.lst ys)) s' := comp_end I2 f2 J' (h' := s'.heap) ⟨rfl, fun _ _ => rfl⟩ hC hD hDC hD' hn hll rv
 refine wpAny_assign_Name (store_ok2 I3 hN hy (.inl hl) (v := .ref L) rfl (fun s5 I5 hch => ?_) (.inr hl))
 have hCn : (upd H' L (.lst ys)) C = none := by rw [zqf (Ne.symm hDC)]; exact J'.free
 have neC : ∀ a, (a = X.env.locals ∨ X.env.cells.lookup y = some a) → C ≠ a := fun a ha z => by
  rcases ha with e | e
  · exact absurd (Nat.lt_of_lt_of_le I2.lt (by rw [← e, ← z]; exact hC)) (Nat.lt_irrefl _)
  · obtain ⟨v, hv⟩ := I2.cell y a e
    exact absurd (Nat.lt_of_lt_of_le hv.lt (by rw [← z]; exact hC)) (Nat.lt_irrefl _)
 obtain ⟨a, sb, ha⟩ := hch
 refine ⟨m, hns.sameBut sb (neC a ha), fun h6 hs6 => ?_⟩
 refine ⟨σ.set i (some (.ref L)), _, ?_, q L hn⟩
 refine I5.turned (t' := s5.toks) (it := C) (fun b o hb e => (hs6.2 b hb).trans e) hCn ?_ (.inr (Nat.le_trans I2.sz hC)) (fun x c e z => ?_) fun p hp z => ?_
 · exact fun z => absurd (Nat.lt_of_lt_of_le I2.lt (by rw [← z]; exact hC)) (Nat.lt_irrefl _)
 · obtain ⟨v, hv⟩ := I2.cell x c e
   exact absurd (Nat.lt_of_lt_of_le hv.lt (by rw [z]; exact hC)) (Nat.lt_irrefl _)
 · exact absurd (Nat.lt_of_lt_of_le (Heap.lt_size (I2.pin p hp).1) (by rw [z]; exact hC)) (Nat.lt_irrefl _)
end
section
variable {X : Cx}
noncomputable def rIsi (K : PySem.W.Frag) : List V → Hp → VK → Prop := fun xs H Q => ∃ x n t b, xs = [x, .ty n] ∧ TyOf K H x t ∧ PySem.W.kitOne K t (.type n) = some b ∧ Q (.bl b) H
theorem call_isi : CallR X (.builtin "isinstance") (rIsi X.K) := by
 intro pins s σ H xs us Q I r h
 obtain ⟨x, n, t, b, rfl, ty, e, q⟩ := h
 obtain ⟨u, u', rfl, rx, ry⟩ := vals2 r
 cases (show u' = Value.type n from ry)
 exact isinst_ok I rx ty e fun tk => ⟨.bl b, H, I.tok tk, rfl, q⟩
theorem op_le_str : OpR X (compareOp .LtE) (fun x y H Q => ∃ i j, x = .str i ∧ y = .str j ∧ Q (.bl (!decide (j.cps.toList < i.cps.toList))) H) := by
 intro pins s σ H x y v u Q I rx ry h
 obtain ⟨i, j, rfl, rfl, q⟩ := h
 obtain ⟨t, rfl⟩ := rx
 obtain ⟨t', rfl⟩ := ry
 exact PySem.P.le_str (zqw I q rfl)
theorem zq8 (hc : X.calm = true) : CallR X (.builtin "all") (fun xs H Q => ∃ (a : Addr) (bs : List Bool), xs = [.ref a] ∧ SqL X.K H a (bs.map V.bl) ∧ Q (.bl (bs.all id)) H) := by
 intro pins s σ H xs us Q I r h
 obtain ⟨a, bs, rfl, hq, q⟩ := h
 obtain ⟨u, rfl, rx⟩ := vals1 r
 cases rx
 obtain ⟨its, rv, p, hz⟩ := I.list hq
 have hlt : a < s.heap.objs.size := by obtain ⟨_, e, _⟩ := p.isList; exact Heap.lt_size e
 have hl := rv.length
 rw [List.length_map] at hl
 refine call_all_walk (wpAny_pyIter_list p.isList ?_)
 refine ⟨s.heap.objs.size, _, _, _, _, _, fun i => (bs[i]?).getD false, rfl, Walks.list (A := X.A.in1) (show X.A.in1.handled = none from I.ok.hd hc) s.heap.objs.size a (Nat.ne_of_lt hlt) its.toArray, ⟨⟨_, Heap.get?_push_size _ rfl, rfl, rfl⟩, p.isList.push _⟩, ?_, fun h' tk hk => ?_⟩
 · intro i v s' Q' E' hP hQ'
   have hP : its[i]? = some v := by simpa using hP
   cases e : bs[i]? with
   | none =>
     have := List.getElem?_eq_none_iff.mp e
     have h2 : its[i]? = none := List.getElem?_eq_none_iff.mpr (by omega)
     rw [h2] at hP
     cases hP
   | some b =>
     obtain ⟨u, hu, ru⟩ := rv.get (i := i) (x := V.bl b) (by rw [List.getElem?_map, e]; rfl)
     rw [hu] at hP
     cases hP
     cases (show v = Value.bool b from ru)
     dsimp only at hQ'
     rw [e] at hQ'
     exact wpAny_pure hQ'
 · have e : ((List.range its.toArray.size).all fun i => (bs[i]?).getD false) = bs.all id := by
    rw [List.size_toArray, ← hl]
    clear q hq rv hl
    rw [Bool.eq_iff_iff, List.all_eq_true, List.all_eq_true]
    constructor
    · intro h x hx
      obtain ⟨i, hi, rfl⟩ := List.mem_iff_getElem.mp hx
      have := h i (List.mem_range.mpr hi)
      simpa [hi] using this
    · intro h i hi
      have hi := List.mem_range.mp hi
      have := h (bs[i]) (List.getElem_mem hi)
      simpa [hi] using this
   rw [e]
   refine ⟨.bl (bs.all id), H, I.kept fun b o e => hk b o (fun hb => ?_) (Heap.get?_push_of_some _ e), rfl, q⟩
   have z : b = s.heap.objs.size := by simpa using hb
   exact absurd (Heap.lt_size e) (by rw [z]; exact Nat.lt_irrefl _)
end
section
variable {prog : Program} {w : World} {A : Around} {E : Value → Shared → Prop} {s : Shared}
theorem nextOf_tup {it t : Addr} {i : Nat} {its : Array Value} {v : Value} {Q : Value → Shared → Prop} (hit : s.heap.IsTupleIter it t i) (ht : s.heap.IsTuple t its) (hv : its[i]? = some v)
  (k : ∀ g, g.IsTupleIter it t (i + 1) → Heap.SameBut it s.heap g → Q v { s with heap := g }) : wpAny (model prog w) A (Builtin.SmallTypes.nextOf (.ref it)) Q E s := by
 obtain ⟨o, e1, e2, e3⟩ := id hit
 obtain ⟨ot, et, _, nt, dt⟩ := ht
 unfold Builtin.SmallTypes.nextOf
 refine wpAny_bind (wpAny_callSpecial?_slot (name := Str.ofString "__next__") hit.typeIs PySem.F.slot_tuple_iterator_next (wpAny_call_entry PySem.F.slot_tuple_iterator_next hit.typeIs PySem.F.entry_tuple_iterator_next ?_ (PySem.F.args_tuple_iterator_next_1 _)))
 show wpAny _ _ (field (.ref it) 0 >>= _) _ _ s
 refine wpAny_bind (wpAny_field e1 e3 (x := .ref t) rfl ?_)
 show wpAny _ _ (if (Value.ref t == Value.none) = true then _ else _) _ _ s
 rw [if_neg (fun z => by cases (show false = true from z))]
 show wpAny _ _ (field (.ref it) 1 >>= _) _ _ s
 refine wpAny_bind (wpAny_field e1 e3 (x := .int i 0) rfl ?_)
 show wpAny _ _ (seqItems? (.ref t) >>= _) _ _ s
 refine wpAny_bind (wpAny_seqItems et dt ?_)
 simp only [Int.toNat_natCast, hv]
 refine wpAny_bind (wpAny_setField e1 e3 (by simp) (wpAny_pure ⟨v, rfl, wpAny_pure (k _ ⟨_, Heap.get?_update_self _ e1 (Obj.isFreed_of_fields (Obj.data_mapFields e3 _)), (Obj.cls_mapFields ..).trans e2, ?_⟩ (Heap.SameBut.update ..))⟩))
 rw [Obj.data_mapFields e3]; simp [rawInt]
theorem nextOf_tupEnd {it t : Addr} {i : Nat} {its : Array Value} {Q : Value → Shared → Prop} (hh : A.handled = none) (hit : s.heap.IsTupleIter it t i) (ht : s.heap.IsTuple t its) (hv : its[i]? = none)
  (k : ∀ g x, Heap.ExtBut it s.heap g → (∃ o, g.get? x = some o ∧ o.cls = .type "StopIteration") → E (.ref x) { s with heap := g }) : wpAny (model prog w) A (Builtin.SmallTypes.nextOf (.ref it)) Q E s := by
 obtain ⟨o, e1, e2, e3⟩ := id hit
 obtain ⟨ot, et, _, nt, dt⟩ := ht
 unfold Builtin.SmallTypes.nextOf
 refine wpAny_bind (wpAny_callSpecial?_slot (name := Str.ofString "__next__") hit.typeIs PySem.F.slot_tuple_iterator_next (wpAny_call_entry PySem.F.slot_tuple_iterator_next hit.typeIs PySem.F.entry_tuple_iterator_next ?_ (PySem.F.args_tuple_iterator_next_1 _)))
 show wpAny _ _ (field (.ref it) 0 >>= _) _ _ s
 refine wpAny_bind (wpAny_field e1 e3 (x := .ref t) rfl ?_)
 show wpAny _ _ (if (Value.ref t == Value.none) = true then _ else _) _ _ s
 rw [if_neg (fun z => by cases (show false = true from z))]
 show wpAny _ _ (field (.ref it) 1 >>= _) _ _ s
 refine wpAny_bind (wpAny_field e1 e3 (x := .int i 0) rfl ?_)
 show wpAny _ _ (seqItems? (.ref t) >>= _) _ _ s
 refine wpAny_bind (wpAny_seqItems et dt ?_)
 simp only [Int.toNat_natCast, hv]
 refine wpAny_bind (wpAny_rule (wpAny_bind (wpAny_setField e1 e3 (by simp) ?_)))
 show wpAny _ _ (newExc (.type "StopIteration") [] >>= _) _ _ _
 refine wpAny_bind ?_
 simp only [newExc, newTuple]
 refine wpAny_bind (wpAny_newObj_type ?_ (by size_fits))
 refine wpAny_bind (m := firstArgMember _ _) (wpAny_of_eq (a := Value.none) (by first | rfl | (simp only [firstArgMember]; rfl)) ?_)
 refine wpAny_newObj_type ?_ (by size_fits)
 simp only [raiseNew]
 refine wpAny_bind (wpAny_handled ?_)
 first | rw [show A.in1.handled = none from hh] | rw [hh]
 exact wpAny_bind (wpAny_pure (wpAny_throw (k _ _ (((Heap.SameBut.update ..).extBut.push _).push _) ⟨_, Heap.get?_push_size _ rfl, rfl⟩)))
theorem enumT_item {e it t : Addr} {i : Nat} {its : Array Value} {v old : Value} {Q : Option Value → Shared → Prop} (he : IsEnum s.heap e it i old) (hit : s.heap.IsTupleIter it t i) (ht : s.heap.IsTuple t its) (hv : its[i]? = some v) (hne : e ≠ it)
  (k : ∀ g, IsEnumOut g e it ((i : Int) + 1) v s.heap.objs.size → g.IsTupleIter it t (i + 1) → g.get? s.heap.objs.size = some { cls := .type "tuple", data := .seq #[.int i s.toks, v] } → g.objs.size = s.heap.objs.size + 1 →
   (∀ b o, b ≠ e → b ≠ it → s.heap.get? b = some o → g.get? b = some o) → Q (some (.ref s.heap.objs.size)) { s with heap := g, toks := s.toks + 1 }) : wpAny (model prog w) A (pyNext (.ref e)) Q E s := by
 have hT : s.TypeIs (.ref e) "enumerate" := ⟨_, he, rfl⟩
 unfold pyNext
 refine wpAny_bind (wpAny_attempt (wpAny_callSpecial?_slot (name := Str.ofString "__next__") hT PySem.F.slot_enumerate_next (wpAny_call_entry PySem.F.slot_enumerate_next hT PySem.F.entry_enumerate_next ?_ (PySem.F.args_enumerate_next_1 _))))
 obtain ⟨hp, gs, d, tk, os⟩ := s
 show wpAny _ _ (field (.ref e) 2 >>= _) _ _ _
 refine wpAny_bind (wpAny_field he rfl (x := .ref it) rfl ?_)
 refine wpAny_bind (nextOf_tup hit ht hv fun g1 hit1 hs1 => ?_)
 replace hs1 : Heap.SameBut it hp g1 := hs1
 have he1 : IsEnum g1 e it i old := (hs1.2 e hne).trans he
 show wpAny _ _ (field (.ref e) 3 >>= _) _ _ ⟨g1, gs, d, tk, os⟩
 refine wpAny_bind (wpAny_field he1 rfl (x := rawInt i) rfl ?_)
 show wpAny _ _ (field (.ref e) 4 >>= _) _ _ ⟨g1, gs, d, tk, os⟩
 refine wpAny_bind (wpAny_field he1 rfl (x := .none) rfl ?_)
 show wpAny _ _ (mkInt i >>= _) _ _ ⟨g1, gs, d, tk, os⟩
 refine wpAny_bind (wpAny_mkInt ?_)
 show wpAny _ _ (setField (.ref e) 3 (rawInt ((i : Int) + 1)) >>= _) _ _ ⟨g1, gs, d, tk + 1, os⟩
 refine wpAny_bind (wpAny_setField_rec he1 (by simp) fun g2 he2 hs2 => ?_)
 replace hs2 : Heap.SameBut e g1 g2 := hs2
 replace he2 : IsEnum g2 e it ((i : Int) + 1) old := he2
 show wpAny _ _ (setField (.ref e) 4 .none >>= _) _ _ ⟨g2, gs, d, tk + 1, os⟩
 refine wpAny_bind (wpAny_setField_rec he2 (by simp) fun g3 he3 hs3 => ?_)
 replace hs3 : Heap.SameBut e g2 g3 := hs3
 replace he3 : IsEnum g3 e it ((i : Int) + 1) old := he3
 show wpAny _ _ (newTuple [.int i tk, v] >>= _) _ _ ⟨g3, gs, d, tk + 1, os⟩
 refine wpAny_bind (wpAny_newTuple ?_)
 have he4 : IsEnum (g3.push { cls := .type "tuple", data := .seq #[.int i tk, v] }) e it ((i : Int) + 1) old := Heap.get?_push_of_some _ he3
 generalize hh4 : g3.push { cls := .type "tuple", data := .seq #[.int i tk, v] } = g4 at he4
 have hsz : g3.objs.size = hp.objs.size := by rw [hs3.1, hs2.1, hs1.1]
 have hel : e < hp.objs.size := Heap.lt_size he
 have ht4 : g4.get? hp.objs.size = some { cls := .type "tuple", data := .seq #[.int i tk, v] } := by rw [← hh4, ← hsz]; exact Heap.get?_push_size _ rfl
 have hz4 : g4.objs.size = hp.objs.size + 1 := by rw [← hh4, Heap.size_push, hsz]
 have hk4 : ∀ b o, b ≠ e → b ≠ it → hp.get? b = some o → g4.get? b = some o := fun b o n1 n2 hb => by
  rw [← hh4]; exact Heap.get?_push_of_some _ (hs3.extBut b o n1 (hs2.extBut b o n1 (hs1.extBut b o n2 hb)))
 have hit4 : g4.IsTupleIter it t (i + 1) := by
  rw [← hh4]
  obtain ⟨o, ho, r⟩ := (hit1.extBut hs2.extBut (Ne.symm hne)).extBut hs3.extBut (Ne.symm hne)
  exact ⟨o, Heap.get?_push_of_some _ ho, r⟩
 show wpAny _ _ (Builtin.SmallTypes.ownedTupleIsFree (.ref e) >>= _) _ _ ⟨g4, gs, d, tk + 1, os⟩
 rw [hsz]
 clear hh4 he3 hs3 he2 hs2 he1 hs1 hit1 hsz g3 g2 g1
 refine wpAny_bind ?_
 unfold Builtin.SmallTypes.ownedTupleIsFree
 refine wpAny_bind (wpAny_field he4 rfl (x := .none) rfl (wpAny_pure ?_))
 simp only [if_true]
 refine wpAny_bind (wpAny_rule (wpAny_bind (wpAny_field he4 rfl (x := old) rfl (wpAny_bind (wpAny_setField_rec he4 (by simp) fun g5 he5 hs5 => ?_)))))
 replace hs5 : Heap.SameBut e g4 g5 := hs5
 replace he5 : IsEnum g5 e it ((i : Int) + 1) v := he5
 show wpAny _ _ (Builtin.SmallTypes.ownedTupleHandOut (.ref e) (.ref hp.objs.size) >>= _) _ _ ⟨g5, gs, d, tk + 1, os⟩
 refine wpAny_bind ?_
 unfold Builtin.SmallTypes.ownedTupleHandOut
 refine wpAny_bind (wpAny_setField_rec he5 (by simp) fun g6 he6 hs6 => ?_)
 replace hs6 : Heap.SameBut e g5 g6 := hs6
 replace he6 : IsEnumOut g6 e it ((i : Int) + 1) v hp.objs.size := he6
 refine wpAny_setField_rec he6 (by simp) fun g7 he7 hs7 => ?_
 replace hs7 : Heap.SameBut e g6 g7 := hs7
 replace he7 : IsEnumOut g7 e it ((i : Int) + 1) v hp.objs.size := he7
 refine wpAny_bind (wpAny_letGo (wpAny_pure ⟨_, rfl, wpAny_pure (k g7 he7 ?_ ?_ ?_ ?_)⟩))
 · exact ((hit4.extBut hs5.extBut (Ne.symm hne)).extBut hs6.extBut (Ne.symm hne)).extBut hs7.extBut (Ne.symm hne)
 · exact hs7.extBut _ _ (Nat.ne_of_gt hel) (hs6.extBut _ _ (Nat.ne_of_gt hel) (hs5.extBut _ _ (Nat.ne_of_gt hel) ht4))
 · rw [hs7.1, hs6.1, hs5.1, hz4]
 · exact fun b o n1 n2 hb => hs7.extBut b o n1 (hs6.extBut b o n1 (hs5.extBut b o n1 (hk4 b o n1 n2 hb)))
theorem enumT_end {e it t : Addr} {i : Nat} {its : Array Value} {old : Value} {Q : Option Value → Shared → Prop} (hh : A.handled = none) (he : IsEnum s.heap e it i old) (hit : s.heap.IsTupleIter it t i) (ht : s.heap.IsTuple t its) (hv : its[i]? = none)
  (k : ∀ g, Heap.ExtBut it s.heap g → Q none { s with heap := g }) : wpAny (model prog w) A (pyNext (.ref e)) Q E s := by
 have hT : s.TypeIs (.ref e) "enumerate" := ⟨_, he, rfl⟩
 unfold pyNext
 refine wpAny_bind (wpAny_attempt (wpAny_callSpecial?_slot (name := Str.ofString "__next__") hT PySem.F.slot_enumerate_next (wpAny_call_entry PySem.F.slot_enumerate_next hT PySem.F.entry_enumerate_next ?_ (PySem.F.args_enumerate_next_1 _))))
 show wpAny _ _ (field (.ref e) 2 >>= _) _ _ _
 refine wpAny_bind (wpAny_field he rfl (x := .ref it) rfl ?_)
 refine wpAny_bind (nextOf_tupEnd hh hit ht hv fun g x hx ⟨o, ho, hc⟩ => ?_)
 exact wpAny_bind (wpAny_isInstance (T := "StopIteration") (b := true) ⟨o, ho, hc⟩ isSubtype_stop (wpAny_pure (k _ hx)))
theorem newEnumT (t : Addr) (its : Array Value) (n : Nat) (dct : Option Addr) (sl : Array (Option Value)) :
  Meets (Builtin.«enumerate.__new__» ⟨[.type "enumerate", .ref t], []⟩) (fun _ R s => s.heap.get? t = some { cls := .type "tuple", dict := dct, data := .seq its n, slots := sl } ∧
   R (.ok (.ret (.ref (s.heap.push { cls := .type "tuple_iterator", data := .fields #[.ref t, .int 0 0] }).objs.size)))
     { s with heap := (s.heap.push { cls := .type "tuple_iterator", data := .fields #[.ref t, .int 0 0] }).push { cls := .type "enumerate", data := .fields #[.none, .bool false, .ref s.heap.objs.size, rawInt 0, .none, .none] } }) :=
 .of_wp fun prog w A R s h => by
  obtain ⟨hp, g, d, tk, os⟩ := s
  obtain ⟨hl, h⟩ := h
  have hsub := sub_enumerate
  have hL : Heap.IsTuple (Shared.heap ⟨hp, g, d, tk, os⟩) t its := ⟨_, hl, rfl, n, rfl⟩
  wp_walk using AutoSeq1.wpAny_loadPart' hl
  refine wpAny_stack_any fun st => wpAny_pure ?_
  split
  · rename_i c _ _ _ _ _
    cases (c == Value.type "enumerate")
    · wp_walk using AutoSeq1.wpAny_loadPart' hl, wpAny_pyIter_tuple hL
      exact ⟨_, rfl, h⟩
    · wp_walk using AutoSeq1.wpAny_loadPart' hl, wpAny_pyIter_tuple hL
      exact ⟨_, rfl, h⟩
  · wp_walk using AutoSeq1.wpAny_loadPart' hl, wpAny_pyIter_tuple hL
    exact ⟨_, rfl, h⟩
theorem call_enumT {t : Addr} {its : Array Value} {Q : Value → Shared → Prop} (ht : s.heap.IsTuple t its)
  (k : ∀ g, IsEnum g (s.heap.objs.size + 1) s.heap.objs.size 0 .none → g.IsTupleIter s.heap.objs.size t 0 → g.objs.size = s.heap.objs.size + 2 → (∀ b o, s.heap.get? b = some o → g.get? b = some o) → Q (.ref (s.heap.objs.size + 1)) { s with heap := g }) :
  wpAny (model prog w) A (call (.type "enumerate") [.ref t]) Q E s := by
 obtain ⟨⟨c, dct, dt, sl⟩, hl, hc, n, hd⟩ := ht
 replace hc : c = .type "tuple" := hc
 replace hd : dt = .seq its n := hd
 subst hc hd
 refine callType_new PySem.F.called_enumerate (by decide) (PySem.F.typeCall_enumerate_1 _) (PySem.F.newCall_enumerate_1 _) (fun obj => PySem.F.args_object_init_2 obj _) PySem.F.entry_enumerate_new (newEnumT t its n dct sl) ⟨hl, ?_⟩
 have hz : (s.heap.push { cls := .type "tuple_iterator", data := .fields #[.ref t, .int 0 0] }).objs.size = s.heap.objs.size + 1 := Heap.size_push ..
 show _ ∧ _
 rw [hz]
 have he : IsEnum ((s.heap.push { cls := .type "tuple_iterator", data := .fields #[.ref t, .int 0 0] }).push { cls := .type "enumerate", data := .fields #[.none, .bool false, .ref s.heap.objs.size, rawInt 0, .none, .none] }) (s.heap.objs.size + 1) s.heap.objs.size 0 .none := by
  have q := Heap.get?_push_size (s.heap.push { cls := .type "tuple_iterator", data := .fields #[.ref t, .int 0 0] }) (o := { cls := .type "enumerate", data := .fields #[.none, .bool false, .ref s.heap.objs.size, rawInt 0, .none, .none] }) rfl
  rw [hz] at q
  exact q
 refine ⟨⟨_, he, rfl⟩, k _ he ⟨_, Heap.get?_push_of_some _ (Heap.get?_push_size _ rfl), rfl, rfl⟩ (by rw [Heap.size_push, hz]) fun b o e => Heap.get?_push_of_some _ (Heap.get?_push_of_some _ e)⟩
end
noncomputable def Ite (K : PySem.W.Frag) (a : Addr) : It :=
 ⟨fun i H => ∃ xs x, SqT K H a xs ∧ xs[i]? = some x, fun i H x H' => ∃ p y, x = .ref p ∧ H p = none ∧ H' = upd H p (.tup [.int i, y]) ∧ ∀ xs, SqT K H a xs → xs[i]? = some y, fun i H => ∃ xs, SqT K H a xs ∧ xs.length ≤ i⟩
theorem turn_enum {P : Program} {w : World} {K : PySem.W.Frag} {elts : List Expr} {k1} {pos : Pos} (a e it : Addr) (hne : e ≠ it) (hb : sizeLine ≥ 2) :
  Turn P w K (.Tuple elts k1 pos) (Ite K a) [e, it] e (fun i h => (∃ old, IsEnum h e it i old) ∧ h.IsTupleIter it a i) where
 mem := by simp
 obj := fun i h st b hb => by
  obtain ⟨⟨old, he⟩, hi⟩ := st
  rcases List.mem_cons.mp hb with z | z
  · rw [z]
    exact ⟨_, he, fun v q => by
     have q' : Data.fields _ = Data.cell v := q
     cases q'⟩
  · have z : b = it := by simpa using z
    rw [z]
    obtain ⟨o, e1, c, d⟩ := hi
    exact ⟨o, e1, fun v q => by rw [d] at q; cases q⟩
 keep := fun i h h' st k => by
  obtain ⟨⟨old, he⟩, o, e1, r⟩ := st
  exact ⟨⟨old, k e (by simp) _ he⟩, o, k it (by simp) o e1, r⟩
 item := by
  intro X hP hw hK hc i pins s σ H E I hf st hg
  subst hP hw hK
  obtain ⟨xs, x, hq, hx⟩ := hg
  obtain ⟨its, rv, p, hz⟩ := I.tuple hq
  obtain ⟨u, hu, ru⟩ := rv.get hx
  obtain ⟨⟨old, he⟩, hi⟩ := st
  obtain ⟨f0, f1, f2, f3, f4, f5⟩ := hf e (by simp)
  obtain ⟨g0, g1, g2, g3, g4, g5⟩ := hf it (by simp)
  refine enumT_item he hi (show s.heap.IsTuple a its.toArray from p) (v := u) (by simpa using hu) hne fun g ho hi' hT hsz hk => ?_
  refine ⟨.ref s.heap.objs.size, rfl, wpAny_letOwnedTupleGo_enum ho fun g' he' hs' => ?_⟩
  have hTe : s.heap.objs.size ≠ e := Nat.ne_of_gt (Heap.lt_size he)
  have hTi : s.heap.objs.size ≠ it := by
   obtain ⟨o, e1, _⟩ := hi
   exact Nat.ne_of_gt (Heap.lt_size e1)
  have hk' : ∀ b o, b ≠ e → b ≠ it → s.heap.get? b = some o → g'.get? b = some o := fun b o n1 n2 z => (hs'.2 b n1).trans (hk b o n1 n2 z)
  have hT' : g'.get? s.heap.objs.size = some { cls := .type "tuple", data := .seq #[.int i s.toks, u] } := (hs'.2 _ hTe).trans hT
  have hfr : H s.heap.objs.size = none := I.hok.fresh (Nat.le_refl _)
  have old1 : ∀ b o, H b = some o → b ≠ e ∧ b ≠ it := fun b o z => ⟨(fun q => by rw [q, f0] at z; cases z), (fun q => by rw [q, g0] at z; cases z)⟩
  have I1 : Inv X pins σ (upd H s.heap.objs.size (.tup [.int i, x])) { s with heap := g', toks := s.toks + 1 } := by
   refine I.step (g' := s.gens) (d' := s.drawn) (ch := [e, it]) (fun b hb => ?_) (fun b o n1 n2 n3 z _ => hk' b o (fun q => n3 (by simp [q])) (fun q => n3 (by simp [q])) z)
    (fun b o n1 n2 n3 z _ => ⟨o.slots, hk' b o (fun q => n3 (by simp [q])) (fun q => n3 (by simp [q])) z⟩) (fun b o n3 z n => ?_) (fun b o n3 z => ⟨o, hk' b o (fun q => n3 (by simp [q])) (fun q => n3 (by simp [q])) z⟩)
    (fun b ys z => by rw [zqf (zqg z hfr)]; exact z) (fun b o ys z => by rw [zqf (zqg z hfr)]; exact z) (fun b ps z => ⟨#[], by rw [zqf (zqg z hfr), z]; simp⟩) (fun m hm => ?_) (fun b ob z => ?_) I.bare
   · rcases List.mem_cons.mp hb with q | q
     · rw [q]; exact ⟨f3, f1, f4, f5⟩
     · have q : b = it := by simpa using q
       rw [q]; exact ⟨g3, g1, g4, g5⟩
   · rw [zqf (Nat.ne_of_lt (Heap.lt_size z))]; exact n
   · obtain ⟨o, es, ep, hoo, r⟩ := hm
     exact ⟨o, es, ep, hk' _ o (Ne.symm f1) (Ne.symm g1) hoo, r⟩
   · by_cases hb : b = s.heap.objs.size
     · subst hb
       rw [upd_same] at z
       cases z
       exact ⟨by show 2 ≤ sizeLine; omega, [.int i s.toks, u], .cons ⟨_, rfl⟩ (.cons ru .nil), ⟨_, hT', rfl, _, rfl⟩, fun q hq => by
        have hq : g'.get? s.heap.objs.size = some q := hq
        rw [hT'] at hq
        cases hq
        rfl⟩
     · rw [zqf hb] at z
       refine (I.hok b ob z).stay (fun c v hc q => ?_) (fun c q => by rw [zqf (zqg q hfr)]; exact q) fun c ys q => by rw [zqf (zqg q hfr)]; exact q
       rcases hc with rfl | hc
       · exact hk' c v (old1 c _ z).1 (old1 c _ z).2 q
       · exact hk' c v (old1 c _ hc).1 (old1 c _ hc).2 q
  refine ⟨.ref s.heap.objs.size, _, I1, rfl, ⟨_, x, rfl, hfr, rfl, fun ys hy => by rw [I.tuple_inj hy hq]; exact hx⟩, ⟨⟨u, by simpa using he'⟩, ?_⟩, fun b hb => ?_⟩
  · obtain ⟨o, e1, r⟩ := hi'
    exact ⟨o, (hs'.2 it (Ne.symm hne)).trans e1, r⟩
  · rcases List.mem_cons.mp hb with q | q
    · rw [q, zqf (Ne.symm hTe)]; exact f0
    · have q : b = it := by simpa using q
      rw [q, zqf (Ne.symm hTi)]; exact g0
 done := by
  intro X hP hw hK hc i pins s σ H E I hf st hg
  subst hP hw hK
  obtain ⟨xs, hq, hx⟩ := hg
  obtain ⟨its, rv, p, hz⟩ := I.tuple hq
  obtain ⟨⟨old, he⟩, hi⟩ := st
  obtain ⟨g0, g1, g2, g3, g4, g5⟩ := hf it (by simp)
  have hl := rv.length
  exact enumT_end (I.ok.hd hc) he hi (show s.heap.IsTuple a its.toArray from p) (by simp; omega) fun g eb => ⟨rfl, I.turned (t' := s.toks) (fun b o hb z => eb b o hb z) g0 g1 g3 g4 g5⟩
 self := fun _ _ _ _ _ st h => by
  obtain ⟨⟨old, he⟩, _⟩ := st
  exact wpAny_pyIter_enum he h
section
variable {X : Cx}
noncomputable def iEnum (K : PySem.W.Frag) (ta : TA) : TI := fun σ H R => ta σ H fun vs H1 => ∃ a xs, vs = [.ref a] ∧ SqT K H1 a xs ∧ R (Ite K a) H1
theorem pi_enum {elts : List Expr} {k1} {tpos : Pos} {a : Expr} {ta : TA} {p pos : Pos} (hg : Gl X "enumerate") (hm : X.mg "enumerate" = none) (ha : PA X [a] ta) (hs : starEach [a] X.env = [(false, eval a X.env)] := by rfl) :
  PI X (.Tuple elts k1 tpos) (.Call (.Name "enumerate" p) [a] [] pos) (iEnum X.K ta) := by
 intro pins s σ H R I h
 refine Call_ (ld_blt I hg hm boot_enumerate (PyProof.Rows.callWith_type1 (thn (ha pos pins s σ H _ I h) fun us s1 ⟨vs, H1, I1, r1, q1⟩ => ?_) hs rfl))
 obtain ⟨t, xs, e, hq, q⟩ := q1
 subst e
 obtain ⟨u, rfl, ru⟩ := vals1 r1
 cases ru
 obtain ⟨its, rv, pt, hz⟩ := I1.tuple hq
 refine call_enumT (show s1.heap.IsTuple t its.toArray from pt) fun g he hi hsz hk => ?_
 refine wpAny_pyIter_enum he ?_
 have hlt : t < s1.heap.objs.size := by obtain ⟨o, e1, _⟩ := pt; exact Heap.lt_size e1
 refine ⟨s1.heap.objs.size + 1, [s1.heap.objs.size + 1, s1.heap.objs.size], _, _, H1, rfl, I1.kept (t' := s1.toks) hk, turn_enum t (s1.heap.objs.size + 1) s1.heap.objs.size (Nat.succ_ne_self _) (by rw [sizeLine_eq]; omega), ⟨⟨_, he⟩, hi⟩, fun b hb => ?_, q⟩
 rcases List.mem_cons.mp hb with z | z
 · rw [z]; exact I1.fpOk (Nat.le_succ _) (I1.hok.fresh (Nat.le_succ _))
 · have z : b = s1.heap.objs.size := by simpa using z
   rw [z]; exact I1.fpOk (Nat.le_refl _) (I1.hok.fresh (Nat.le_refl _))
end
theorem for_enum {K : PySem.W.Frag} {a : Addr} {xs : List V} {g : TG} {tb : TS} {D : Ends} {σ : St} {H : Hp} (Pv : Nat → St → Hp → Prop) (h0 : Pv 0 σ H) (hl : ∀ i σ H, i ≤ xs.length → Pv i σ H → SqT K H a xs)
  (hs : ∀ i x σ H p, xs[i]? = some x → Pv i σ H → H p = none → g (.ref p) σ (upd H p (.tup [.int i, x])) fun σ2 H2 => tb { D with nx := Pv (i + 1), ct := Pv (i + 1), bk := D.nx } σ2 H2) (hd : ∀ σ H, Pv xs.length σ H → D.nx σ H) :
  ∃ W : Nat → Nat → St → Hp → Prop, (∃ m, W 0 m σ H) ∧ ∀ i m σ H, W i m σ H →
    ((Ite K a).stop i H ∧ D.nx σ H) ∨ ((Ite K a).go i H ∧ ∃ N : St → Hp → Prop, (∀ σ' H', N σ' H' → ∃ m', m' < m ∧ W (i + 1) m' σ' H') ∧ ∀ x H', (Ite K a).yld i H x H' → g x σ H' fun σ2 H2 => tb { D with nx := N, ct := N, bk := D.nx } σ2 H2) := by
 refine ⟨fun i m σ H => m = xs.length - i ∧ i ≤ xs.length ∧ Pv i σ H, ⟨xs.length, by simp, Nat.zero_le _, h0⟩, ?_⟩
 rintro i m σ H ⟨rfl, hi, p⟩
 have q := hl i σ H hi p
 by_cases hlt : i < xs.length
 · refine .inr ⟨⟨xs, xs[i], q, by simp [hlt]⟩, Pv (i + 1), fun σ' H' p' => ⟨xs.length - (i + 1), by omega, rfl, hlt, p'⟩, fun x H' y => ?_⟩
   obtain ⟨p', y', rfl, hn, rfl, hy⟩ := y
   exact hs i y' σ H p' (hy xs q) p hn
 · have e : i = xs.length := by omega
   subst e
   exact .inl ⟨⟨xs, q, Nat.le_refl _⟩, hd σ H p⟩
section
variable {X : Cx} {tg : Expr}
end
theorem entry_dul : entryFor table "dict.update.loop" = some Builtin.«dict.update.loop» := entryFor_of_tree (by kernel_rfl)
theorem plain_dul : plainId "dict.update.loop" = true := by decide +kernel
section
variable {prog : Program} {w : World} {A : Around} {E : Value → Shared → Prop} {s : Shared}
set_option maxRecDepth 8000 in
end
section
variable {prog : Program} {w : World} {A : Around} {R : Result → Shared → Prop}
end
section
variable {X : Cx}
end
noncomputable def Its (x : Str) : It := ⟨fun i _ => i < x.cps.size, fun i H v H' => H' = H ∧ ∃ c, x.cps[i]? = some c ∧ v = .str ⟨#[c]⟩, fun i _ => x.cps.size ≤ i⟩
theorem turn_str {P : Program} {w : World} {K : PySem.W.Frag} {tg : Expr} {ty : String} (it : Addr) (x : Str) (t : Tok) (hty : ty = "str_ascii_iterator" ∨ ty = "str_iterator") :
  Turn P w K tg (Its x) [it] it (fun i h => i ≤ x.cps.size ∧ h.IsStrIter it ty x t i) where
 mem := by simp
 obj := fun i h st b hb => by
  have e : b = it := by simpa using hb
  subst e
  obtain ⟨_, o, e, c, d⟩ := st
  exact ⟨o, e, fun v z => by rw [d] at z; cases z⟩
 keep := fun i h h' st k => by
  obtain ⟨z, o, e, r⟩ := st
  exact ⟨z, o, k it (by simp) o e, r⟩
 item := by
  intro X hP hw hK hc i pins s σ H E I hf st hg
  subst hP hw hK
  obtain ⟨z, st⟩ := st
  have hg : i < x.cps.size := hg
  obtain ⟨f0, f1, f2, f3, f4, f5⟩ := hf it (by simp)
  have fin : ∀ (h' : Heap) (tk : Nat) (v : Value), SignAt x i v → h'.IsStrIter it ty x t (i + 1) → (∀ b o, b ∉ [it] → s.heap.get? b = some o → h'.get? b = some o) →
    ∃ u, some v = some u ∧ wpAny (model X.prog X.w) X.A (letOwnedTupleGo tg (.ref it) u) (fun _ s2 => ∃ y H', Inv X pins σ H' s2 ∧ RelV y u ∧ (Its x).yld i H y H' ∧ (i + 1 ≤ x.cps.size ∧ s2.heap.IsStrIter it ty x t (i + 1)) ∧ ∀ b ∈ [it], H' b = none) E { s with heap := h', toks := tk } := by
   intro h' tk v hv st' kk
   obtain ⟨c, u, hcx, rfl⟩ := hv
   have I1 : Inv X pins σ H { s with heap := h', toks := tk } := I.turned (fun b o hb e => kk b o (by simpa using hb) e) f0 f1 f3 f4 f5
   obtain ⟨o, e1, e2, e3⟩ := id st'
   refine ⟨_, rfl, go_of (s := { s with heap := h', toks := tk }) (n := ty) e1 e2 e3 (by rcases hty with rfl | rfl <;> decide) ⟨.str ⟨#[c]⟩, H, I1, ⟨u, rfl⟩, ⟨rfl, c, hcx, rfl⟩, ⟨hg, st'⟩, fun b hb => (hf b hb).1⟩⟩
  rcases hty with rfl | rfl
  · exact (Walks.strAscii (prog := X.prog) (w := X.w) (I.ok.hd hc) it x t).item i s _ _ hg st fun v h' tk hv st' kk => fin h' tk v hv st' kk
  · exact (Walks.strWide (prog := X.prog) (w := X.w) (I.ok.hd hc) it x t).item i s _ _ hg st fun v h' tk hv st' kk => fin h' tk v hv st' kk
 done := by
  intro X hP hw hK hc i pins s σ H E I hf st hg
  subst hP hw hK
  obtain ⟨z, st⟩ := st
  have hg : x.cps.size ≤ i := hg
  have e : i = x.cps.size := by omega
  subst e
  obtain ⟨f0, f1, f2, f3, f4, f5⟩ := hf it (by simp)
  rcases hty with rfl | rfl
  · exact (Walks.strAscii (prog := X.prog) (w := X.w) (I.ok.hd hc) it x t).done s _ _ st fun h' tk kk => ⟨rfl, I.turned (fun b o hb e => kk b o (by simpa using hb) e) f0 f1 f3 f4 f5⟩
  · exact (Walks.strWide (prog := X.prog) (w := X.w) (I.ok.hd hc) it x t).done s _ _ st fun h' tk kk => ⟨rfl, I.turned (fun b o hb e => kk b o (by simpa using hb) e) f0 f1 f3 f4 f5⟩
 self := fun _ _ _ _ _ st h => by
  rcases hty with rfl | rfl
  · exact wpAny_pyIter_striter_ascii st.2 h
  · exact wpAny_pyIter_striter_wide st.2 h
section
variable {X : Cx} {tg : Expr}
noncomputable def iStr (tl : TE) : TI := fun σ H R => tl σ H fun v H1 => ∃ x, v = .str x ∧ R (Its x) H1
theorem pi_str {l : Expr} {tl : TE} (hl : PE X l tl) : PI X tg l (iStr tl) := by
 intro pins s σ H R I h
 refine thn (hl pins s σ H _ I h) fun v s1 ⟨x, H1, I1, r1, q1⟩ => ?_
 obtain ⟨y, e, q⟩ := q1
 subst e
 obtain ⟨t, rfl⟩ := r1
 have mk : ∀ ty, (ty = "str_ascii_iterator" ∨ ty = "str_iterator") → PIE X pins σ tg R (.ref s1.heap.objs.size) { s1 with heap := s1.heap.push { cls := .type ty, data := .fields #[.str y t, .int 0 0] } } := fun ty hty => by
  refine ⟨s1.heap.objs.size, [s1.heap.objs.size], _, _, H1, rfl, I1.kept (t' := s1.toks) fun b o e => Heap.get?_push_of_some _ e, turn_str _ y t hty, ⟨Nat.zero_le _, _, Heap.get?_push_size _ rfl, rfl, rfl⟩, fun b hb => ?_, q⟩
  have e : b = s1.heap.objs.size := by simpa using hb
  subst e
  exact I1.fpOk (Nat.le_refl _) (I1.hok.fresh (Nat.le_refl _))
 cases ha : y.cps.all (· < 128)
 · exact wpAny_pyIter_wide ha (mk _ (.inr rfl))
 · exact wpAny_pyIter_ascii ha (mk _ (.inl rfl))
end
section
variable {K : PySem.W.Frag} {a : Addr} {xs : List V} {g : TG} {tc : TT} {te : TE} {k : Nat} {cap : List Nat} {σ : St} {H : Hp} {Q : VK}
theorem lc_tup (Pv : Nat → List V → Hp → Prop) (h0 : Pv 0 [] H) (hl : ∀ i ys H, i ≤ xs.length → Pv i ys H → SqT K H a xs ∧ ys.length ≤ sizeLine)
  (hs : ∀ i x ys H, xs[i]? = some x → Pv i ys H → g x (capσ k cap σ) H fun σ2 H2 => tc σ2 H2 fun b H3 => if b = true then te σ2 H3 fun y H4 => Pv (i + 1) (ys ++ [y]) H4 else Pv (i + 1) ys H3)
  (hd : ∀ ys H, Pv xs.length ys H → ∀ p, H p = none → Q (.ref p) (upd H p (.lst ys))) : LcEnd (Itt K a) g tc te k cap σ H Q := by
 refine ⟨fun i m ys H => m = xs.length - i ∧ i ≤ xs.length ∧ Pv i ys H, ⟨xs.length, by simp, Nat.zero_le _, h0⟩, ?_⟩
 rintro i m ys H ⟨rfl, hi, p⟩
 obtain ⟨q, hz⟩ := hl i ys H hi p
 by_cases hlt : i < xs.length
 · refine .inr ⟨⟨xs, xs[i], q, by simp [hlt]⟩, hz, Pv (i + 1), fun ys' H' p' => ⟨xs.length - (i + 1), by omega, rfl, hlt, p'⟩, fun x H' y => ?_⟩
   obtain ⟨e, y⟩ := y
   subst e
   exact hs i x ys _ (y xs q) p
 · have e : i = xs.length := by omega
   subst e
   exact .inl ⟨⟨xs, q, Nat.le_refl _⟩, hz, hd ys H p⟩
theorem lc_list (Pv : Nat → List V → Hp → Prop) (h0 : Pv 0 [] H) (hl : ∀ i ys H, i ≤ xs.length → Pv i ys H → SqL K H a xs ∧ ys.length ≤ sizeLine)
  (hs : ∀ i x ys H, xs[i]? = some x → Pv i ys H → g x (capσ k cap σ) H fun σ2 H2 => tc σ2 H2 fun b H3 => if b = true then te σ2 H3 fun y H4 => Pv (i + 1) (ys ++ [y]) H4 else Pv (i + 1) ys H3)
  (hd : ∀ ys H, Pv xs.length ys H → ∀ p, H p = none → Q (.ref p) (upd H p (.lst ys))) : LcEnd (Itl K a) g tc te k cap σ H Q := by
 refine ⟨fun i m ys H => m = xs.length - i ∧ i ≤ xs.length ∧ Pv i ys H, ⟨xs.length, by simp, Nat.zero_le _, h0⟩, ?_⟩
 rintro i m ys H ⟨rfl, hi, p⟩
 obtain ⟨q, hz⟩ := hl i ys H hi p
 by_cases hlt : i < xs.length
 · refine .inr ⟨⟨xs, xs[i], q, by simp [hlt]⟩, hz, Pv (i + 1), fun ys' H' p' => ⟨xs.length - (i + 1), by omega, rfl, hlt, p'⟩, fun x H' y => ?_⟩
   obtain ⟨e, y⟩ := y
   subst e
   exact hs i x ys _ (y xs q) p
 · have e : i = xs.length := by omega
   subst e
   exact .inl ⟨⟨xs, q, Nat.le_refl _⟩, hz, hd ys H p⟩
theorem lc_range {lo : Int} {n : Nat} (Pv : Nat → List V → Hp → Prop) (h0 : Pv 0 [] H) (hl : ∀ i ys H, i ≤ n → Pv i ys H → ys.length ≤ sizeLine)
  (hs : ∀ i ys H, i < n → Pv i ys H → g (.int (lo + i)) (capσ k cap σ) H fun σ2 H2 => tc σ2 H2 fun b H3 => if b = true then te σ2 H3 fun y H4 => Pv (i + 1) (ys ++ [y]) H4 else Pv (i + 1) ys H3)
  (hd : ∀ ys H, Pv n ys H → ∀ p, H p = none → Q (.ref p) (upd H p (.lst ys))) : LcEnd (Itr lo n) g tc te k cap σ H Q := by
 refine ⟨fun i m ys H => m = n - i ∧ i ≤ n ∧ Pv i ys H, ⟨n, by simp, Nat.zero_le _, h0⟩, ?_⟩
 rintro i m ys H ⟨rfl, hi, p⟩
 have hz := hl i ys H hi p
 by_cases hlt : i < n
 · refine .inr ⟨hlt, hz, Pv (i + 1), fun ys' H' p' => ⟨n - (i + 1), by omega, rfl, hlt, p'⟩, fun x H' y => ?_⟩
   obtain ⟨e, y⟩ := y
   subst e y
   exact hs i ys _ hlt p
 · have e : i = n := by omega
   subst e
   exact .inl ⟨Nat.le_refl _, hz, hd ys H p⟩
theorem lc_str {x : Str} (Pv : Nat → List V → Hp → Prop) (h0 : Pv 0 [] H) (hl : ∀ i ys H, i ≤ x.cps.size → Pv i ys H → ys.length ≤ sizeLine)
  (hs : ∀ i c ys H, x.cps[i]? = some c → Pv i ys H → g (.str ⟨#[c]⟩) (capσ k cap σ) H fun σ2 H2 => tc σ2 H2 fun b H3 => if b = true then te σ2 H3 fun y H4 => Pv (i + 1) (ys ++ [y]) H4 else Pv (i + 1) ys H3)
  (hd : ∀ ys H, Pv x.cps.size ys H → ∀ p, H p = none → Q (.ref p) (upd H p (.lst ys))) : LcEnd (Its x) g tc te k cap σ H Q := by
 refine ⟨fun i m ys H => m = x.cps.size - i ∧ i ≤ x.cps.size ∧ Pv i ys H, ⟨x.cps.size, by simp, Nat.zero_le _, h0⟩, ?_⟩
 rintro i m ys H ⟨rfl, hi, p⟩
 have hz := hl i ys H hi p
 by_cases hlt : i < x.cps.size
 · refine .inr ⟨hlt, hz, Pv (i + 1), fun ys' H' p' => ⟨x.cps.size - (i + 1), by omega, rfl, hlt, p'⟩, fun v H' y => ?_⟩
   obtain ⟨e, c, hc, rfl⟩ := y
   subst e
   exact hs i c ys _ hc p
 · have e : i = x.cps.size := by omega
   subst e
   exact .inl ⟨Nat.le_refl _, hz, hd ys H p⟩
end
inductive T where
 | non | bl (b : Bool) | int (i : Int) | str (x : Str) | tup (ts : List T) | lst (ts : List T) | dct
mutual
noncomputable def Is (H : Hp) : T → V → Prop
 | .non, v => v = .non
 | .bl b, v => v = .bl b
 | .int i, v => v = .int i
 | .str x, v => v = .str x
 | .tup ts, v => ∃ a xs, v = .ref a ∧ H a = some (.tup xs) ∧ IsL H ts xs
 | .lst ts, v => ∃ a xs, v = .ref a ∧ H a = some (.lst xs) ∧ IsL H ts xs
 | .dct, v => ∃ a, v = .ref a ∧ H a = some (.dK [])
noncomputable def IsL (H : Hp) : List T → List V → Prop
 | [], xs => xs = []
 | t :: ts, xs => ∃ v vs, xs = v :: vs ∧ Is H t v ∧ IsL H ts vs
end
noncomputable def Tups (H H' : Hp) : Prop := ∀ b xs, H b = some (.tup xs) → H' b = some (.tup xs)
theorem Same.tups {H H' : Hp} (s : Same H H') : Tups H H' := fun b xs e => s b _ e
theorem Tups.refl (H : Hp) : Tups H H := fun _ _ e => e
theorem Tups.trans {H H1 H2 : Hp} (a : Tups H H1) (b : Tups H1 H2) : Tups H H2 := fun c xs e => b c xs (a c xs e)
theorem Same.new {H : Hp} {p : Addr} (h : H p = none) (o : HO) : Same H (upd H p o) := fun b u q => by rw [zqf (zqg q h)]; exact q
theorem Tups.upd {H : Hp} {p : Addr} {o o' : HO} (h : H p = some o) (ho : ∀ xs, o ≠ .tup xs) : Tups H (upd H p o') := fun b xs e => by
 rw [zqf (ne_of e h (fun z => ho xs z.symm))]; exact e
mutual
theorem Is.mono {H H' : Hp} (s : Same H H') : ∀ {t : T} {v : V}, Is H t v → Is H' t v
 | .non, v, h => h
 | .bl b, v, h => h
 | .int i, v, h => h
 | .str x, v, h => h
 | .tup ts, v, h => by
   obtain ⟨a, xs, e, ha, hl⟩ := h
   exact ⟨a, xs, e, s a _ ha, IsL.mono s hl⟩
 | .lst ts, v, h => by
   obtain ⟨a, xs, e, ha, hl⟩ := h
   exact ⟨a, xs, e, s a _ ha, IsL.mono s hl⟩
 | .dct, v, h => by
   obtain ⟨a, e, ha⟩ := h
   exact ⟨a, e, s a _ ha⟩
theorem IsL.mono {H H' : Hp} (s : Same H H') : ∀ {ts : List T} {xs : List V}, IsL H ts xs → IsL H' ts xs
 | [], xs, h => h
 | t :: ts, xs, h => by
   obtain ⟨v, vs, e, h1, h2⟩ := h
   exact ⟨v, vs, e, Is.mono s h1, IsL.mono s h2⟩
end
mutual
noncomputable def Fro : T → Prop
 | .tup ts => FroL ts
 | .lst _ => False
 | .dct => False
 | _ => True
noncomputable def FroL : List T → Prop
 | [] => True
 | t :: ts => Fro t ∧ FroL ts
end
mutual
theorem Is.tups {H H' : Hp} (s : Tups H H') : ∀ {t : T} {v : V}, Fro t → Is H t v → Is H' t v
 | .non, v, _, h => h
 | .bl b, v, _, h => h
 | .int i, v, _, h => h
 | .str x, v, _, h => h
 | .tup ts, v, f, h => by
   obtain ⟨a, xs, e, ha, hl⟩ := h
   have f : FroL ts := by unfold Fro at f; exact f
   exact ⟨a, xs, e, s a _ ha, IsL.tups s f hl⟩
 | .lst ts, v, f, h => by unfold Fro at f; exact f.elim
 | .dct, v, f, h => by unfold Fro at f; exact f.elim
theorem IsL.tups {H H' : Hp} (s : Tups H H') : ∀ {ts : List T} {xs : List V}, FroL ts → IsL H ts xs → IsL H' ts xs
 | [], xs, _, h => h
 | t :: ts, xs, f, h => by
   obtain ⟨v, vs, e, h1, h2⟩ := h
   have f : Fro t ∧ FroL ts := by unfold FroL at f; exact f
   exact ⟨v, vs, e, Is.tups s f.1 h1, IsL.tups s f.2 h2⟩
end
theorem FroL.all {ts : List T} : FroL ts ↔ ∀ t ∈ ts, Fro t := by
 induction ts with
 | nil => simp [FroL]
 | cons t ts ih => simp [FroL, ih]
theorem IsL.length {H : Hp} : ∀ {ts : List T} {xs : List V}, IsL H ts xs → xs.length = ts.length
 | [], xs, h => by cases h; rfl
 | t :: ts, xs, h => by
   obtain ⟨v, vs, rfl, _, h2⟩ := h
   simp [IsL.length h2]
theorem IsL.get {H : Hp} : ∀ {ts : List T} {xs : List V} {i : Nat} {t : T}, IsL H ts xs → ts[i]? = some t → ∃ v, xs[i]? = some v ∧ Is H t v
 | [], _, _, _, _, e => by simp at e
 | t :: ts, xs, i, t', h, e => by
   obtain ⟨v, vs, rfl, h1, h2⟩ := h
   cases i with
   | zero => simp at e; subst e; exact ⟨v, rfl, h1⟩
   | succ i =>
     obtain ⟨w, e1, e2⟩ := IsL.get (i := i) h2 (by simpa using e)
     exact ⟨w, by simpa using e1, e2⟩
theorem IsL.get' {H : Hp} {ts : List T} {xs : List V} {i : Nat} {v : V} (h : IsL H ts xs) (e : xs[i]? = some v) : ∃ t, ts[i]? = some t ∧ Is H t v := by
 have hl := h.length
 have hi : i < ts.length := by have := (List.getElem?_eq_some_iff.mp e).1; omega
 obtain ⟨w, e1, e2⟩ := h.get (List.getElem?_eq_getElem hi)
 rw [e] at e1
 cases e1
 exact ⟨_, List.getElem?_eq_getElem hi, e2⟩
theorem IsL.append {H : Hp} : ∀ {ts us : List T} {xs ys : List V}, IsL H ts xs → IsL H us ys → IsL H (ts ++ us) (xs ++ ys)
 | [], us, xs, ys, h, k => by cases h; exact k
 | t :: ts, us, xs, ys, h, k => by
   obtain ⟨v, vs, rfl, h1, h2⟩ := h
   exact ⟨v, vs ++ ys, rfl, h1, IsL.append h2 k⟩
theorem IsL.drop {H : Hp} : ∀ {ts : List T} {xs : List V} (n : Nat), IsL H ts xs → IsL H (ts.drop n) (xs.drop n)
 | ts, xs, 0, h => h
 | [], xs, n + 1, h => by cases h; exact rfl
 | t :: ts, xs, n + 1, h => by
   obtain ⟨v, vs, rfl, h1, h2⟩ := h
   exact IsL.drop n h2
theorem IsL.take {H : Hp} : ∀ {ts : List T} {xs : List V} (n : Nat), IsL H ts xs → IsL H (ts.take n) (xs.take n)
 | ts, xs, 0, h => rfl
 | [], xs, n + 1, h => by cases h; exact rfl
 | t :: ts, xs, n + 1, h => by
   obtain ⟨v, vs, rfl, h1, h2⟩ := h
   exact ⟨v, vs.take n, rfl, h1, IsL.take n h2⟩
theorem IsL.one {H : Hp} {t : T} {v : V} (h : Is H t v) : IsL H [t] [v] := ⟨v, [], rfl, h, rfl⟩
theorem IsL.two {H : Hp} {t u : T} {v w : V} (h : Is H t v) (k : Is H u w) : IsL H [t, u] [v, w] := ⟨v, [w], rfl, h, w, [], rfl, k, rfl⟩
theorem Is.tupAt {K : PySem.W.Frag} {H : Hp} {ts : List T} {v : V} (h : Is H (.tup ts) v) : ∃ a xs, v = .ref a ∧ H a = some (.tup xs) ∧ SqT K H a xs ∧ IsL H ts xs := by
 obtain ⟨a, xs, e, ha, hl⟩ := h
 exact ⟨a, xs, e, ha, SqT.of ha, hl⟩
theorem Is.newTup {H : Hp} {p : Addr} {xs : List V} {ts : List T} (hp : H p = none) (h : IsL H ts xs) : Is (upd H p (.tup xs)) (.tup ts) (.ref p) := ⟨p, xs, rfl, upd_same, IsL.mono (Same.new hp _) h⟩
noncomputable def tyn : T → String
 | .non => "NoneType" | .bl _ => "bool" | .int _ => "int" | .str _ => "str" | .tup _ => "tuple" | .lst _ => "list" | .dct => "dict"
theorem Is.ty {K : PySem.W.Frag} {H : Hp} {t : T} {v : V} (h : Is H t v) : TyOf K H v (.type (tyn t)) := by
 cases t with
 | non => cases (show v = .non from h); exact .non
 | bl b => cases (show v = .bl b from h); exact .bl b
 | int i => cases (show v = .int i from h); exact .int i
 | str x => cases (show v = .str x from h); exact .str x
 | tup ts => obtain ⟨a, xs, rfl, ha, _⟩ := h; exact .tup ha
 | lst ts => obtain ⟨a, xs, rfl, ha, _⟩ := h; exact .lst ha
 | dct => obtain ⟨a, rfl, ha⟩ := h; exact .dK ha
noncomputable def iInt : T → Bool | .int _ => true | .bl _ => true | _ => false
noncomputable def iBl : T → Bool | .bl _ => true | _ => false
noncomputable def iTupT : T → Bool | .tup _ => true | _ => false
noncomputable def iStrT : T → Bool | .str _ => true | _ => false
theorem kit_int (K : PySem.W.Frag) (t : T) : PySem.W.kitOne K (.type (tyn t)) (.type "int") = some (iInt t) := by cases t <;> kernel_rfl
theorem kit_bool (K : PySem.W.Frag) (t : T) : PySem.W.kitOne K (.type (tyn t)) (.type "bool") = some (iBl t) := by cases t <;> kernel_rfl
theorem kit_tuple (K : PySem.W.Frag) (t : T) : PySem.W.kitOne K (.type (tyn t)) (.type "tuple") = some (iTupT t) := by cases t <;> kernel_rfl
theorem kit_str (K : PySem.W.Frag) (t : T) : PySem.W.kitOne K (.type (tyn t)) (.type "str") = some (iStrT t) := by cases t <;> kernel_rfl
section
variable {X : Cx} {pins : List (Addr × Obj)} {σ : St} {H : Hp} {s : Shared} {d : Addr} {u u' : HO} {o : Obj}
theorem Inv.retag (I : Inv X pins σ H s) (e : H d = some u) (n1 : ∀ xs, u ≠ .tup xs) (n2 : ∀ x, u ≠ .own x) (n3 : ∀ ps, u ≠ .tbl ps) (n4 : ∀ o v, X.H₀ d ≠ some (.frz o v))
  (ok : ObjOk X.prog X.w (upd H d u') s.heap d u') : Inv X pins σ (upd H d u') s := by
 have ne0 : ∀ {b}, H b = none → b ≠ d := fun z q => by rw [q, e] at z; cases z
 refine ⟨I.ok, I.os, I.bare, ⟨I.base.keep, I.base.slot, fun b ob q n hx => ?_, I.base.there, fun b xs q => ?_, fun b ob v q => ?_, fun b ps q => ?_⟩, I.loc, I.cell, ?_, fun x c q => ?_, fun p hp => ?_, fun b ob q => ?_, I.len⟩
 · have z := I.base.free b ob q n hx
   rw [zqf (ne0 z)]; exact z
 · have z := I.base.tups b xs q
   rw [zqf (ne_of z e (fun w => n1 xs w.symm))]; exact z
 · have z := I.base.frzs b ob v q
   have nb : b ≠ d := fun w => by rw [w] at q; exact n4 _ _ q
   rw [zqf nb]; exact z
 · obtain ⟨more, z⟩ := I.base.tbls b ps q
   exact ⟨more, by rw [zqf (ne_of z e (fun w => n3 _ w.symm))]; exact z⟩
 · rw [zqf (ne0 I.free)]; exact I.free
 · rw [zqf (ne0 (I.freeC x c q))]; exact I.freeC x c q
 · obtain ⟨h1, h2, h3⟩ := I.pin p hp
   exact ⟨h1, by rw [zqf (ne0 h2)]; exact h2, h3⟩
 · by_cases hb : b = d
   · subst hb; rw [upd_same] at q; cases q; exact ok
   · rw [zqf hb] at q
     exact (I.hok b ob q).stay (fun _ _ _ z => z) (fun c z => by rw [zqf (ne_of z e (fun w => n2 _ w.symm))]; exact z) fun c xs z => by rw [zqf (ne_of z e (fun w => n1 _ w.symm))]; exact z
theorem Inv.thaw (I : Inv X pins σ H s) (e : H d = some (.frz o u)) (nf : ∀ o v, X.H₀ d ≠ some (.frz o v)) : Inv X pins σ (upd H d u) s := by
 refine I.retag e (fun _ z => by cases z) (fun _ z => by cases z) (fun _ z => by cases z) nf ?_
 obtain ⟨_, ok⟩ := I.hok d _ e
 refine ok.stay (fun _ _ _ z => z) (fun c z => ?_) fun c xs z => ?_
 · rw [zqf (ne_of z e (fun w => by cases w))]; exact z
 · rw [zqf (ne_of z e (fun w => by cases w))]; exact z
end
noncomputable def thawE (d : Addr) (o : Obj) (u : HO) (D : Ends) : Ends where
 nx := fun σ H => H d = some (.frz o u) ∧ D.nx σ (upd H d u)
 rt := fun v H => H d = some (.frz o u) ∧ D.rt v (upd H d u)
 bk := fun σ H => H d = some (.frz o u) ∧ D.bk σ (upd H d u)
 ct := fun σ H => H d = some (.frz o u) ∧ D.ct σ (upd H d u)
section
variable {X : Cx}
end
section
variable {X : Cx} {tg : Expr}
end
section
variable {d : Addr} {o : Obj} {kvs : List (Key × V)} {g : TG} {tc : TT} {te : TE} {k : Nat} {cap : List Nat} {σ : St} {H : Hp} {Q : VK}
end
theorem vals_by : ∀ {xs : List V} {us : List Value}, xs.length = us.length → (∀ (j : Nat) x u, xs[j]? = some x → us[j]? = some u → RelV x u) → Vals xs us
 | [], [], _, _ => .nil
 | x :: xs, u :: us, hl, h => .cons (h 0 x u rfl rfl) (vals_by (by simpa using hl) fun j y v e1 e2 => h (j + 1) y v (by simpa using e1) (by simpa using e2))
 | [], _ :: _, hl, _ => by simp at hl
 | _ :: _, [], hl, _ => by simp at hl
section
variable {X : Cx}
theorem op_isB : OpR X (compareOp .Is) (fun x y H Q => ∃ a b, x = .bl a ∧ y = .bl b ∧ Q (.bl (a == b)) H) := by
 intro pins s σ H x y v u Q I rx ry h
 obtain ⟨a, b, rfl, rfl, q⟩ := h
 cases rx
 cases ry
 exact PyProof.Rows.is_bool ⟨.bl _, H, I, rfl, q⟩
end
noncomputable def off (S : Addr → Prop) (H : Hp) : Hp := fun b => @ite _ (S b) (Classical.propDecidable _) none (H b)
theorem off_iff {S : Addr → Prop} {H : Hp} {b : Addr} {o : HO} : off S H b = some o ↔ ¬ S b ∧ H b = some o := by
 unfold off
 split
 · rename_i h; exact ⟨(fun z => by cases z), fun z => absurd h z.1⟩
 · rename_i h; exact ⟨fun z => ⟨h, z⟩, fun z => z.2⟩
theorem off_same {S : Addr → Prop} {H H' : Hp} (s : Same H H') : Same (off S H) (off S H') := fun b o e => by
 rw [off_iff] at e ⊢
 exact ⟨e.1, s _ _ e.2⟩
theorem off_le {S : Addr → Prop} {H : Hp} : Same (off S H) H := fun b o e => (off_iff.mp e).2
noncomputable def Sd (S : Addr → Prop) (H : Hp) : Prop := ∀ b, S b → H b ≠ none
theorem off_new {S : Addr → Prop} {H : Hp} {p : Addr} {o : HO} (d : Sd S H) (h : H p = none) : off S (upd H p o) p = some o := off_iff.mpr ⟨fun z => d p z h, upd_same⟩
theorem off_none (H : Hp) : off (fun _ => False) H = H := by
 funext b
 unfold off
 exact if_neg (fun h => h)
theorem Is.off {S : Addr → Prop} {H : Hp} {t : T} {v : V} (h : Is (off S H) t v) : Is H t v := h.mono off_le
theorem Is.off0 {H : Hp} {t : T} {v : V} (h : Is H t v) : Is (L2.off (fun _ => False) H) t v := by rw [off_none]; exact h
theorem Is.nt {S : Addr → Prop} {H : Hp} {p : Addr} {xs : List V} {ts : List T} (d : Sd S H) (hp : H p = none) (h : IsL (L2.off S H) ts xs) : Is (L2.off S (upd H p (.tup xs))) (.tup ts) (.ref p) :=
 ⟨p, xs, rfl, off_new d hp, IsL.mono (off_same (Same.new hp _)) h⟩
end
end L2
namespace HT
open PySem PyProof.Rows
open PySem.SeqAt
open PySem.AutoSeq1 (wpAny_loadPart')
open PySem.MeetsSeq PySem.MeetsSeq2 PySem.MeetsSeq3
section
variable {prog : Program} {w : World} {A : Around} {E : Value → Shared → Prop} {s : Shared}
theorem getItem_tuple_all {t sl : Addr} {items : Array Value} {vl vu : Value} {lo hi : Option Int} {Q : Value → Shared → Prop} (ht : IsTup s.heap t items) (hs : s.heap.IsSliceOf sl vl vu .none) (pl : IsPart vl lo) (pu : IsPart vu hi)
  (hw : sIx items.size 0 lo = 0 ∧ sIx items.size items.size hi = items.size) (h : Q (.ref t) s) : wpAny (model prog w) A (getItem (.ref t) (.ref sl)) Q E s := by
 obtain ⟨os, hos, hcs, hds⟩ := id hs
 have hTs : s.TypeIs (.ref sl) "slice" := ⟨os, hos, hcs⟩
 unfold getItem
 try with_reducible refine wpAny_holding ?_
 first | refine wpAny_bind (wpAny_pure ?_) | skip
 refine wpAny_bind (wpAny_sequenceKey ht.typeIs (by decide) ?_)
 refine wpAny_bind (wpAny_callSpecial?_slot (name := Str.ofString "__getitem__") ht.typeIs PyProof.Rows.slot_tuple_getitem
  (wpAny_call_entry PyProof.Rows.slot_tuple_getitem ht.typeIs entry_tuple_getitem ?_ (args_tuple_getitem _ _)))
 show wpAny _ _ (Builtin.Tuple.tupleItemsOf (.ref t) >>= _) _ _ s
 refine wpAny_bind (tupleItemsOf_ ht ?_)
 refine wpAny_bind (wpAny_typeOf hTs ?_)
 rw [if_pos (by decide)]
 refine wpAny_bind (sliceApplied_gen hs pl pu ?_)
 have hyes : (((sIx items.size 0 lo : Nat) : Int) == 0 && (1 : Int) == 1 && (sIx items.size items.size hi - sIx items.size 0 lo) == items.size) = true := by
  rw [hw.1, hw.2]; simp
 show wpAny _ _ (if (((sIx items.size 0 lo : Nat) : Int) == 0 && (1 : Int) == 1 && (sIx items.size items.size hi - sIx items.size 0 lo) == items.size) = true then _ else _) _ _ s
 rw [if_pos hyes]
 refine wpAny_bind ?_
 unfold Builtin.Tuple.tupleIsExact
 refine wpAny_bind (wpAny_typeOf ht.typeIs (wpAny_pure ?_))
 rw [if_pos (by decide)]
 exact wpAny_bind (wpAny_rule (wpAny_pure ⟨_, rfl, wpAny_pure h⟩))
end
end HT
namespace L2
open PySem PySem.Spec PyProof.Rows
section
variable {X : Cx} {S : Addr → Prop}
noncomputable def cutG {α : Type} (xs : List α) (lo hi : Option Int) : List α := (xs.drop (HT.sIx xs.length 0 lo)).take (HT.sIx xs.length xs.length hi - HT.sIx xs.length 0 lo)
theorem cut_is {H : Hp} {ts : List T} {xs : List V} (h : IsL H ts xs) (lo hi : Option Int) : IsL H (cutG ts lo hi) (cutV xs lo hi) := by
 unfold cutG cutV
 rw [h.length]
 exact IsL.take _ (IsL.drop _ h)
noncomputable def rSlTr (S : Addr → Prop) : V → Option Int → Option Int → Hp → VK → Prop := fun x lo hi H Q => ∃ ts, Is (off S H) (.tup ts) x ∧ Sd S H ∧ ∀ v H', Same H H' → Is (off S H') (.tup (cutG ts lo hi)) v → Q v H'
theorem sl_tr : SlR X (rSlTr S) := by
 intro pins s σ H x v vl vu lo hi sl Q I rx hs pl pu h
 obtain ⟨ts, ⟨a, xs, rfl, ha, hl⟩, d, q⟩ := h
 have ha' := (off_iff.mp ha).2
 have e1 := hl.length
 by_cases hw : HT.sIx xs.length 0 lo = 0 ∧ HT.sIx xs.length xs.length hi = xs.length
 · cases rx
   obtain ⟨its, r, ht, hz⟩ := I.tuple (SqT.of ha')
   have hlen : its.toArray.size = xs.length := by rw [List.size_toArray]; exact r.length.symm
   refine ⟨"tuple", _, PyProof.Rows.slot_tuple_getitem.lookup, ht.typeIs, ?_⟩
   refine HT.getItem_tuple_all ht hs pl pu (by rw [hlen]; exact hw) ⟨.ref a, H, I, rfl, q _ H (Same.refl H) ?_⟩
   have e : cutG ts lo hi = ts := by
    unfold cutG
    rw [← e1, hw.1, hw.2, e1, List.drop_zero, Nat.sub_zero, List.take_length]
   rw [e]
   exact ⟨a, xs, rfl, ha, hl⟩
 · exact sl_tup pins s σ H (.ref a) v vl vu lo hi sl Q I rx hs pl pu ⟨a, xs, rfl, SqT.of ha', hw, fun p hp => q _ _ (Same.new hp _) (Is.nt d hp (cut_is hl lo hi))⟩
end
inductive Tm where
 | var (i : Nat) | con (t : T) | add (a b : Tm) | sub (a b : Tm) | mul (a b : Tm) | tup (ts : List Tm) | lst (ts : List Tm) | upto (a b : Tm) | frm (a b : Tm) | ix (a b : Tm) | toL (a : Tm) | neg (a : Tm) | toS (a : Tm) | sum (a : Tm) | dct
abbrev TEnv := List (Nat × T)
section
variable {X : Cx} {S : Addr → Prop} {aL : Str → Bool}
theorem PE.weak {e : Expr} {t t' : TE} (h : PE X e t) (w : ∀ σ H Q, t' σ H Q → t σ H Q) : PE X e t' := fun pins s σ H Q I q => h pins s σ H Q I (w σ H Q q)
theorem PA.weak {es : List Expr} {t t' : TA} (h : PA X es t) (w : ∀ σ H Q, t' σ H Q → t σ H Q) : PA X es t' := fun pos pins s σ H Q I q => h pos pins s σ H Q I (w σ H Q q)
theorem zqr {n : Nat} (h : n ≤ 1000) : n ≤ sizeLine := Nat.le_trans h (by decide)
end
section
variable {M : Model} {A : Around} {E : Value → Shared → Prop} {s : Shared} {base : Heap} {env : Env} {outer : List Env} {L e T0 : Addr} {oe : Obj} {vs : Array Value} {cls a0 : Value} {Q : Unit → Shared → Prop}
end
section
variable {P : Program} {w : World} {K : PySem.W.Frag} {mg : Str → Option Value} {base : Heap} {N : List Str} {qual : Str} {scope : Scope} {f : Addr} {cd : Value} {A : Around} {outer : List Env} {s₀ s : Shared} {H₀ H : Hp} {E : XK} {pins : List (Addr × Obj)} {σ : St}
end
section
variable {P : Program} {w : World} {K : PySem.W.Frag} {mg : Str → Option Value} {base : Heap} {N : List Str} {qual : Str} {scope : Scope} {f : Addr} {cd : Value} {A : Around} {outer : List Env} {s₀ : Shared} {H₀ : Hp} {E : XK}
end
structure OwnErr (K : PySem.W.Frag) (mg : Str → Option Value) (base : Heap) (x : Str) (C : Addr) : Prop where
 cls : OwnCls x C [.type "ValueError", .type "Exception", .type "BaseException", .type "object"] "ValueError.__new__" mg base
 keep : PySem.W.keepIn K (.ref C) = true
section
variable {M : Model} {A : Around} {E : Value → Shared → Prop} {h : Heap} {g : Array GenState} {d : Drawn} {t : Nat} {os : OsState} {e : Addr} {oe : Obj} {Q : Bool → Shared → Prop}
end
section
variable {P : Program} {w : World} {X : Cx} {E : XK} {pins : List (Addr × Obj)} {σ : St} {H : Hp} {s s' : Shared} {e : Value} {R : Shared → Prop} {Ex : Value → Shared → Prop} {env : Env} {outer : List Env} {L : Addr}
end
section
variable {X : Cx} {pins : List (Addr × Obj)} {σ : St} {H : Hp} {s : Shared}
end
section
variable {X : Cx} {pins : List (Addr × Obj)} {σ : St} {H : Hp} {s : Shared} {a C : Addr}
end
end L2
namespace PySem
open Sem (wp)
noncomputable def qn : List Str := ["__class__", "__getattribute__", "__getattr__", "__init__"]
abbrev vE : List Value := [.type "ValueError", .type "Exception", .type "BaseException", .type "object"]
section
variable {M : Model} {prog : Program} {w : World} {A : Around} {E : Value → Shared → Prop} {h : Heap} {g : Array GenState} {d : Drawn} {t : Nat} {os : OsState} {a : Addr} {o : Obj}
 {nm q : Str} {C N : Addr} {bs bm : List Value} {hdct : Bool} {sn : List Str} {sub : List Value} {ab : Bool} {col : Option Bool} {dd : Option Addr} {k0 k1 k2 k3 k5 : Option Value} {newId : String} {mN : Str → Option Value}
end
section
variable {M : Model} {prog : Program} {w : World} {A : Around} {E : Value → Shared → Prop} {h : Heap} {g : Array GenState} {d : Drawn} {t : Nat} {os : OsState} {a : Addr} {o : Obj}
 {nm q : Str} {C N : Addr} {bs bm : List Value} {hdct : Bool} {sn : List Str} {sub : List Value} {ab : Bool} {col : Option Bool} {dd : Option Addr} {k0 k1 k2 k3 k5 : Option Value} {newId : String} {mN : Str → Option Value}
end
end PySem
namespace L2
open PySem PySem.Spec PyProof.Rows
structure TwoErr (K : PySem.W.Frag) (C D : Addr) : Prop where
 c : ∃ nm q N bs hdct sn sub ab col dd k0 k1 k2 k3 k5, K.lookup C = some (excClassObj nm q C N bs (.ref D :: vE) hdct sn sub ab col dd k0 k1 k2 k3 k5 "ValueError.__new__") ∧ PySem.W.nsOkIn K N = true ∧ ∀ n ∈ qn, PySem.W.nsIn K N n = some none
 d : ∃ nm q N bs hdct sn sub ab col dd k0 k1 k2 k3 k5, K.lookup D = some (excClassObj nm q D N bs vE hdct sn sub ab col dd k0 k1 k2 k3 k5 "ValueError.__new__") ∧ PySem.W.nsOkIn K N = true ∧ ∀ n ∈ qn, PySem.W.nsIn K N n = some none
section
variable {K : PySem.W.Frag} {C D : Addr} {mg : Str → Option Value} {base : Heap} {x : Str}
end
mutual
noncomputable def toD : T → PyData
 | .non => .none
 | .bl b => .bool b
 | .int i => .int i
 | .str x => .str x
 | .tup ts => .tuple (toDs ts)
 | .lst ts => .list (toDs ts)
 | .dct => .dict []
noncomputable def toDs : List T → List PyData
 | [] => []
 | t :: r => toD t :: toDs r
end
section
variable {X : Cx} {pins : List (Addr × Obj)} {σ : St} {H : Hp} {s : Shared}
mutual
theorem zxd (I : Inv X pins σ H s) : ∀ {t : T} {v : V} {u : Value}, (toD t).canLay0 = true → Is H t v → RelV v u → ∃ as, Reads s.heap u (toD t) as
 | .non, v, u, _, h, r => by
   cases (show v = .non from h); cases (show u = Value.none from r)
   exact ⟨_, by unfold toD; exact .none⟩
 | .bl b, v, u, _, h, r => by
   cases (show v = .bl b from h); cases (show u = Value.bool b from r)
   exact ⟨_, by unfold toD; exact .bool b⟩
 | .int i, v, u, _, h, r => by
   cases (show v = .int i from h)
   obtain ⟨t, rfl⟩ := (show ∃ t, u = Value.int i t from r)
   exact ⟨_, by unfold toD; exact .int i t⟩
 | .str x, v, u, _, h, r => by
   cases (show v = .str x from h)
   obtain ⟨t, rfl⟩ := (show ∃ t, u = Value.str x t from r)
   exact ⟨_, by unfold toD; exact .str x t⟩
 | .tup ts, v, u, l, h, r => by
   obtain ⟨a, xs, rfl, ha, hl⟩ := h
   cases (show u = Value.ref a from r)
   obtain ⟨its, rv, ⟨o, e, c, n, d⟩, _⟩ := I.tuple (SqT.of ha)
   obtain ⟨as, ra⟩ := readsAll_is I (by unfold toD PyData.canLay0 at l; exact l) hl rv
   exact ⟨_, by unfold toD; exact .tuple e c d (by simpa using ra)⟩
 | .lst ts, v, u, l, h, r => by
   obtain ⟨a, xs, rfl, ha, hl⟩ := h
   cases (show u = Value.ref a from r)
   obtain ⟨its, rv, ⟨o, n, e, c, _, d⟩, _⟩ := I.list (SqL.of ha)
   obtain ⟨as, ra⟩ := readsAll_is I (by unfold toD PyData.canLay0 at l; exact l) hl rv
   exact ⟨_, by unfold toD; exact .list e c d (by simpa using ra)⟩
 | .dct, v, u, l, h, r => by unfold toD PyData.canLay0 at l; cases l
theorem readsAll_is (I : Inv X pins σ H s) : ∀ {ts : List T} {xs : List V} {us : List Value}, PyData.canLayAll0 (toDs ts) = true → IsL H ts xs → Vals xs us → ∃ as, ReadsAll s.heap us (toDs ts) as
 | [], xs, us, _, h, r => by
   cases (show xs = [] from h); cases r
   exact ⟨_, by unfold toDs; exact .nil⟩
 | t :: ts, xs, us, l, h, r => by
   obtain ⟨v, vs, rfl, h1, h2⟩ := h
   cases r with
   | cons r1 r2 =>
     unfold toDs PyData.canLayAll0 at l
     rw [Bool.and_eq_true] at l
     obtain ⟨as, ra⟩ := zxd I l.1 h1 r1
     obtain ⟨bs, rb⟩ := readsAll_is I l.2 h2 r2
     exact ⟨_, by unfold toDs; exact .cons ra rb⟩
end
end
noncomputable def rTr (f : Bool → Bool) : R2 := fun x y H Q => ∃ t u, Is H t x ∧ Is H u y ∧ (toD t).canLay0 = true ∧ (toD u).canLay0 = true ∧ (toD t).depth ≤ 20 ∧ Q (.bl (f (PyData.eqv (toD t) (toD u)))) H
section
variable {X : Cx}
theorem op_neTr (hu : X.A.units + 64 < cLine) : OpR X (compareOp .NotEq) (rTr (!·)) := by
 intro pins s σ H x y v u Q I rx ry h
 obtain ⟨t, t', h1, h2, l1, l2, d, q⟩ := h
 obtain ⟨as, ra⟩ := zxd I l1 h1 rx
 obtain ⟨bs, rb⟩ := zxd I l2 h2 ry
 exact SeqAt.compareNe_reads ra rb l1 l2 (by omega) ⟨.bl _, H, I, rfl, q⟩
theorem op_eqTr (hu : X.A.units + 64 < cLine) : OpR X (compareOp .Eq) (rTr id) := by
 intro pins s σ H x y v u Q I rx ry h
 obtain ⟨t, t', h1, h2, l1, l2, d, q⟩ := h
 obtain ⟨as, ra⟩ := zxd I l1 h1 rx
 obtain ⟨bs, rb⟩ := zxd I l2 h2 ry
 exact SeqAt.rcAt_reads ra rb l1 l2 (by omega) X.prog X.w _ _ ⟨.bl _, H, I, rfl, q⟩
end
noncomputable def iT (ns : List Int) : List T := ns.map T.int
theorem toDs_ints : ∀ ns : List Int, toDs (iT ns) = ns.map PyData.int
 | [] => by unfold iT; rfl
 | n :: r => by
   show toDs (T.int n :: iT r) = _
   unfold toDs
   rw [toDs_ints r]
   unfold toD
   rfl
theorem lay_ints : ∀ ns : List Int, PyData.canLayAll0 (toDs (iT ns)) = true
 | [] => rfl
 | n :: r => by
   show PyData.canLayAll0 (toDs (T.int n :: iT r)) = true
   unfold toDs toD PyData.canLayAll0
   rw [lay_ints r]
   simp [PyData.canLay0]
theorem depth_ints : ∀ ns : List Int, PyData.depthAll (toDs (iT ns)) = 0
 | [] => rfl
 | n :: r => by
   show PyData.depthAll (toDs (T.int n :: iT r)) = 0
   unfold toDs toD PyData.depthAll
   rw [depth_ints r]
   simp [PyData.depth]
theorem eqv_ints : ∀ ns ms : List Int, PyData.eqvAll (toDs (iT ns)) (toDs (iT ms)) = decide (ns = ms) := fun ns ms => by
 rw [toDs_ints, toDs_ints]
 induction ns generalizing ms with
 | nil => cases ms <;> simp [PyData.eqvAll]
 | cons a r ih =>
   cases ms with
   | nil => simp [PyData.eqvAll]
   | cons b q =>
     simp only [List.map_cons, PyData.eqvAll, PyData.eqv, ih q]
     by_cases h : a = b <;> by_cases h' : r = q <;> simp [h, h']
theorem IsL.ints {H : Hp} : ∀ {ns : List Int} {xs : List V}, IsL H (iT ns) xs ↔ xs = ns.map V.int
 | [], xs => Iff.rfl
 | n :: r, xs => by
   constructor
   · rintro ⟨v, vs, rfl, h1, h2⟩
     rw [IsL.ints.mp h2, show v = .int n from h1]
     rfl
   · rintro rfl
     exact ⟨_, _, rfl, rfl, IsL.ints.mpr rfl⟩
theorem lay_lst (ns : List Int) : (toD (.lst (iT ns))).canLay0 = true := by unfold toD PyData.canLay0; exact lay_ints ns
theorem depth_lst (ns : List Int) : (toD (.lst (iT ns))).depth ≤ 20 := by unfold toD PyData.depth; rw [depth_ints]; decide
theorem eqv_lst (ns ms : List Int) : PyData.eqv (toD (.lst (iT ns))) (toD (.lst (iT ms))) = decide (ns = ms) := by unfold toD PyData.eqv; exact eqv_ints ns ms
noncomputable def tt (ps ns : List Int) : T := .tup [.tup (iT ps), .tup (iT ns)]
section
variable {X : Cx}
end
section
variable {X : Cx}
noncomputable def rGetL (K : PySem.W.Frag) : V → V → Hp → VK → Prop := fun o i H Q => ∃ p xs k v, o = .ref p ∧ i = .int k ∧ 0 ≤ k ∧ SqL K H p xs ∧ xs[k.toNat]? = some v ∧ Q v H
theorem get_list : PGet X (rGetL X.K) := by
 intro pins s σ H o i ov iv Q I ro ri h
 obtain ⟨p, xs, k, v, rfl, rfl, h0, hq, he, q⟩ := h
 cases (show ov = Value.ref p from ro)
 obtain ⟨t, rfl⟩ := ri
 obtain ⟨its, r, pl, hz⟩ := I.list hq
 obtain ⟨w, ew, rw'⟩ := r.get he
 have hl := r.length
 have hn := line63
 have hk : k.toNat < its.length := (List.getElem?_eq_some_iff.mp ew).1
 exact wpAny_getItem_list pl.isList h0 (by omega) (by simpa using ew) ⟨v, H, I, rw', q⟩
end
section
variable {prog : Program} {w : World} {A : Around} {E : Value → Shared → Prop} {s : Shared}
noncomputable def IsZipT (h : Heap) (z ti to : Addr) (f0 : Value) : Prop := h.get? z = some { cls := .type "zip", data := .fields #[f0, .bool false, .bool true, .ref ti, .ref to] }
noncomputable def IsIts (h : Heap) (ti it1 it2 : Addr) : Prop := h.get? ti = some { cls := .type "tuple", data := .seq #[.ref it1, .ref it2] }
theorem nextOrEnd_tup {it t : Addr} {i : Nat} {its : Array Value} {v : Value} {Q : Option Value → Shared → Prop} (hit : s.heap.IsTupleIter it t i) (ht : s.heap.IsTuple t its) (hv : its[i]? = some v)
  (k : ∀ g, g.IsTupleIter it t (i + 1) → Heap.SameBut it s.heap g → Q (some v) { s with heap := g }) : wpAny (model prog w) A (Builtin.SmallTypes.nextOrEnd (.ref it)) Q E s := by
 unfold Builtin.SmallTypes.nextOrEnd
 exact wpAny_bind (wpAny_attempt (nextOf_tup hit ht hv fun g h1 h2 => wpAny_pure (k g h1 h2)))
theorem nextOrEnd_tupEnd {it t : Addr} {i : Nat} {its : Array Value} {Q : Option Value → Shared → Prop} (hh : A.handled = none) (hit : s.heap.IsTupleIter it t i) (ht : s.heap.IsTuple t its) (hv : its[i]? = none)
  (k : ∀ g, Heap.ExtBut it s.heap g → Q none { s with heap := g }) : wpAny (model prog w) A (Builtin.SmallTypes.nextOrEnd (.ref it)) Q E s := by
 unfold Builtin.SmallTypes.nextOrEnd
 refine wpAny_bind (wpAny_attempt (nextOf_tupEnd hh hit ht hv fun g x hx ⟨o, ho, hc⟩ => ?_))
 exact wpAny_bind (wpAny_isInstance (T := "StopIteration") (b := true) ⟨o, ho, hc⟩ isSubtype_stop (wpAny_pure (k _ hx)))
theorem zip_item {z ti to it1 it2 t1 t2 : Addr} {i : Nat} {a1 a2 : Array Value} {v1 v2 a b : Value} {Q : Option Value → Shared → Prop} (hz : IsZipT s.heap z ti to .none) (hti : IsIts s.heap ti it1 it2) (hto : s.heap.get? to = some { cls := .type "tuple", data := .seq #[a, b] })
  (hi1 : s.heap.IsTupleIter it1 t1 i) (hi2 : s.heap.IsTupleIter it2 t2 i)
  (h1 : s.heap.IsTuple t1 a1) (h2 : s.heap.IsTuple t2 a2) (e1 : a1[i]? = some v1) (e2 : a2[i]? = some v2) (nd : [z, ti, to, it1, it2].Nodup) (nt : t1 ∉ [z, to, it1, it2] ∧ t2 ∉ [z, to, it1, it2])
  (k : ∀ g, IsZipT g z ti to (rawInt s.heap.objs.size) → IsIts g ti it1 it2 → g.get? to = some { cls := .type "tuple", data := .seq #[v1, v2] } → g.IsTupleIter it1 t1 (i + 1) → g.IsTupleIter it2 t2 (i + 1) →
   g.get? s.heap.objs.size = some { cls := .type "tuple", data := .seq #[v1, v2] } → g.objs.size = s.heap.objs.size + 1 → (∀ c o, c ≠ z → c ≠ to → c ≠ it1 → c ≠ it2 → s.heap.get? c = some o → g.get? c = some o) → Q (some (.ref s.heap.objs.size)) { s with heap := g }) :
  wpAny (model prog w) A (pyNext (.ref z)) Q E s := by
 have hT : s.TypeIs (.ref z) "zip" := ⟨_, hz, rfl⟩
 simp only [List.nodup_cons, List.mem_cons, List.not_mem_nil, or_false, not_or, not_false_eq_true, List.nodup_nil, and_true] at nd
 simp only [List.mem_cons, List.not_mem_nil, or_false, not_or] at nt
 obtain ⟨⟨n1, n2, n3, n4⟩, ⟨n5, n6, n7⟩, ⟨n8, n9⟩, n10⟩ := nd
 obtain ⟨⟨m1, m2, m3, m4⟩, m5, m6, m7, m8⟩ := nt
 unfold pyNext
 refine wpAny_bind (wpAny_attempt (wpAny_callSpecial?_slot (name := Str.ofString "__next__") hT PySem.F.slot_zip_next (wpAny_call_entry PySem.F.slot_zip_next hT PySem.F.entry_zip_next ?_ (PySem.F.args_zip_next_1 _))))
 obtain ⟨hp, gs, d, tk, os⟩ := s
 show wpAny _ _ (field (.ref z) 2 >>= _) _ _ _
 refine wpAny_bind (wpAny_field hz rfl (x := .bool true) rfl ?_)
 show wpAny _ _ (field (.ref z) 3 >>= _) _ _ _
 refine wpAny_bind (wpAny_field hz rfl (x := .ref ti) rfl ?_)
 refine wpAny_bind (wpAny_seqItems hti rfl ?_)
 dsimp only
 refine wpAny_bind ?_
 unfold Builtin.SmallTypes.ownedTupleIsFree
 refine wpAny_bind (wpAny_field hz rfl (x := .none) rfl (wpAny_pure ?_))
 simp only [if_true]
 refine wpAny_bind (wpAny_rule (wpAny_bind (wpAny_field hz rfl (x := .ref to) rfl ?_)))
 dsimp only
 refine wpAny_bind (wpAny_setField_rec hz (by simp) fun g1 hz1 hs1 => ?_)
 replace hs1 : Heap.SameBut z hp g1 := hs1
 replace hz1 : IsZipT g1 z ti to .ellipsis := hz1
 refine wpAny_bind ?_
 have hto1 : g1.get? to = some { cls := .type "tuple", data := .seq #[a, b] } := hs1.extBut _ _ (Ne.symm n2) hto
 have hi11 : g1.IsTupleIter it1 t1 i := hi1.extBut hs1.extBut (Ne.symm n3)
 have hi21 : g1.IsTupleIter it2 t2 i := hi2.extBut hs1.extBut (Ne.symm n4)
 have h11 : g1.IsTuple t1 a1 := h1.extBut hs1.extBut m1
 have h21 : g1.IsTuple t2 a2 := h2.extBut hs1.extBut m5
 rw [show ([Value.ref it1, Value.ref it2] : List Value).zipIdx = [(Value.ref it1, 0), (Value.ref it2, 1)] from rfl, List.forIn_cons]
 refine wpAny_bind (wpAny_bind (wpAny_onRaise ?_))
 show wpAny _ _ (Builtin.SmallTypes.nextOrEnd (.ref it1)) _ _ ⟨g1, gs, d, tk, os⟩
 refine nextOrEnd_tup hi11 h11 e1 fun g2 hi12 hs2 => ?_
 replace hs2 : Heap.SameBut it1 g1 g2 := hs2
 dsimp only
 have hto2 : g2.get? to = some { cls := .type "tuple", data := .seq #[a, b] } := hs2.extBut _ _ n8 hto1
 refine wpAny_bind (wpAny_seqItems (s := ⟨g2, gs, d, tk, os⟩) hto2 rfl ?_)
 dsimp only
 refine wpAny_bind (wpAny_updateSeq_pair (s := ⟨g2, gs, d, tk, os⟩) hto2 fun g3 hto3 hs3 => ?_)
 replace hs3 : Heap.SameBut to g2 g3 := hs3
 replace hto3 : g3.get? to = some { cls := .type "tuple", data := .seq #[v1, b] } := hto3
 refine wpAny_bind (wpAny_letGo (wpAny_pure ?_))
 dsimp only
 rw [List.forIn_cons]
 refine wpAny_bind (wpAny_bind (wpAny_onRaise ?_))
 show wpAny _ _ (Builtin.SmallTypes.nextOrEnd (.ref it2)) _ _ ⟨g3, gs, d, tk, os⟩
 have hi23 : g3.IsTupleIter it2 t2 i := (hi21.extBut hs2.extBut (Ne.symm n10)).extBut hs3.extBut (Ne.symm n9)
 have h23 : g3.IsTuple t2 a2 := (h21.extBut hs2.extBut m7).extBut hs3.extBut m6
 refine nextOrEnd_tup hi23 h23 e2 fun g4 hi24 hs4 => ?_
 replace hs4 : Heap.SameBut it2 g3 g4 := hs4
 dsimp only
 have hto4 : g4.get? to = some { cls := .type "tuple", data := .seq #[v1, b] } := hs4.extBut _ _ n9 hto3
 refine wpAny_bind (wpAny_seqItems (s := ⟨g4, gs, d, tk, os⟩) hto4 rfl ?_)
 dsimp only
 refine wpAny_bind (wpAny_updateSeq_pair (s := ⟨g4, gs, d, tk, os⟩) hto4 fun g5 hto5 hs5 => ?_)
 replace hs5 : Heap.SameBut to g4 g5 := hs5
 replace hto5 : g5.get? to = some { cls := .type "tuple", data := .seq #[v1, v2] } := hto5
 refine wpAny_bind (wpAny_letGo (wpAny_pure ?_))
 dsimp only
 rw [List.forIn_nil]
 refine wpAny_pure ?_
 dsimp only
 refine wpAny_bind (wpAny_seqItems (s := ⟨g5, gs, d, tk, os⟩) hto5 rfl ?_)
 dsimp only
 refine wpAny_bind (wpAny_newTuple (s := ⟨g5, gs, d, tk, os⟩) ?_)
 have hz5 : IsZipT g5 z ti to .ellipsis := hs5.extBut _ _ n2 (hs4.extBut _ _ n4 (hs3.extBut _ _ n2 (hs2.extBut _ _ n3 hz1)))
 have sz5 : g5.objs.size = hp.objs.size := by rw [hs5.1, hs4.1, hs3.1, hs2.1, hs1.1]
 have keep5 : ∀ c o, c ≠ z → c ≠ to → c ≠ it1 → c ≠ it2 → hp.get? c = some o → g5.get? c = some o := fun c o q1 q2 q3 q4 e => hs5.extBut c o q2 (hs4.extBut c o q4 (hs3.extBut c o q2 (hs2.extBut c o q3 (hs1.extBut c o q1 e))))
 have hi15 : g5.IsTupleIter it1 t1 (i + 1) := ((hi12.extBut hs3.extBut (Ne.symm n8)).extBut hs4.extBut n10).extBut hs5.extBut (Ne.symm n8)
 have hi25 : g5.IsTupleIter it2 t2 (i + 1) := hi24.extBut hs5.extBut (Ne.symm n9)
 have hzl : z < hp.objs.size := Heap.lt_size hz
 dsimp only
 rw [sz5]
 have hz6 : IsZipT (g5.push { cls := .type "tuple", data := .seq [v1, v2].toArray }) z ti to .ellipsis := Heap.get?_push_of_some _ hz5
 have hT6 : (g5.push { cls := .type "tuple", data := .seq [v1, v2].toArray }).get? hp.objs.size = some { cls := .type "tuple", data := .seq #[v1, v2] } := by rw [← sz5]; exact Heap.get?_push_size _ rfl
 have keep6 : ∀ c o, g5.get? c = some o → (g5.push { cls := .type "tuple", data := .seq [v1, v2].toArray }).get? c = some o := fun c o e => Heap.get?_push_of_some _ e
 have sz6 : (g5.push { cls := .type "tuple", data := .seq [v1, v2].toArray }).objs.size = hp.objs.size + 1 := by rw [Heap.size_push, sz5]
 show wpAny _ _ (Builtin.SmallTypes.ownedTupleHandOut (.ref z) (.ref hp.objs.size) >>= _) _ _ ⟨g5.push { cls := .type "tuple", data := .seq [v1, v2].toArray }, gs, d, tk, os⟩
 generalize g5.push { cls := .type "tuple", data := .seq [v1, v2].toArray } = g6 at hz6 hT6 keep6 sz6 ⊢
 refine wpAny_bind ?_
 unfold Builtin.SmallTypes.ownedTupleHandOut
 refine wpAny_bind (wpAny_setField_rec hz6 (by simp) fun g7 hz7 hs7 => ?_)
 replace hs7 : Heap.SameBut z g6 g7 := hs7
 replace hz7 : IsZipT g7 z ti to (rawInt hp.objs.size) := hz7
 refine wpAny_setField_rec hz7 (by simp) fun g8 hz8 hs8 => ?_
 replace hs8 : Heap.SameBut z g7 g8 := hs8
 replace hz8 : IsZipT g8 z ti to (rawInt hp.objs.size) := hz8
 have up : ∀ c o, c ≠ z → g5.get? c = some o → g8.get? c = some o := fun c o q e => hs8.extBut c o q (hs7.extBut c o q (keep6 c o e))
 refine wpAny_pure ⟨_, rfl, wpAny_pure (k g8 hz8 ?_ (up _ _ (Ne.symm n2) hto5) ?_ ?_ ?_ ?_ fun c o q1 q2 q3 q4 e => up c o q1 (keep5 c o q1 q2 q3 q4 e))⟩
 · exact up _ _ (Ne.symm n1) (keep5 _ _ (Ne.symm n1) n5 n6 n7 hti)
 · obtain ⟨o, e, r⟩ := hi15
   exact ⟨o, up _ _ (Ne.symm n3) e, r⟩
 · obtain ⟨o, e, r⟩ := hi25
   exact ⟨o, up _ _ (Ne.symm n4) e, r⟩
 · exact hs8.extBut _ _ (Nat.ne_of_gt hzl) (hs7.extBut _ _ (Nat.ne_of_gt hzl) hT6)
 · rw [hs8.1, hs7.1, sz6]
theorem zip_end {z ti to it1 it2 t1 t2 : Addr} {i : Nat} {a1 a2 : Array Value} {a b : Value} {Q : Option Value → Shared → Prop} (hh : A.handled = none) (hz : IsZipT s.heap z ti to .none) (hti : IsIts s.heap ti it1 it2) (hto : s.heap.get? to = some { cls := .type "tuple", data := .seq #[a, b] })
  (hi1 : s.heap.IsTupleIter it1 t1 i) (hi2 : s.heap.IsTupleIter it2 t2 i)
  (h1 : s.heap.IsTuple t1 a1) (h2 : s.heap.IsTuple t2 a2) (e1 : a1[i]? = none) (e2 : a2[i]? = none) (nd : [z, ti, to, it1, it2].Nodup) (nt : t1 ∉ [z, to, it1, it2] ∧ t2 ∉ [z, to, it1, it2])
  (k : ∀ g, (∀ c o, c ≠ z → c ≠ it1 → c ≠ it2 → s.heap.get? c = some o → g.get? c = some o) → Q none { s with heap := g }) :
  wpAny (model prog w) A (pyNext (.ref z)) Q E s := by
 have hT : s.TypeIs (.ref z) "zip" := ⟨_, hz, rfl⟩
 simp only [List.nodup_cons, List.mem_cons, List.not_mem_nil, or_false, not_or, not_false_eq_true, List.nodup_nil, and_true] at nd
 simp only [List.mem_cons, List.not_mem_nil, or_false, not_or] at nt
 obtain ⟨⟨n1, n2, n3, n4⟩, ⟨n5, n6, n7⟩, ⟨n8, n9⟩, n10⟩ := nd
 obtain ⟨⟨m1, m2, m3, m4⟩, m5, m6, m7, m8⟩ := nt
 unfold pyNext
 refine wpAny_bind (wpAny_attempt (wpAny_callSpecial?_slot (name := Str.ofString "__next__") hT PySem.F.slot_zip_next (wpAny_call_entry PySem.F.slot_zip_next hT PySem.F.entry_zip_next ?_ (PySem.F.args_zip_next_1 _))))
 obtain ⟨hp, gs, d, tk, os⟩ := s
 show wpAny _ _ (field (.ref z) 2 >>= _) _ _ _
 refine wpAny_bind (wpAny_field hz rfl (x := .bool true) rfl ?_)
 show wpAny _ _ (field (.ref z) 3 >>= _) _ _ _
 refine wpAny_bind (wpAny_field hz rfl (x := .ref ti) rfl ?_)
 refine wpAny_bind (wpAny_seqItems hti rfl ?_)
 dsimp only
 refine wpAny_bind ?_
 unfold Builtin.SmallTypes.ownedTupleIsFree
 refine wpAny_bind (wpAny_field hz rfl (x := .none) rfl (wpAny_pure ?_))
 simp only [if_true]
 refine wpAny_bind (wpAny_rule (wpAny_bind (wpAny_field hz rfl (x := .ref to) rfl ?_)))
 dsimp only
 refine wpAny_bind (wpAny_setField_rec hz (by simp) fun g1 hz1 hs1 => ?_)
 replace hs1 : Heap.SameBut z hp g1 := hs1
 replace hz1 : IsZipT g1 z ti to .ellipsis := hz1
 refine wpAny_bind ?_
 have hi11 : g1.IsTupleIter it1 t1 i := hi1.extBut hs1.extBut (Ne.symm n3)
 have hi21 : g1.IsTupleIter it2 t2 i := hi2.extBut hs1.extBut (Ne.symm n4)
 have h11 : g1.IsTuple t1 a1 := h1.extBut hs1.extBut m1
 have h21 : g1.IsTuple t2 a2 := h2.extBut hs1.extBut m5
 rw [show ([Value.ref it1, Value.ref it2] : List Value).zipIdx = [(Value.ref it1, 0), (Value.ref it2, 1)] from rfl, List.forIn_cons]
 refine wpAny_bind (wpAny_bind (wpAny_onRaise ?_))
 show wpAny _ _ (Builtin.SmallTypes.nextOrEnd (.ref it1)) _ _ ⟨g1, gs, d, tk, os⟩
 refine nextOrEnd_tupEnd hh hi11 h11 e1 fun g2 hs2 => ?_
 replace hs2 : Heap.ExtBut it1 g1 g2 := hs2
 dsimp only
 have hz2 : IsZipT g2 z ti to .ellipsis := hs2 _ _ n3 hz1
 refine wpAny_bind (wpAny_setField_rec (s := ⟨g2, gs, d, tk, os⟩) hz2 (by simp) fun g3 hz3 hs3 => ?_)
 replace hs3 : Heap.SameBut z g2 g3 := hs3
 have hi23 : g3.IsTupleIter it2 t2 i := (hi21.extBut hs2 (Ne.symm n10)).extBut hs3.extBut (Ne.symm n4)
 have h23 : g3.IsTuple t2 a2 := (h21.extBut hs2 m7).extBut hs3.extBut m5
 refine wpAny_bind ?_
 show wpAny _ _ (forIn [(Value.ref it2, 1)] PUnit.unit _ >>= _) _ _ _
 refine wpAny_bind ?_
 rw [List.forIn_cons]
 refine wpAny_bind ?_
 dsimp only
 refine wpAny_bind (nextOrEnd_tupEnd hh hi23 h23 e2 fun g4 hs4 => ?_)
 replace hs4 : Heap.ExtBut it2 g3 g4 := hs4
 simp only [Option.isSome_none, Bool.false_eq_true, if_false]
 refine wpAny_pure ?_
 dsimp only
 rw [List.forIn_nil]
 refine wpAny_pure (wpAny_bind (wpAny_rule ?_))
 have keep4 : ∀ c o, c ≠ z → c ≠ it1 → c ≠ it2 → hp.get? c = some o → g4.get? c = some o := fun c o q1 q2 q3 e => hs4 c o q3 (hs3.extBut c o q1 (hs2 c o q2 (hs1.extBut c o q1 e)))
 unfold Builtin.SmallTypes.stopIteration
 show wpAny _ _ (newExc (.type "StopIteration") [] >>= _) _ _ _
 refine wpAny_bind ?_
 simp only [newExc, newTuple]
 refine wpAny_bind (wpAny_newObj_type ?_ (by size_fits))
 refine wpAny_bind (m := firstArgMember _ _) (wpAny_of_eq (a := Value.none) (by first | rfl | (simp only [firstArgMember]; rfl)) ?_)
 refine wpAny_newObj_type ?_ (by size_fits)
 simp only [raiseNew]
 refine wpAny_bind (wpAny_handled ?_)
 first | rw [show A.in1.handled = none from hh] | rw [hh]
 refine wpAny_bind (wpAny_pure (wpAny_throw ?_))
 exact wpAny_bind (wpAny_isInstance (T := "StopIteration") (b := true) ⟨_, Heap.get?_push_size _ rfl, rfl⟩ isSubtype_stop (wpAny_pure (k _ fun c o q1 q2 q3 e => Heap.get?_push_of_some _ (Heap.get?_push_of_some _ (keep4 c o q1 q2 q3 e)))))
theorem iter_zip {z ti to : Addr} {f0 : Value} {Q : Value → Shared → Prop} (hz : IsZipT s.heap z ti to f0) (h : Q (.ref z) s) : wpAny (model prog w) A (pyIter (.ref z)) Q E s :=
 have hT : s.TypeIs (.ref z) "zip" := ⟨_, hz, rfl⟩
 wpAny_pyIter_slot hT PySem.F.slot_zip_iter (wpAny_call_entry PySem.F.slot_zip_iter hT PySem.F.entry_zip_iter (show wpAny _ _ (ret (.ref z)) _ _ s from wpAny_pure ⟨_, rfl, "zip", _, hT, PySem.F.slot_zip_next.lookup, h⟩) (PySem.F.args_zip_iter_1 _))
theorem letGo_zip {elts : List Expr} {x1} {pos : Pos} {z ti to T : Addr} {Q : Unit → Shared → Prop} (hz : IsZipT s.heap z ti to (rawInt T)) (hQ : ∀ h', IsZipT h' z ti to .none → Heap.SameBut z s.heap h' → Q () { s with heap := h' }) :
  wpAny (model prog w) A (letOwnedTupleGo (.Tuple elts x1 pos) (.ref z) (.ref T)) Q E s := by
 unfold letOwnedTupleGo
 refine wpAny_bind (wpAny_load hz ?_)
 refine (show wpAny _ _ (if (["enumerate", "zip", "dict_itemiterator", "dict_reverseitemiterator", "odict_iterator", "itertools.zip_longest", "itertools.pairwise"].contains "zip" && (#[rawInt T, .bool false, .bool true, .ref ti, .ref to] : Array Value)[0]? == some (rawInt T)) = true then _ else _) Q E s from ?_)
 rw [if_pos (by simp)]
 refine wpAny_bind (wpAny_rule ?_)
 exact wpAny_setField_rec hz (by simp) fun h' hz' hs' => hQ h' hz' hs'
end
noncomputable def Itz (a b : Addr) : It :=
 ⟨fun i H => ∃ xs ys x y, H a = some (.tup xs) ∧ H b = some (.tup ys) ∧ xs[i]? = some x ∧ ys[i]? = some y,
  fun i H v H' => ∃ p x y, v = .ref p ∧ H p = none ∧ H' = upd H p (.tup [x, y]) ∧ (∀ xs, H a = some (.tup xs) → xs[i]? = some x) ∧ ∀ ys, H b = some (.tup ys) → ys[i]? = some y,
  fun i H => ∃ xs ys, H a = some (.tup xs) ∧ H b = some (.tup ys) ∧ xs.length ≤ i ∧ ys.length ≤ i⟩
theorem tupAt {P : Program} {w : World} {H : Hp} {h : Heap} {a : Addr} {xs : List V} (ok : HOk P w H h) (e : H a = some (.tup xs)) : ∃ its : List Value, Vals xs its ∧ h.IsTuple a its.toArray := by
 obtain ⟨_, its, r, t, _⟩ := (show ObjOk P w H h a (.tup xs) from ok a _ e)
 exact ⟨its, r, t⟩
theorem turn_zip {P : Program} {w : World} {K : PySem.W.Frag} {elts : List Expr} {k1} {pos : Pos} (a b z ti to it1 it2 : Addr) (nd : [z, ti, to, it1, it2].Nodup) (hb : sizeLine ≥ 2) :
  Turn P w K (.Tuple elts k1 pos) (Itz a b) [z, ti, to, it1, it2] z (fun i h => IsZipT h z ti to .none ∧ IsIts h ti it1 it2 ∧ (∃ u v, h.get? to = some { cls := .type "tuple", data := .seq #[u, v] }) ∧ h.IsTupleIter it1 a i ∧ h.IsTupleIter it2 b i) where
 mem := by simp
 obj := fun i h st c hc => by
  obtain ⟨hz, hti, ⟨u, v, hto⟩, h1, h2⟩ := st
  simp only [List.mem_cons, List.not_mem_nil, or_false] at hc
  rcases hc with rfl | rfl | rfl | rfl | rfl
  · exact ⟨_, hz, fun v q => by
     have q' : Data.fields _ = Data.cell v := q
     cases q'⟩
  · exact ⟨_, hti, fun v q => by
     have q' : Data.seq _ _ = Data.cell v := q
     cases q'⟩
  · exact ⟨_, hto, fun v q => by
     have q' : Data.seq _ _ = Data.cell v := q
     cases q'⟩
  · obtain ⟨o, e1, c, d⟩ := h1
    exact ⟨o, e1, fun v q => by rw [d] at q; cases q⟩
  · obtain ⟨o, e1, c, d⟩ := h2
    exact ⟨o, e1, fun v q => by rw [d] at q; cases q⟩
 keep := fun i h h' st k => by
  obtain ⟨hz, hti, ⟨u, v, hto⟩, ⟨o1, e1, r1⟩, o2, e2, r2⟩ := st
  exact ⟨k z (by simp) _ hz, k ti (by simp) _ hti, ⟨u, v, k to (by simp) _ hto⟩, ⟨o1, k it1 (by simp) o1 e1, r1⟩, o2, k it2 (by simp) o2 e2, r2⟩
 item := by
  intro X hP hw hK hc i pins s σ H E I hf st hg
  subst hP hw hK
  obtain ⟨xs, ys, x, y, hxs, hys, hx, hy⟩ := hg
  obtain ⟨its, rv, p⟩ := tupAt I.hok hxs
  obtain ⟨jts, rw', q⟩ := tupAt I.hok hys
  obtain ⟨u, hu, ru⟩ := rv.get hx
  obtain ⟨v, hv, rvv⟩ := rw'.get hy
  obtain ⟨hz, hti, ⟨u0, v0, hto⟩, hi1, hi2⟩ := st
  have ff : ∀ c ∈ [z, ti, to, it1, it2], H c = none := fun c hc => (hf c hc).1
  have ne : ∀ {c d : Addr} {o : HO}, H c = some o → d ∈ [z, ti, to, it1, it2] → c ≠ d := fun {c d o} e hd q => by rw [q, ff d hd] at e; cases e
  refine zip_item hz hti hto hi1 hi2 p q (v1 := u) (v2 := v) (by simpa using hu) (by simpa using hv) nd ⟨fun m => ?_, fun m => ?_⟩ fun g gz gti gto gi1 gi2 gT gsz gk => ?_
  · simp only [List.mem_cons, List.not_mem_nil, or_false] at m
    rcases m with m | m | m | m <;> exact ne hxs (by simp) m
  · simp only [List.mem_cons, List.not_mem_nil, or_false] at m
    rcases m with m | m | m | m <;> exact ne hys (by simp) m
  refine ⟨.ref s.heap.objs.size, rfl, letGo_zip gz fun g' gz' gs' => ?_⟩
  replace gs' : Heap.SameBut z g g' := gs'
  have hfr : H s.heap.objs.size = none := I.hok.fresh (Nat.le_refl _)
  have hin : ∀ c ∈ [z, ti, to, it1, it2], c < s.heap.objs.size := fun c hc => by
   simp only [List.mem_cons, List.not_mem_nil, or_false] at hc
   rcases hc with rfl | rfl | rfl | rfl | rfl
   · exact Heap.lt_size hz
   · exact Heap.lt_size hti
   · exact Heap.lt_size hto
   · obtain ⟨o, e, _⟩ := hi1; exact Heap.lt_size e
   · obtain ⟨o, e, _⟩ := hi2; exact Heap.lt_size e
  have hTn : ∀ c ∈ [z, ti, to, it1, it2], s.heap.objs.size ≠ c := fun c hc => Nat.ne_of_gt (hin c hc)
  have hk' : ∀ c o, c ∉ [z, to, it1, it2] → s.heap.get? c = some o → g'.get? c = some o := fun c o n e => by
   simp only [List.mem_cons, List.not_mem_nil, or_false, not_or] at n
   exact gs'.extBut c o n.1 (gk c o n.1 n.2.1 n.2.2.1 n.2.2.2 e)
  have hT' : g'.get? s.heap.objs.size = some { cls := .type "tuple", data := .seq #[u, v] } := gs'.extBut _ _ (hTn z (by simp)) gT
  have old1 : ∀ c o, H c = some o → c ∉ [z, to, it1, it2] := fun c o e m => ne e (show c ∈ [z, ti, to, it1, it2] by
   simp only [List.mem_cons, List.not_mem_nil, or_false] at m ⊢
   rcases m with m | m | m | m <;> simp [m]) rfl
  have I1 : Inv X pins σ (upd H s.heap.objs.size (.tup [x, y])) { s with heap := g', toks := s.toks } := by
   refine I.step (g' := s.gens) (d' := s.drawn) (ch := [z, to, it1, it2]) (fun c hc => ?_) (fun c o n1 n2 n3 e _ => hk' c o n3 e)
    (fun c o n1 n2 n3 e _ => ⟨o.slots, hk' c o n3 e⟩) (fun c o n3 e n => ?_) (fun c o n3 e => ⟨o, hk' c o n3 e⟩)
    (fun c zs e => by rw [zqf (zqg e hfr)]; exact e) (fun c o zs e => by rw [zqf (zqg e hfr)]; exact e) (fun c ps e => ⟨#[], by rw [zqf (zqg e hfr), e]; simp⟩) (fun m hm => ?_) (fun c ob e => ?_) I.bare
   · obtain ⟨f0, f1, f2, f3, f4, f5⟩ := hf c (by
      simp only [List.mem_cons, List.not_mem_nil, or_false] at hc ⊢
      rcases hc with hc | hc | hc | hc <;> simp [hc])
     exact ⟨f3, f1, f4, f5⟩
   · rw [zqf (Nat.ne_of_lt (Heap.lt_size e))]; exact n
   · obtain ⟨o, es, ep, hoo, r⟩ := hm
     refine ⟨o, es, ep, hk' _ o (fun m => ?_) hoo, r⟩
     simp only [List.mem_cons, List.not_mem_nil, or_false] at m
     rcases m with m | m | m | m
     · exact (hf z (by simp)).2.1 m.symm
     · exact (hf to (by simp)).2.1 m.symm
     · exact (hf it1 (by simp)).2.1 m.symm
     · exact (hf it2 (by simp)).2.1 m.symm
   · by_cases hcb : c = s.heap.objs.size
     · subst hcb
       rw [upd_same] at e
       cases e
       exact ⟨by show 2 ≤ sizeLine; omega, [u, v], .cons ru (.cons rvv .nil), ⟨_, hT', rfl, _, rfl⟩, fun q hq => by
        have hq : g'.get? s.heap.objs.size = some q := hq
        rw [hT'] at hq
        cases hq
        rfl⟩
     · rw [zqf hcb] at e
       refine (I.hok c ob e).stay (fun d o hc q => ?_) (fun d q => by rw [zqf (zqg q hfr)]; exact q) fun d zs q => by rw [zqf (zqg q hfr)]; exact q
       rcases hc with rfl | hc
       · exact hk' d o (old1 d _ e) q
       · exact hk' d o (old1 d _ hc) q
  refine ⟨.ref s.heap.objs.size, _, I1, rfl, ⟨_, x, y, rfl, hfr, rfl, fun zs e => by rw [hxs] at e; cases e; exact hx, fun zs e => by rw [hys] at e; cases e; exact hy⟩, ⟨gz', gs'.extBut _ _ ?_ gti, ⟨u, v, gs'.extBut _ _ ?_ gto⟩, gi1.extBut gs'.extBut ?_, gi2.extBut gs'.extBut ?_⟩, fun c hc => ?_⟩
  · simp only [List.nodup_cons, List.mem_cons, List.not_mem_nil, or_false, not_or] at nd; exact Ne.symm nd.1.1
  · simp only [List.nodup_cons, List.mem_cons, List.not_mem_nil, or_false, not_or] at nd; exact Ne.symm nd.1.2.1
  · simp only [List.nodup_cons, List.mem_cons, List.not_mem_nil, or_false, not_or] at nd; exact Ne.symm nd.1.2.2.1
  · simp only [List.nodup_cons, List.mem_cons, List.not_mem_nil, or_false, not_or] at nd; exact Ne.symm nd.1.2.2.2
  · rw [zqf (Ne.symm (hTn c hc))]; exact ff c hc
 done := by
  intro X hP hw hK hc i pins s σ H E I hf st hg
  subst hP hw hK
  obtain ⟨xs, ys, hxs, hys, hx, hy⟩ := hg
  obtain ⟨its, rv, p⟩ := tupAt I.hok hxs
  obtain ⟨jts, rw', q⟩ := tupAt I.hok hys
  obtain ⟨hz, hti, ⟨u0, v0, hto⟩, hi1, hi2⟩ := st
  have ff : ∀ c ∈ [z, ti, to, it1, it2], H c = none := fun c hc => (hf c hc).1
  have ne : ∀ {c d : Addr} {o : HO}, H c = some o → d ∈ [z, ti, to, it1, it2] → c ≠ d := fun {c d o} e hd q => by rw [q, ff d hd] at e; cases e
  have l1 := rv.length
  have l2 := rw'.length
  refine zip_end (I.ok.hd hc) hz hti hto hi1 hi2 p q (by simp; omega) (by simp; omega) nd ⟨fun m => ?_, fun m => ?_⟩ fun g gk => ⟨rfl, ?_⟩
  · simp only [List.mem_cons, List.not_mem_nil, or_false] at m
    rcases m with m | m | m | m <;> exact ne hxs (by simp) m
  · simp only [List.mem_cons, List.not_mem_nil, or_false] at m
    rcases m with m | m | m | m <;> exact ne hys (by simp) m
  have hk' : ∀ c o, c ∉ [z, it1, it2] → s.heap.get? c = some o → g.get? c = some o := fun c o n e => by
   simp only [List.mem_cons, List.not_mem_nil, or_false, not_or] at n
   exact gk c o n.1 n.2.1 n.2.2 e
  have old1 : ∀ c o, H c = some o → c ∉ [z, it1, it2] := fun c o e m => ne e (show c ∈ [z, ti, to, it1, it2] by
   simp only [List.mem_cons, List.not_mem_nil, or_false] at m ⊢
   rcases m with m | m | m <;> simp [m]) rfl
  refine I.step (g' := s.gens) (t' := s.toks) (d' := s.drawn) (ch := [z, it1, it2]) (fun c hc => ?_) (fun c o n1 n2 n3 e _ => hk' c o n3 e)
   (fun c o n1 n2 n3 e _ => ⟨o.slots, hk' c o n3 e⟩) (fun _ _ _ _ n => n) (fun c o n3 e => ⟨o, hk' c o n3 e⟩)
   (fun _ _ e => e) (fun _ _ _ e => e) (fun c ps e => ⟨#[], by rw [e]; simp⟩) (fun m hm => ?_) (fun c ob e => ?_) I.bare
  · obtain ⟨f0, f1, f2, f3, f4, f5⟩ := hf c (by
     simp only [List.mem_cons, List.not_mem_nil, or_false] at hc ⊢
     rcases hc with hc | hc | hc <;> simp [hc])
    exact ⟨f3, f1, f4, f5⟩
  · obtain ⟨o, es, ep, hoo, r⟩ := hm
    refine ⟨o, es, ep, hk' _ o (fun m => ?_) hoo, r⟩
    simp only [List.mem_cons, List.not_mem_nil, or_false] at m
    rcases m with m | m | m
    · exact (hf z (by simp)).2.1 m.symm
    · exact (hf it1 (by simp)).2.1 m.symm
    · exact (hf it2 (by simp)).2.1 m.symm
  · refine (I.hok c ob e).stay (fun d o hc q => ?_) (fun d q => q) fun d zs q => q
    rcases hc with rfl | hc
    · exact hk' d o (old1 d _ e) q
    · exact hk' d o (old1 d _ hc) q
 self := fun _ _ _ _ _ st h => by
  obtain ⟨hz, _⟩ := st
  exact iter_zip hz h
noncomputable def zg (h : Heap) (t1 t2 : Addr) : Heap := ((((h.push { cls := .type "tuple_iterator", data := .fields #[.ref t1, .int 0 0] }).push { cls := .type "tuple_iterator", data := .fields #[.ref t2, .int 0 0] }).push { cls := .type "tuple", data := .seq #[.ref h.objs.size, .ref (h.objs.size + 1)] }).push { cls := .type "tuple", data := .seq #[.none, .none] }).push { cls := .type "zip", data := .fields #[.none, .bool false, .bool true, .ref (h.objs.size + 2), .ref (h.objs.size + 3)] }
theorem zg_at (h : Heap) (t1 t2 : Addr) : IsZipT (zg h t1 t2) (h.objs.size + 4) (h.objs.size + 2) (h.objs.size + 3) .none ∧ IsIts (zg h t1 t2) (h.objs.size + 2) h.objs.size (h.objs.size + 1) ∧ (zg h t1 t2).get? (h.objs.size + 3) = some { cls := .type "tuple", data := .seq #[.none, .none] } ∧
  (zg h t1 t2).IsTupleIter h.objs.size t1 0 ∧ (zg h t1 t2).IsTupleIter (h.objs.size + 1) t2 0 ∧ (zg h t1 t2).objs.size = h.objs.size + 5 ∧ ∀ c o, h.get? c = some o → (zg h t1 t2).get? c = some o := by
 have at' : ∀ (g : Heap) (o : Obj) (n : Nat), g.objs.size = n → o.isFreed = false → (g.push o).get? n = some o := fun g o n e f => by rw [← e]; exact Heap.get?_push_size _ f
 have sz : ∀ (g : Heap) (o : Obj) (n : Nat), g.objs.size = n → (g.push o).objs.size = n + 1 := fun g o n e => by rw [Heap.size_push, e]
 refine ⟨?_, ?_, ?_, ?_, ?_, ?_, fun c o e => ?_⟩
 · exact at' _ _ _ (sz _ _ _ (sz _ _ _ (sz _ _ _ (sz _ _ _ rfl)))) rfl
 · exact Heap.get?_push_of_some _ (Heap.get?_push_of_some _ (at' _ _ _ (sz _ _ _ (sz _ _ _ rfl)) rfl))
 · exact Heap.get?_push_of_some _ (at' _ _ _ (sz _ _ _ (sz _ _ _ (sz _ _ _ rfl))) rfl)
 · exact ⟨_, Heap.get?_push_of_some _ (Heap.get?_push_of_some _ (Heap.get?_push_of_some _ (Heap.get?_push_of_some _ (at' _ _ _ rfl rfl)))), rfl, rfl⟩
 · exact ⟨_, Heap.get?_push_of_some _ (Heap.get?_push_of_some _ (Heap.get?_push_of_some _ (at' _ _ _ (sz _ _ _ rfl) rfl))), rfl, rfl⟩
 · exact sz _ _ _ (sz _ _ _ (sz _ _ _ (sz _ _ _ (sz _ _ _ rfl))))
 · exact Heap.get?_push_of_some _ (Heap.get?_push_of_some _ (Heap.get?_push_of_some _ (Heap.get?_push_of_some _ (Heap.get?_push_of_some _ e))))
section
variable {prog : Program} {w : World} {A : Around} {E : Value → Shared → Prop} {s : Shared}
theorem newZipT (t1 t2 : Addr) (a1 a2 : Array Value) (n1 n2 : Nat) (d1 d2 : Option Addr) (l1 l2 : Array (Option Value)) :
  Meets (Builtin.«zip.__new__» ⟨[.type "zip", .ref t1, .ref t2], [("strict", .bool true)]⟩) (fun _ R s => s.heap.get? t1 = some { cls := .type "tuple", dict := d1, data := .seq a1 n1, slots := l1 } ∧ s.heap.get? t2 = some { cls := .type "tuple", dict := d2, data := .seq a2 n2, slots := l2 } ∧
   R (.ok (.ret (.ref (s.heap.objs.size + 4)))) { s with heap := zg s.heap t1 t2 }) :=
 .of_wp fun prog w A R s h => by
  obtain ⟨hp, g, d, tk, os⟩ := s
  obtain ⟨hl1, hl2, h⟩ := h
  have hsub := sub_zip
  have hL1 : Heap.IsTuple (Shared.heap ⟨hp, g, d, tk, os⟩) t1 a1 := ⟨_, hl1, rfl, n1, rfl⟩
  have hL2 : Heap.IsTuple (Shared.heap ⟨hp.push { cls := .type "tuple_iterator", data := .fields #[.ref t1, .int 0 0] }, g, d, tk, os⟩) t2 a2 := ⟨_, Heap.get?_push_of_some _ hl2, rfl, n2, rfl⟩
  wp_walk using wpAny_pyIter_tuple hL1, wpAny_pyIter_tuple hL2
  refine ⟨_, rfl, ?_⟩
  simp only [zg, Heap.size_push, Nat.add_assoc, Nat.reduceAdd] at h ⊢
  exact h
theorem argsZ (a b c : Value) : argsOk "object.__init__" ⟨[a, b, c], [("strict", .bool true)]⟩ := by unfold argsOk; kernel_rfl
theorem call_zipT {t1 t2 : Addr} {a1 a2 : Array Value} {Q : Value → Shared → Prop} (h1 : s.heap.IsTuple t1 a1) (h2 : s.heap.IsTuple t2 a2)
  (k : ∀ g, IsZipT g (s.heap.objs.size + 4) (s.heap.objs.size + 2) (s.heap.objs.size + 3) .none → IsIts g (s.heap.objs.size + 2) s.heap.objs.size (s.heap.objs.size + 1) → g.get? (s.heap.objs.size + 3) = some { cls := .type "tuple", data := .seq #[.none, .none] } →
   g.IsTupleIter s.heap.objs.size t1 0 → g.IsTupleIter (s.heap.objs.size + 1) t2 0 → g.objs.size = s.heap.objs.size + 5 → (∀ c o, s.heap.get? c = some o → g.get? c = some o) → Q (.ref (s.heap.objs.size + 4)) { s with heap := g }) :
  wpAny (model prog w) A (call (.type "zip") [.ref t1, .ref t2] [("strict", .bool true)]) Q E s := by
 have ft := PySem.F.called_zip
 obtain ⟨c, tl, hmro⟩ := ft.mro
 have hmade := ft.made
 have hsub := ft.sub
 have hct : checkTypeCall "zip" ⟨[.ref t1, .ref t2], [("strict", .bool true)]⟩ = pure () := by kernel_rfl
 have hcn : checkBuiltinCall "zip.__new__" ⟨[.type "zip", .ref t1, .ref t2], [("strict", .bool true)]⟩ = pure () := by kernel_rfl
 obtain ⟨⟨c1, dc1, dt1, sl1⟩, hl1, hc1, n1, hd1⟩ := h1
 obtain ⟨⟨c2, dc2, dt2, sl2⟩, hl2, hc2, n2, hd2⟩ := h2
 replace hc1 : c1 = .type "tuple" := hc1
 replace hc2 : c2 = .type "tuple" := hc2
 replace hd1 : dt1 = .seq a1 n1 := hd1
 replace hd2 : dt2 = .seq a2 n2 := hd2
 subst hc1 hc2 hd1 hd2
 refine wpAny_call (codeAny_of_tree ?_)
 show wpAny _ _ (callAny (.type "zip") _) _ _ _
 refine wpAny_pure ⟨Code.quiet_builtin _ (by decide +kernel), codeAny_builtin PySem.F.entry_type_call ?_⟩
 rw [Around.under_plain (weight_type_call_type "zip" _ _) (units_type_call_type "zip" _ _)]
 have hq1 := ft.notType
 have hq2 := ft.canCreate
 repeat any_goals first | assumption | wp_step
 refine codeAny_mono (codeAny_call_builtin ft.plain PySem.F.entry_zip_new (wpAny_of_eq hcn (newZipT t1 t2 a1 a2 n1 n2 dc1 dc2 sl1 sl2 prog w A.in1 (wants (fun obj s₁ => obj = .ref (s.heap.objs.size + 4) ∧ s₁ = { s with heap := zg s.heap t1 t2 }) E) s ⟨hl1, hl2, ⟨rfl, rfl⟩⟩))) fun r s₁ hr => ?_
 cases r with
 | error e => exact hr
 | ok fl =>
   cases fl with
   | ret obj =>
     obtain ⟨rfl, rfl⟩ := (show obj = .ref (s.heap.objs.size + 4) ∧ s₁ = { s with heap := zg s.heap t1 t2 } from hr)
     obtain ⟨f1, f2, f3, f4, f5, f6, f7⟩ := zg_at s.heap t1 t2
     have hT : (⟨zg s.heap t1 t2, s.gens, s.drawn, s.toks, s.os⟩ : Shared).TypeIs (.ref (s.heap.objs.size + 4)) "zip" := ⟨_, f1, rfl⟩
     have hli := ft.init.lookup
     have hbi := ft.init.bind (.ref (s.heap.objs.size + 4))
     repeat any_goals first | assumption | wp_step
     refine codeAny_mono (codeAny_call_builtin ft.init.plain PySem.F.entry_object_init (ft.init.check _ _ _ _ _ _ _ _ hT (argsZ _ _ _) ?_)) (R := wants (fun r s₂ => r = .none ∧ s₂ = ⟨zg s.heap t1 t2, s.gens, s.drawn, s.toks, s.os⟩) E) fun r₂ s₂ hr₂ => ?_
     · have hne : (some "zip.__new__" != some "object.__new__") = true := by decide
       repeat any_goals first | assumption | wp_step
       exact ⟨rfl, rfl⟩
     cases r₂ with
     | error e => exact hr₂
     | ok fl₂ =>
       cases fl₂ with
       | ret r =>
         obtain ⟨rfl, rfl⟩ := (show r = .none ∧ s₂ = _ from hr₂)
         repeat any_goals first | assumption | wp_step
         exact k _ f1 f2 f3 f4 f5 f6 f7
       | _ => exact hr₂.elim
   | _ => exact hr.elim
end
theorem boot_zip : bootBuiltins "zip" = some (.type "zip") := by decide +kernel
section
variable {X : Cx}
noncomputable def iZip (ta : TA) : TI := fun σ H R => ta σ H fun vs H1 => ∃ a b xs ys, vs = [.ref a, .ref b] ∧ H1 a = some (.tup xs) ∧ H1 b = some (.tup ys) ∧ R (Itz a b) H1
theorem pi_zip {elts : List Expr} {k1 kc} {tpos kp kpos : Pos} {a b : Expr} {ta : TA} {p pos : Pos} (hg : Gl X "zip") (hm : X.mg "zip" = none) (ha : PA X [a, b] ta) (hs : starEach [a, b] X.env = (false, eval a X.env) :: starEach [b] X.env := by rfl) (hpl : ((backTo pos (starEach [a, b] X.env)).any (·.1)) = false := by rfl) :
  PI X (.Tuple elts k1 tpos) (.Call (.Name "zip" p) [a, b] [⟨some "strict", .Constant (.bool true) kc kp, kpos⟩] pos) (iZip ta) := by
 intro pins s σ H R I h
 refine wpAny_Call_Name_kw (ld_blt I hg hm boot_zip ?_)
 refine PySem.W.callWith_of (P := fun _ => True) (by rw [hpl]; rfl) (fun h _ => ⟨.machine, .inr (.inl rfl), ?_⟩) ?_
 · exact fun A Q E s _ q => (show wpAny _ A (pure Keeper.machine) Q E s from wpAny_pure q)
 have e0 : backTo pos (starEach [a, b] X.env) = (false, eval a X.env) :: backTo pos (starEach [b] X.env) := by rw [hs]; rfl
 rw [e0]
 refine evalArgs_kwB rfl ?_
 rw [← e0]
 refine thn (ha pos pins s σ H _ I h) fun us s1 ⟨vs, H1, I1, r1, q1⟩ => ?_
 obtain ⟨t1, t2, xs, ys, rfl, hx, hy, q⟩ := q1
 refine kws_cons (Constant_bool (kws_nil ⟨trivial, ?_⟩))
 cases r1 with
 | cons ra rr =>
   cases rr with
   | cons rb rn =>
     cases rn
     cases ra
     cases rb
     obtain ⟨its, rv, p1⟩ := tupAt I1.hok hx
     obtain ⟨jts, rw', p2⟩ := tupAt I1.hok hy
     refine call_zipT p1 p2 fun g f1 f2 f3 f4 f5 f6 f7 => ?_
     refine iter_zip f1 ?_
     refine ⟨s1.heap.objs.size + 4, [s1.heap.objs.size + 4, s1.heap.objs.size + 2, s1.heap.objs.size + 3, s1.heap.objs.size, s1.heap.objs.size + 1], _, _, H1, rfl, I1.kept (t' := s1.toks) f7, turn_zip t1 t2 _ _ _ _ _ (by simp) (by rw [sizeLine_eq]; omega), ⟨f1, f2, ⟨_, _, f3⟩, f4, f5⟩, fun c hc => ?_, q⟩
     have hl : s1.heap.objs.size ≤ c := by
      simp only [List.mem_cons, List.not_mem_nil, or_false] at hc
      rcases hc with rfl | rfl | rfl | rfl | rfl <;> omega
     exact I1.fpOk hl (I1.hok.fresh hl)
end
section
variable {a b : Addr} {xs zs : List V} {g : TG} {tc : TT} {te : TE} {k : Nat} {cap : List Nat} {σ : St} {H : Hp} {Q : VK}
theorem lc_zip (hn : xs.length = zs.length) (Pv : Nat → List V → Hp → Prop) (h0 : Pv 0 [] H) (hl : ∀ i ys H, i ≤ xs.length → Pv i ys H → H a = some (.tup xs) ∧ H b = some (.tup zs) ∧ ys.length ≤ sizeLine)
  (hs : ∀ i x z ys H p, xs[i]? = some x → zs[i]? = some z → Pv i ys H → H p = none → g (.ref p) (capσ k cap σ) (upd H p (.tup [x, z])) fun σ2 H2 => tc σ2 H2 fun b H3 => if b = true then te σ2 H3 fun y H4 => Pv (i + 1) (ys ++ [y]) H4 else Pv (i + 1) ys H3)
  (hd : ∀ ys H, Pv xs.length ys H → ∀ p, H p = none → Q (.ref p) (upd H p (.lst ys))) : LcEnd (Itz a b) g tc te k cap σ H Q := by
 refine ⟨fun i m ys H => m = xs.length - i ∧ i ≤ xs.length ∧ Pv i ys H, ⟨xs.length, by simp, Nat.zero_le _, h0⟩, ?_⟩
 rintro i m ys H ⟨rfl, hi, p⟩
 obtain ⟨q1, q2, hz⟩ := hl i ys H hi p
 by_cases hlt : i < xs.length
 · have hlz : i < zs.length := by omega
   refine .inr ⟨⟨xs, zs, xs[i], zs[i], q1, q2, by simp [hlt], by simp [hlz]⟩, hz, Pv (i + 1), fun ys' H' p' => ⟨xs.length - (i + 1), by omega, rfl, hlt, p'⟩, fun x H' y => ?_⟩
   obtain ⟨p', x', y', rfl, hn', rfl, hx, hy⟩ := y
   exact hs i x' y' ys H p' (hx xs q1) (hy zs q2) p hn'
 · have e : i = xs.length := by omega
   subst e
   exact .inl ⟨⟨xs, zs, q1, q2, Nat.le_refl _, by omega⟩, hz, hd ys H p⟩
end
section
variable {X : Cx}
theorem argBest_le (bt : Nat → Nat → Bool) : ∀ k, argBest bt k ≤ k
 | 0 => Nat.le_refl 0
 | k + 1 => by
   have := argBest_le bt k
   show (if bt (k + 1) (argBest bt k) then k + 1 else argBest bt k) ≤ k + 1
   split <;> omega
theorem argBest_least (f : Nat → Int) : ∀ k i, i ≤ k → f (argBest (fun i j => decide (f i < f j)) k) ≤ f i
 | 0, i, h => by
   have : i = 0 := by omega
   subst this
   exact Int.le_refl _
 | k + 1, i, h => by
   have ih := argBest_least f k
   have e : argBest (fun i j => decide (f i < f j)) (k + 1) = if decide (f (k + 1) < f (argBest (fun i j => decide (f i < f j)) k)) = true then k + 1 else argBest (fun i j => decide (f i < f j)) k := rfl
   rw [e]
   split
   · rename_i c
     have c := of_decide_eq_true c
     by_cases hi : i = k + 1
     · subst hi; exact Int.le_refl _
     · have := ih i (by omega); omega
   · rename_i c
     have c : ¬ (f (k + 1) < f (argBest (fun i j => decide (f i < f j)) k)) := fun z => c (decide_eq_true z)
     by_cases hi : i = k + 1
     · subst hi; omega
     · exact ih i (by omega)
theorem call_minL (hc : X.calm = true) : CallR X (.builtin "min") (fun xs H Q => ∃ (a : Addr) (ns : List Int), xs = [.ref a] ∧ SqL X.K H a (ns.map V.int) ∧ ns ≠ [] ∧ ∀ m, m ∈ ns → (∀ n ∈ ns, m ≤ n) → Q (.int m) H) := by
 intro pins s σ H xs us Q I r h
 obtain ⟨a, ns, rfl, hq, h0, q⟩ := h
 obtain ⟨u, rfl, rx⟩ := vals1 r
 cases rx
 obtain ⟨its, rv, p, hz⟩ := I.list hq
 have hlt : a < s.heap.objs.size := by obtain ⟨_, e, _⟩ := p.isList; exact Heap.lt_size e
 have hl := rv.length
 rw [List.length_map] at hl
 have hn0 : 0 < ns.length := by
  cases ns with
  | nil => exact absurd rfl h0
  | cons => simp
 have val : ∀ i v, its[i]? = some v → ∃ t, v = Value.int (ns.getD i 0) t := fun i v hv => by
  have hi : i < its.length := (List.getElem?_eq_some_iff.mp hv).1
  obtain ⟨u, hu, ru⟩ := rv.get (i := i) (x := V.int (ns.getD i 0)) (by rw [List.getElem?_map, List.getD_eq_getElem?_getD, List.getElem?_eq_getElem (by omega)]; rfl)
  rw [hu] at hv
  cases hv
  exact ru
 refine call_min_walk (wpAny_pyIter_list p.isList ?_)
 refine ⟨s.heap.objs.size, _, _, _, _, _, fun i j => decide (ns.getD i 0 < ns.getD j 0), rfl, Walks.list (A := X.A.in1) (show X.A.in1.handled = none from I.ok.hd hc) s.heap.objs.size a (Nat.ne_of_lt hlt) its.toArray, ⟨⟨_, Heap.get?_push_size _ rfl, rfl, rfl⟩, p.isList.push _⟩, ?_, by rw [List.size_toArray]; omega, ?_, fun v h' tk hv hk => ?_⟩
 · intro b hb
   simp only [List.mem_cons, List.not_mem_nil, or_false, Heap.push] at hb ⊢
   rcases hb with rfl | rfl
   · simp
   · simp only [Array.size_push]; exact Nat.lt_succ_of_lt hlt
 · intro i j vi vj s' Q' E' hi hj hQ'
   obtain ⟨t, rfl⟩ := val i vi (by simpa using hi)
   obtain ⟨t', rfl⟩ := val j vj (by simpa using hj)
   exact HT.rcLt_int _ _ _ _ _ _ _ _ _ _ hQ'
 · have hsz : its.toArray.size = ns.length := by rw [List.size_toArray]; omega
   rw [hsz] at hv
   obtain ⟨t, rfl⟩ := val (argBest (fun i j => decide (ns.getD i 0 < ns.getD j 0)) (ns.length - 1)) v (by rw [List.getElem?_toArray] at hv; exact hv)
   clear hv
   generalize hm : argBest (fun i j => decide (ns.getD i 0 < ns.getD j 0)) (ns.length - 1) = m
   have hm1 : m ≤ ns.length - 1 := by rw [← hm]; exact argBest_le _ _
   have hml : m < ns.length := by omega
   refine ⟨.int (ns.getD m 0), H, I.kept fun b o e => hk b o (fun hb => ?_) (Heap.get?_push_of_some _ e), ⟨_, rfl⟩, q _ ?_ fun n hn => ?_⟩
   · have z : b = s.heap.objs.size := by simpa using hb
     exact absurd (Heap.lt_size e) (by rw [z]; exact Nat.lt_irrefl _)
   · rw [List.getD_eq_getElem?_getD, List.getElem?_eq_getElem hml]; exact List.getElem_mem hml
   · obtain ⟨i, hi, rfl⟩ := List.mem_iff_getElem.mp hn
     have := argBest_least (fun i => ns.getD i 0) (ns.length - 1) i (by omega)
     rw [hm] at this
     have e : ns.getD i 0 = ns[i] := by rw [List.getD_eq_getElem?_getD, List.getElem?_eq_getElem hi]; rfl
     rw [← e]; exact this
noncomputable def rCntT : V → List V → Hp → VK → Prop := fun x ys H Q => ∃ (ts : List T) (u : T) (y : V), ys = [y] ∧ Is H (.tup ts) x ∧ Is H u y ∧ (∀ t ∈ ts, (toD t).canLay0 = true) ∧ (toD u).canLay0 = true ∧ (toD u).depth ≤ 20 ∧ Q (.int ((ts.countP fun t => PyData.eqv (toD t) (toD u) : Nat) : Int)) H
theorem cnt_aux (A : Around) (s : Shared) (hu : A.units + 40 < cLine) {x : Value} {d : PyData} {bs : List Addr} (rb : Reads s.heap x d bs) (lb : d.canLay0 = true) (db : d.depth ≤ 20) {e : Value → Bool} (he : ∀ u t as, Reads s.heap u (toD t) as → (toD t).canLay0 = true → e u = PyData.eqv (toD t) d) : ∀ {us : List Value} {ts : List T} {as : List Addr}, ReadsAll s.heap us (toDs ts) as → PyData.canLayAll0 (toDs ts) = true →
  (∀ u ∈ us, SeqAt.EqAt A s u x (e u)) ∧ us.countP e = ts.countP fun t => PyData.eqv (toD t) d
 | us, [], as, r, _ => by
   unfold toDs at r
   cases r
   exact ⟨fun u h => (by simp at h), rfl⟩
 | us, t :: ts, as, r, l => by
   unfold toDs at r l
   have l : (toD t).canLay0 = true ∧ PyData.canLayAll0 (toDs ts) = true := by simpa [PyData.canLayAll0] using l
   cases r with
   | cons r1 r2 =>
     obtain ⟨h1, h2⟩ := cnt_aux A s hu rb lb db he r2 l.2
     have e1 := he _ _ _ r1 l.1
     refine ⟨fun u hm => ?_, ?_⟩
     · rcases List.mem_cons.mp hm with rfl | hm
       · rw [e1]
         exact SeqAt.eqAt_reads _ _ A s _ _ _ _ r1 rb l.1 lb (by omega)
       · exact h1 u hm
     · rw [List.countP_cons, List.countP_cons, h2, e1]
open Classical in
theorem mt_countT (hu : X.A.units + 64 < cLine) : MtR X "tuple.count" rCntT := by
 intro pins s σ H x xs v us Q I rx rv h
 obtain ⟨ts, u, y, rfl, hx, hy, lts, lu, du, q⟩ := h
 obtain ⟨a, zs, rfl, ha, hz⟩ := hx
 cases (show v = Value.ref a from rx)
 obtain ⟨u', rfl, ru⟩ := rv.one
 obtain ⟨bs, rb⟩ := zxd I lu hy ru
 obtain ⟨its, r, ht, hzl⟩ := I.tuple (SqT.of ha)
 have la : PyData.canLayAll0 (toDs ts) = true := by
  clear hz q
  induction ts with
  | nil => rfl
  | cons t ts ih =>
    unfold toDs
    simp only [PyData.canLayAll0, Bool.and_eq_true]
    exact ⟨lts t List.mem_cons_self, ih fun t' h => lts t' (List.mem_cons_of_mem _ h)⟩
 obtain ⟨as, ra⟩ := readsAll_is I la hz r
 let e : Value → Bool := fun z => decide (∃ t as, Reads s.heap z (toD t) as ∧ (toD t).canLay0 = true ∧ PyData.eqv (toD t) (toD u) = true)
 have he : ∀ z t as, Reads s.heap z (toD t) as → (toD t).canLay0 = true → e z = PyData.eqv (toD t) (toD u) := fun z t as rz lz => by
  rw [Bool.eq_iff_iff]
  refine ⟨fun h => ?_, fun h => decide_eq_true ⟨t, as, rz, lz, h⟩⟩
  obtain ⟨t', as', rz', lz', h'⟩ := of_decide_eq_true h
  rw [SeqAt.Reads.unique _ _ _ _ _ lz rz rz']
  exact h'
 obtain ⟨o, eo, hc, n, hd⟩ := ht
 have eo' : s.heap.get? a = some { cls := .type "tuple", dict := o.dict, data := .seq its.toArray n, slots := o.slots } := by rw [eo, ← hc, ← hd]
 have hun : X.A.in1.units = X.A.units + 1 := rfl
 obtain ⟨c1, c2⟩ := cnt_aux X.A.in1 s (by omega) rb lu du he ra la
 refine call_meets PySem.F.slot_tuple_count ⟨_, eo', rfl⟩ PySem.F.entry_tuple_count (PySem.F.args_tuple_count_2 _ _) (SeqAt.tuple_countAt a its.toArray n o.dict o.slots u' e) ⟨eo', fun z hz' => c1 z (by simpa using hz'), ?_⟩
 rw [List.toList_toArray, c2]
 exact ⟨.int _, H, I.tok _, ⟨_, rfl⟩, q⟩
end
section
variable {X : Cx} {o e : Expr} {es : List Expr} {to : TE} {t : TA} {name : Str} {apos cpos : Pos} {id : String} {r : V → List V → Hp → VK → Prop}
noncomputable def tBMt (r : V → List V → Hp → VK → Prop) (to : TE) (t : TA) : TE := fun σ H Q => to σ H fun x H1 => (∃ p xs, x = .ref p ∧ H1 p = some (.tup xs)) ∧ t σ H1 fun xs H2 => r x xs H2 Q
theorem pe_bmT (slot : Slot "tuple" name id) (hty : typeOf (.builtin id) = pure (.type "method_descriptor")) (hm : MtR X id r) (ho : PE X o to) (ha : PA X (e :: es) t)
  (hbase : attributeBase o name X.env (eval o X.env) = eval o X.env := by rfl)
  (hfew : ((backTo cpos (starEach (e :: es) X.env)).all (fun x => !x.1) && (backToKw cpos (keywordEach [] X.env)).all (fun x => x.1.isSome)
   && decide ((e :: es).length + ([] : List Keyword).length + (if ([] : List Keyword).isEmpty then 0 else 1) < 30)) = true := by rfl)
  (hline : (apos.endLine == cpos.line) = true := by rfl) (hs : starEach (e :: es) X.env = (false, eval e X.env) :: starEach es X.env := by rfl) (hplain : (backTo cpos (starEach es X.env)).any (·.1) = false := by rfl) :
  PE X (.Call (.Attribute o name apos) (e :: es) [] cpos) (tBMt r to t) := by
 intro pins s σ H Q I h
 refine wpAny_Call_method_late hbase hfew hline rfl (thn (ho pins s σ H _ I h) fun v s1 ⟨x, H1, I1, r1, ty, q1⟩ => ?_)
 obtain ⟨p, xs, rfl, hp⟩ := ty
 cases r1
 obtain ⟨_, its, _, ⟨ob, eo, hc, n, hd⟩, nd⟩ := (show ObjOk X.prog X.w H1 s1.heap p (.tup xs) from I1.hok p _ hp)
 refine ⟨"tuple", id, PySem.F.plainAttrs_tuple, slot, hty, ⟨ob, eo, hc⟩, fun a e => ?_, ?_⟩
 · cases e
   exact ⟨ob, eo, nd ob eo⟩
 have hA := ha cpos pins s1 σ H1 _ I1 q1
 rw [hs] at hA ⊢
 refine Calls.callWith_builtin (by show (false || (backTo cpos (starEach es X.env)).any (·.1)) = false; rw [hplain] <;> rfl) (Calls.evalArgs_plain ?_)
 exact thn hA fun us s2 ⟨vs, H2, I2, r2, q2⟩ => hm pins s2 σ H2 (.ref p) vs (.ref p) us Q I2 rfl r2 q2
end
noncomputable def rTrR (f : Bool → Bool) : R2 := fun x y H Q => ∃ t u, Is H t x ∧ Is H u y ∧ (toD t).canLay0 = true ∧ (toD u).canLay0 = true ∧ (toD u).depth ≤ 20 ∧ Q (.bl (f (PyData.eqv (toD t) (toD u)))) H
section
variable {X : Cx}
theorem op_neTrR (hu : X.A.units + 64 < cLine) : OpR X (compareOp .NotEq) (rTrR (!·)) := by
 intro pins s σ H x y v u Q I rx ry h
 obtain ⟨t, t', h1, h2, l1, l2, d, q⟩ := h
 obtain ⟨as, ra⟩ := zxd I l1 h1 rx
 obtain ⟨bs, rb⟩ := zxd I l2 h2 ry
 exact SeqAt.compareNe_reads ra rb l1 l2 (by omega) ⟨.bl _, H, I, rfl, q⟩
end
end L2
namespace L2
open PySem PySem.Spec PyProof.Rows PySem.W
section
variable {n : Nat} {lt : Nat → Nat → Bool}
end
section
variable {prog : Program} {w : World} {A : Around} {E : Value → Shared → Prop} {s : Shared} {h0 : Heap} {vs : List Value} {κ : SortKind} {lt : Nat → Nat → Bool}
end
noncomputable def tI (g : List Int) : T := .tup (iT g)
section
variable {prog : Program} {w : World} {A : Around} {E : Value → Shared → Prop} {s : Shared}
end
section
variable {X : Cx}
end
end L2
namespace L2
open PySem PySem.Spec PyProof.Rows
section
variable {X : Cx}
open Classical in
end
section
variable {prog : Program} {w : World} {A : Around} {E : Value → Shared → Prop} {s : Shared}
end
section
variable {X : Cx}
end
section
variable {prog : Program} {w : World} {A : Around} {E : Value → Shared → Prop} {s : Shared}
end
section
variable {X : Cx}
end
noncomputable def tLstR (t : TA) : TE := fun σ H Q => t σ H fun xs H1 => xs.length ≤ 1000 ∧ ∀ p H', Same H1 H' → H1 p = none → H' p = some (.lst xs) → Q (.ref p) H'
noncomputable def tTupR (t : TA) : TE := fun σ H Q => t σ H fun xs H1 => xs.length ≤ 1000 ∧ ∀ p H', Same H1 H' → H1 p = none → H' p = some (.tup xs) → Q (.ref p) H'
section
variable {X : Cx}
theorem zxo {es : List Expr} {t : TA} {pos : Pos} (h : PA X es t) : PE X (.List es pos) (tLstR t) := by
 intro pins s σ H Q I hq
 refine wpAny_List_spliced (thn (h pos pins s σ H _ I hq) fun us s1 ⟨xs, H1, I1, r, z, q⟩ => ⟨by rw [← r.length]; exact zqr z, ?_⟩)
 have hf : H1 s1.heap.objs.size = none := I1.hok.fresh (Nat.le_refl _)
 exact ⟨.ref s1.heap.objs.size, upd H1 s1.heap.objs.size (.lst xs), I1.laid (t' := s1.toks) (fun b u e => Heap.get?_push_of_some _ e) (Nat.le_refl _) ⟨zqr z, us, 0, r, Heap.get?_push_size _ rfl⟩, rfl, q _ _ (Same.new hf _) hf upd_same⟩
theorem zxg {es : List Expr} {t : TA} {x1} {pos : Pos} (h : PA X es t) : PE X (.Tuple es x1 pos) (tTupR t) := by
 intro pins s σ H Q I hq
 refine wpAny_Tuple_spliced (thn (h pos pins s σ H _ I hq) fun us s1 ⟨xs, H1, I1, r, z, q⟩ => ⟨by rw [← r.length]; exact zqr z, ?_⟩)
 have hf : H1 s1.heap.objs.size = none := I1.hok.fresh (Nat.le_refl _)
 exact ⟨.ref s1.heap.objs.size, upd H1 s1.heap.objs.size (.tup xs), I1.laid (t' := s1.toks) (fun b u e => Heap.get?_push_of_some _ e) (Nat.le_refl _) ⟨zqr z, us, r, IsTup.new _ _, NoD.push⟩, rfl, q _ _ (Same.new hf _) hf upd_same⟩
end
end L2
namespace L2
open PySem PySem.Spec PyProof.Rows PySem.W
structure Ord (n : Nat) (lt : Nat → Nat → Bool) : Prop where
 irr : ∀ i, lt i i = false
 tr : ∀ i j k, lt i j = true → lt j k = true → lt i k = true
 tot : ∀ i j, i < n → j < n → i ≠ j → lt i j = true ∨ lt j i = true
section
variable {n : Nat} {lt : Nat → Nat → Bool}
end
section
variable {X : Cx}
end
end L2
namespace L2
open PySem PySem.Spec PyProof.Rows
section
variable {X : Cx}
end
end L2
namespace L2
open PySem PySem.Spec PyProof.Rows PySem.W
noncomputable def EntAt (h : Heap) (d : Addr) (es : Array DictEntry) (ep : Nat) : Prop := ∃ o, h.get? d = some o ∧ o.ExactDict ∧ o.data = .dict es ep
section
variable {prog : Program} {w : World} {A : Around} {E : Value → Shared → Prop} {s : Shared} {d it : Addr} {es : Array DictEntry} {ep i : Nat}
theorem EntAt.ty (x : EntAt s.heap d es ep) : s.TypeIs (.ref d) "dict" := let ⟨o, ho, hc, _⟩ := x; ⟨o, ho, hc.1⟩
theorem EntAt.at {h h' : Heap} (x : EntAt h d es ep) (k : ∀ o, h.get? d = some o → h'.get? d = some o) : EntAt h' d es ep := let ⟨o, ho, r⟩ := x; ⟨o, k o ho, r⟩
theorem EntAt.lt {h : Heap} (x : EntAt h d es ep) : d < h.objs.size := let ⟨_, ho, _⟩ := x; Heap.lt_size ho
theorem ent_iter {Q : Value → Shared → Prop} (hd : (d == sysModules) = false) (x : EntAt s.heap d es ep)
  (hQ : Q (.ref s.heap.objs.size) { s with heap := s.heap.push { cls := .type "dict_keyiterator", data := .fields #[.ref d, .int 0 0, .int es.size 0, .int ep 0] } }) : wpAny (model prog w) A (pyIter (.ref d)) Q E s := by
 have hT := x.ty
 obtain ⟨o, ho, hc, hdat⟩ := id x
 refine wpAny_pyIter_slot hT F.slot_dict_iter (wpAny_call_entry F.slot_dict_iter hT F.entry_dict_iter ?_ (F.args_dict_iter_1 _))
 unfold Builtin.«dict.__iter__»
 refine wpAny_bind ?_
 unfold Builtin.Dict.dictSlotNone
 refine wpAny_bind (wpAny_notOrdered_dict hT (show wpAny _ _ (pure (Value.ref d)) _ _ s from wpAny_pure ?_))
 show wpAny _ _ (Builtin.Dict.showsAll d >>= _) _ _ s
 unfold Builtin.Dict.showsAll
 rw [if_neg (by rw [hd]; exact Bool.false_ne_true)]
 refine wpAny_bind (wpAny_pure (wpAny_bind (wpAny_dictEntries ho hdat (wpAny_bind (wpAny_dictEpoch ho hdat ?_)))))
 refine wpAny_bind (wpAny_newObj_type (wpAny_pure ⟨_, rfl, "dict_keyiterator", _, ⟨_, Heap.get?_push_size _ rfl, rfl⟩, F.slot_dict_keyiterator_next.lookup, ?_⟩))
 simpa [rawInt] using hQ
theorem ent_next {Q : Option Value → Shared → Prop} (hit : s.heap.IsKeyIter it d i es.size ep) (x : EntAt s.heap d es ep) (hi : i < es.size)
  (hQ : ∀ h', h'.IsKeyIter it d (i + 1) es.size ep → Heap.SameBut it s.heap h' → Q (some es[i].key) { s with heap := h' }) : wpAny (model prog w) A (pyNext (.ref it)) Q E s := by
 obtain ⟨oi, ho, hc, hd⟩ := id hit
 obtain ⟨od, hod, hcd, hdd⟩ := id x
 unfold pyNext
 refine wpAny_bind (wpAny_attempt (wpAny_callSpecial?_slot (name := Str.ofString "__next__") hit.typeIs F.slot_dict_keyiterator_next
  (wpAny_call_entry F.slot_dict_keyiterator_next hit.typeIs F.entry_dict_keyiterator_next (wpAny_bind (wpAny_pure (wpAny_bind (wpAny_bind ?_)))) (F.args_dict_keyiterator_next_1 _))))
 first | refine wpAny_bind (wpAny_typeNameOfWhole_keyiter hit.typeIs (wpAny_pure ?_)) | refine wpAny_bind (wpAny_typeNameOf_keyiter hit.typeIs (wpAny_pure ?_))
 refine wpAny_bind (wpAny_fieldsOf ho hd ?_)
 simp only [show Builtin.Dict_items.ownsTuple "dict_keyiterator" = false from by decide, Bool.false_eq_true, if_false]
 show wpAny _ _ (if (Value.ref d == Value.none) = true then _ else _) _ _ s
 rw [if_neg (show ¬ ((Value.ref d == Value.none) = true) from Bool.false_ne_true)]
 refine wpAny_bind (wpAny_pure (wpAny_bind (wpAny_dictEntries hod hdd ?_)))
 rw [if_neg (by simp)]
 refine wpAny_bind (wpAny_pure (wpAny_bind (wpAny_dictEpoch hod hdd ?_)))
 rw [if_neg (by simp)]
 refine wpAny_pure ?_
 simp only [show ¬ ((i : Int) < 0) from by omega, if_false, Int.toNat_natCast, Array.getElem?_eq_getElem hi]
 refine wpAny_bind ?_
 first | refine wpAny_bind (wpAny_typeNameOfWhole_keyiter hit.typeIs (wpAny_pure ?_)) | refine wpAny_bind (wpAny_typeNameOf_keyiter hit.typeIs (wpAny_pure ?_))
 refine wpAny_bind (wpAny_isOneOf_keyiter hit.typeIs ?_)
 show wpAny _ _ (setField (.ref it) 1 (rawInt ((i : Int) + 1)) >>= _) _ _ s
 refine wpAny_bind (wpAny_setField ho hd (by simp) ?_)
 have h2 : (s.heap.update it (Obj.mapFields (·.setIfInBounds 1 (rawInt ((i : Int) + 1))))).IsKeyIter it d (i + 1) es.size ep :=
  ⟨_, Heap.get?_update_self _ ho (Obj.isFreed_of_fields (Obj.data_mapFields hd _)), (Obj.cls_mapFields ..).trans hc, by rw [Obj.data_mapFields hd]; simp [rawInt]⟩
 refine wpAny_bind (wpAny_holding (wpAny_bind (wpAny_isOneOf_keyiter (s := { s with heap := s.heap.update it (Obj.mapFields (·.setIfInBounds 1 (rawInt ((i : Int) + 1)))) }) h2.typeIs ?_)))
 show wpAny _ _ (pure es[i].key) _ _ _
 exact wpAny_pure (wpAny_pure ⟨_, rfl, wpAny_pure (hQ _ h2 (Heap.SameBut.update ..))⟩)
theorem ent_end {Q : Option Value → Shared → Prop} (hh : A.handled = none) (hit : s.heap.IsKeyIter it d i es.size ep) (x : EntAt s.heap d es ep) (hi : es.size ≤ i)
  (hQ : ∀ h', Heap.ExtBut it s.heap h' → Q none { s with heap := h' }) : wpAny (model prog w) A (pyNext (.ref it)) Q E s := by
 obtain ⟨oi, ho, hc, hd⟩ := id hit
 obtain ⟨od, hod, hcd, hdd⟩ := id x
 unfold pyNext
 refine wpAny_bind (wpAny_attempt (wpAny_callSpecial?_slot (name := Str.ofString "__next__") hit.typeIs F.slot_dict_keyiterator_next
  (wpAny_call_entry F.slot_dict_keyiterator_next hit.typeIs F.entry_dict_keyiterator_next (wpAny_bind (wpAny_pure (wpAny_bind (wpAny_bind ?_)))) (F.args_dict_keyiterator_next_1 _))))
 first | refine wpAny_bind (wpAny_typeNameOfWhole_keyiter hit.typeIs (wpAny_pure ?_)) | refine wpAny_bind (wpAny_typeNameOf_keyiter hit.typeIs (wpAny_pure ?_))
 refine wpAny_bind (wpAny_fieldsOf ho hd ?_)
 simp only [show Builtin.Dict_items.ownsTuple "dict_keyiterator" = false from by decide, Bool.false_eq_true, if_false]
 show wpAny _ _ (if (Value.ref d == Value.none) = true then _ else _) _ _ s
 rw [if_neg (show ¬ ((Value.ref d == Value.none) = true) from Bool.false_ne_true)]
 refine wpAny_bind (wpAny_pure (wpAny_bind (wpAny_dictEntries hod hdd ?_)))
 rw [if_neg (by simp)]
 refine wpAny_bind (wpAny_pure (wpAny_bind (wpAny_dictEpoch hod hdd ?_)))
 rw [if_neg (by simp)]
 refine wpAny_pure ?_
 simp only [show ¬ ((i : Int) < 0) from by omega, if_false, Int.toNat_natCast, Array.getElem?_eq_none hi]
 refine wpAny_bind ?_
 first | refine wpAny_bind (wpAny_typeNameOfWhole_keyiter hit.typeIs (wpAny_pure ?_)) | refine wpAny_bind (wpAny_typeNameOf_keyiter hit.typeIs (wpAny_pure ?_))
 show wpAny _ _ (setField (.ref it) 0 .none >>= _) _ _ s
 refine wpAny_bind (wpAny_setField ho hd (by simp) ?_)
 show wpAny _ _ (newExc (.type "StopIteration") [] >>= _) _ _ _
 refine wpAny_bind ?_
 simp only [newExc, newTuple]
 refine wpAny_bind (wpAny_newObj_type (wpAny_bind (m := firstArgMember _ _) (wpAny_of_eq (a := Value.none) (by first | rfl | (simp only [firstArgMember]; rfl)) (wpAny_newObj_type ?_ (by size_fits)))) (by size_fits))
 simp only [raiseNew]
 refine wpAny_bind (wpAny_handled ?_)
 rw [show A.in1.handled = none from hh]
 refine wpAny_bind (wpAny_pure (wpAny_throw ?_))
 refine wpAny_bind (wpAny_isInstance (T := "StopIteration") (b := true) ⟨_, Heap.get?_push_size _ rfl, rfl⟩ isSubtype_stop ?_)
 exact wpAny_pure (hQ _ (((Heap.SameBut.update ..).extBut.push _).push _))
theorem ent_walks (hh : A.handled = none) (I : Addr) (hne : d ≠ I) : Walks prog w A I [I, d] [I] es.size (fun i v => ∃ e, es[i]? = some e ∧ v = e.key) (fun i h => h.IsKeyIter I d i es.size ep ∧ EntAt h d es ep) where
 sub := fun b hb => by simp at hb; simp [hb]
 frame := fun _ _ _ st hk => ⟨st.1.at fun o e => hk I (by simp) o e, st.2.at fun o e => hk d (by simp) o e⟩
 item := fun i s Q E hi st hQ => ent_next st.1 st.2 hi fun h' hit' hs' => hQ _ h' s.toks ⟨_, Array.getElem?_eq_getElem hi, rfl⟩ ⟨hit', st.2.at fun o e => hs'.extBut d o hne e⟩ fun b o hb e => hs'.extBut b o (fun h => hb (by simp [h])) e
 done := fun s Q E st hQ => ent_end hh st.1 st.2 (Nat.le_refl _) fun h' he' => hQ h' s.toks fun b o hb e => he' b o (fun h => hb (by simp [h])) e
 self := fun _ _ _ _ st hQ => wpAny_pyIter_keyiter st.1 hQ
theorem ent_src (lo : (d == sysModules) = false) : KdlSrc prog w "dict" d d es.size (fun i v => ∃ e, es[i]? = some e ∧ v = e.key) (fun h => EntAt h d es ep) where
 type := fun _ x => x.ty
 there := fun _ x => ⟨x.lt, x.lt⟩
 keep := fun _ _ x hk => x.at fun o e => hk d (.inl rfl) o e
 notList := by decide
 notTuple := by decide
 hint := fun _ _ _ _ x hq => kdl_hint_dict x.ty hq
 iter := fun _ _ hh x => ⟨_, _, (fun _ _ hq => ent_iter lo x hq), ent_walks hh _ (Nat.ne_of_lt x.lt), ⟨⟨_, Heap.get?_push_size _ rfl, rfl, rfl⟩, x.at fun o e => Heap.get?_push_of_some _ e⟩⟩
end
noncomputable def kI (g : List Int) : List Key := g.map Sum.inl
theorem kI_kV (g : List Int) : (kI g).map kV = g.map V.int := by unfold kI; rw [List.map_map]; rfl
theorem kI_inj {g g' : List Int} (h : kI g = kI g') : g = g' := by
 unfold kI at h
 induction g generalizing g' with
 | nil => cases g' with
   | nil => rfl
   | cons => cases h
 | cons a g ih => cases g' with
   | nil => cases h
   | cons b g' =>
     injection h with h1 h2
     injection h1 with h1
     rw [h1, ih h2]
section
variable {X : Cx}
end
end L2
namespace L2
open PySem PySem.Spec PyProof.Rows
theorem miss_keysL : typeLookup (.type "list") "keys" = pure none := am_miss_of_fast (by decide +kernel)
section
variable {prog : Program} {w : World} {A : Around} {E : Value → Shared → Prop} {s : Shared}
set_option maxRecDepth 8000 in
theorem lst_noKeysBy {a : Addr} {xs : Array Value} {k : Nat} {sl : Array (Option Value)} {u : Tok} {Q : Value → Shared → Prop} (hx : s.heap.get? a = some { cls := .type "list", dict := none, data := .seq xs k, slots := sl }) (hA : A.handled = none)
  (h : ∀ h' tk e, Heap.NewExcOf s.heap h' e "AttributeError" → E (.ref e) { s with heap := h', toks := tk }) : wpAny (model prog w) A (getAttrBy (.ref a) (.str "keys" u) false) Q E s := by
 obtain ⟨hp, g, d, tk, os⟩ := s
 have hT : ∀ tk', (⟨hp, g, d, tk', os⟩ : Shared).TypeIs (.ref a) "list" := fun _ => ⟨_, hx, rfl⟩
 have f1 := sub_AttributeError
 have f3 := PySem.F.slot_list_getattribute.lookup
 have f4 := PySem.F.slot_list_getattribute.bind (.ref a)
 have f5 := am_list_getattr_none
 unfold getAttrBy
 repeat (any_goals (first | assumption | exact hT _ | ((with_reducible show wpAny _ _ (call (Value.builtin "list.__getattribute__") _ _) _ _ _); refine call_meets PySem.F.slot_list_getattribute (hT _) am_entry_list_getattribute (PySem.F.args_list_getattribute_2 _ _) (meets_getattribute_miss_list a xs k sl "keys" _ miss_keysL (by decide +kernel) (by size_fits)) ⟨hx, hA, fun h' tk' e hx' => ?_⟩) | wp_step))
 obtain ⟨t', u', he⟩ := hx'.there
 show wpAny _ _ (getattributeRaised _ _ _ _ _ _ _) _ _ _
 unfold getattributeRaised
 repeat (any_goals (first | assumption | wp_step))
 exact h _ _ _ hx'.of
theorem lst_noKeys {a : Addr} {xs : Array Value} {k : Nat} {sl : Array (Option Value)} {Q : Option Value → Shared → Prop} (hx : s.heap.get? a = some { cls := .type "list", dict := none, data := .seq xs k, slots := sl }) (hA : A.handled = none)
  (h : ∀ h' tk, (∀ b o, s.heap.get? b = some o → h'.get? b = some o) → Q none { s with heap := h', toks := tk }) : wpAny (model prog w) A (getAttr? (.ref a) "keys") Q E s := by
 unfold getAttr? getAttrBy?
 refine wpAny_bind (wpAny_mkText ?_)
 refine wpAny_bind (wpAny_attempt (lst_noKeysBy (s := { s with toks := s.toks + 1 }) hx hA fun h' tk e x => ?_))
 obtain ⟨c, r, he, hc, _⟩ := x.there
 refine wpAny_bind (wpAny_isInstance (T := "AttributeError") (b := true) ⟨_, he, hc⟩ sub_AttributeError ?_)
 exact wpAny_pure (h _ _ x.keeps)
end
section
variable {prog : Program} {w : World} {A : Around} {R : Result → Shared → Prop}
end
section
variable {X : Cx}
end
theorem big_le {n : Nat} (h : n ≤ 20000) : n ≤ sizeLine := Nat.le_trans h (by decide)
theorem big_lt {n : Nat} (h : n ≤ 20000) : n < sizeLine := Nat.lt_of_le_of_lt h (by decide)
section
variable {X : Cx}
end
noncomputable def But2 (d f : Addr) (H H' : Hp) : Prop := ∀ b o, b ≠ d → b ≠ f → H b = some o → H' b = some o
theorem But2.refl (d f : Addr) (H : Hp) : But2 d f H H := fun _ _ _ _ e => e
theorem But2.trans {d f : Addr} {H H1 H2 : Hp} (x : But2 d f H H1) (y : But2 d f H1 H2) : But2 d f H H2 := fun b o n m e => y b o n m (x b o n m e)
theorem Same.but2 {d f : Addr} {H H' : Hp} (s : Same H H') : But2 d f H H' := fun b o _ _ e => s b o e
theorem But2.updD {d f : Addr} {H : Hp} {o : HO} : But2 d f H (upd H d o) := fun b u n _ e => by rw [zqf n]; exact e
theorem But2.updF {d f : Addr} {H : Hp} {o : HO} : But2 d f H (upd H f o) := fun b u _ m e => by rw [zqf m]; exact e
end L2
namespace L2
open PySem PySem.Spec PyProof.Rows PySem.W
section
variable {prog : Program} {w : World} {K : Type} [DecidableEq K] (knd : KeyKind prog w K)
inductive NIts (h : Heap) : List (List K) → List Value → Prop
 | nil : NIts h [] []
 | cons {k : List K} {a : Addr} {ks : List (List K)} {vs : List Value} : IsTupleKey knd h k a → NIts h ks vs → NIts h (k :: ks) (.ref a :: vs)
noncomputable def IsNest (h : Heap) (ks : List (List K)) (a : Addr) : Prop := ∃ o items n, h.get? a = some o ∧ o.cls = .type "tuple" ∧ o.data = .seq items n ∧ NIts knd h ks items.toList
noncomputable def nestHash (ks : List (List K)) : Int := reduceHash (Builtin.Tuple.tupleHashOf (ks.map (tupleKeyHash knd)))
noncomputable def nestDraws (ks : List (List K)) : Nat := (ks.map fun k => k.length + 1).sum + 1
variable {knd}
theorem NIts.inj {h : Heap} {x y : List (List K)} {vs : List Value} (hx : NIts knd h x vs) (hy : NIts knd h y vs) : x = y := by
 induction hx generalizing y with
 | nil => cases hy; rfl
 | cons h1 _ ih =>
   cases hy with
   | cons h2 t2 => rw [h1.inj h2, ih t2]
theorem IsNest.typeIs {s : Shared} {ks : List (List K)} {a : Addr} (x : IsNest knd s.heap ks a) : s.TypeIs (.ref a) "tuple" := let ⟨o, _, _, ho, hc, _⟩ := x; ⟨o, ho, hc⟩
theorem IsNest.inj {h : Heap} {a : Addr} {x y : List (List K)} (hx : IsNest knd h x a) (hy : IsNest knd h y a) : x = y := by
 obtain ⟨o, items, n, ho, _, hd, hi⟩ := hx
 obtain ⟨o', items', n', ho', _, hd', hi'⟩ := hy
 obtain rfl : o = o' := Option.some.inj (ho.symm.trans ho')
 rw [hd] at hd'
 injection hd' with h1 _
 subst h1
 exact hi.inj hi'
theorem NIts.keeps {h h' : Heap} {ks : List (List K)} {vs : List Value} {d : Addr} {o : Obj} {es ep} (x : NIts knd h ks vs) (ho : h.get? d = some o) (hd : o.data = .dict es ep) (hs : Heap.SameBut d h h') : NIts knd h' ks vs := by
 induction x with
 | nil => exact .nil
 | cons h1 _ ih => exact .cons (h1.keeps ho hd hs) ih
theorem IsNest.keeps {h h' : Heap} {ks : List (List K)} {a d : Addr} {o : Obj} {es ep} (x : IsNest knd h ks a) (ho : h.get? d = some o) (hd : o.data = .dict es ep) (hs : Heap.SameBut d h h') : IsNest knd h' ks a := by
 obtain ⟨o', items, n, ho', hc, hd', hi⟩ := x
 have hne : a ≠ d := by
  rintro rfl
  obtain rfl : o' = o := Option.some.inj (ho'.symm.trans ho)
  rw [hd] at hd'; exact nomatch hd'
 exact ⟨o', items, n, (hs.2 a hne).trans ho', hc, hd', hi.keeps ho hd hs⟩
variable {A : Around} {E : Value → Shared → Prop} {s : Shared}
theorem pyHash_nest {ks : List (List K)} {a : Addr} {Q : Int → Shared → Prop} (hu : A.units + 2 < cLine) (hk : IsNest knd s.heap ks a) (h : Q (nestHash knd ks) { s with toks := s.toks + nestDraws ks }) :
  wpAny (model prog w) A (pyHash (.ref a)) Q E s := by
 have hT := hk.typeIs
 obtain ⟨o, items, n, ho, _, hd, hi⟩ := hk
 unfold pyHash
 first | unfold pyHashByItsType | skip
 first | refine wpAny_bind (wpAny_cRoomFor_or (.inr (show A.units < cLine by omega)) ?_) | skip
 refine wpAny_bind (wpAny_specialOf hT F.slot_tuple_hash.lookup ?_)
 show wpAny _ _ (if (some (Value.builtin "tuple.__hash__") == some Value.none) = true then _ else _) Q E s
 rw [if_neg (by rw [beq_builtin_none]; exact Bool.false_ne_true)]
 refine wpAny_bind (wpAny_specialOf hT F.slot_tuple_hash.lookup ?_)
 show wpAny _ _ (callSpecialIfBoundUnlessNone? (.ref a) "__hash__" _ >>= _) Q E s
 refine wpAny_bind (wpAny_callSpecialIfBoundUnlessNone?_slot hT F.slot_tuple_hash (wpAny_call_entry F.slot_tuple_hash hT F.entry_tuple_hash ?_ (F.args_tuple_hash_1 _)))
 show wpAny _ _ (Builtin.Tuple.tupleItemsOf (.ref a) >>= _) _ _ s
 refine wpAny_bind (wpAny_tupleItemsOf ho hd ?_)
 refine wpAny_bind ?_
 rw [← Array.forIn_toList]
 refine wpAny_forIn_list _
  (fun rest (b : Array Int) s' => ∃ done left, ks = done ++ left ∧ NIts knd s.heap left rest ∧ b.toList = done.map (tupleKeyHash knd) ∧ s' = { s with toks := s.toks + (done.map fun k => k.length + 1).sum })
  _ ?_ ?_ _ _ ⟨[], ks, rfl, hi, rfl, rfl⟩
 · rintro x rest b s' ⟨done, left, rfl, hl, hb, rfl⟩
   cases hl with
   | @cons k c ks' _ h1 hl' =>
     refine wpAny_bind (wpAny_pyHash_tuple ?room (s := { s with toks := s.toks + (done.map fun k => k.length + 1).sum }) h1 ?_)
     case room =>
      show A.in1.units < cLine
      have : A.in1.units = A.units + 1 := rfl
      omega
     first
      | exact wpAny_pure ⟨done ++ [k], ks', by simp, hl', by simp [hb], by simp [Nat.add_assoc]⟩
      | exact wpAny_bind (wpAny_pure (wpAny_pure ⟨done ++ [k], ks', by simp, hl', by simp [hb], by simp [Nat.add_assoc]⟩))
 · rintro b s' ⟨done, left, rfl, hl, hb, rfl⟩
   cases hl
   rw [List.append_nil] at h
   show wpAny _ _ (retInt (Builtin.Tuple.tupleHashOf b.toList)) _ _ _
   rw [hb]
   refine wpAny_ret_mkInt ?_
   show wpAny _ _ (if (decide (-(2 : Int) ^ 63 ≤ Builtin.Tuple.tupleHashOf (done.map (tupleKeyHash knd))) && decide (Builtin.Tuple.tupleHashOf (done.map (tupleKeyHash knd)) < 2 ^ 63)) = true then _ else _) Q E _
   unfold nestHash reduceHash nestDraws at h
   by_cases hr : (decide (-(2 : Int) ^ 63 ≤ Builtin.Tuple.tupleHashOf (done.map (tupleKeyHash knd))) && decide (Builtin.Tuple.tupleHashOf (done.map (tupleKeyHash knd)) < 2 ^ 63)) = true
   · rw [if_pos hr]
     rw [if_pos hr] at h
     exact wpAny_pure (by simpa [Nat.add_assoc] using h)
   · rw [if_neg hr]
     rw [if_neg hr] at h
     exact wpAny_bind (wpAny_rule (wpAny_pure (by simpa [Nat.add_assoc] using h)))
theorem nest_eq_tree {x y : List (List K)} {a b : Addr} {P : Fin → Shared → Prop} (hu : A.units < cLine) (hx : IsNest knd s.heap x a) (hy : IsNest knd s.heap y b) (h : P (.done (.ret (.bool (decide (x = y))))) s) :
  wpAny (model prog w) A (Builtin.«tuple.__eq__» ⟨[.ref a, .ref b], []⟩) P E s := by
 have hTb := hy.typeIs
 obtain ⟨oa, xs, na, hoa, _, hda, hia⟩ := hx
 obtain ⟨ob, ys, nb, hob, _, hdb, hib⟩ := hy
 show wpAny _ _ (isInstance (.ref b) (.type "tuple") >>= _) _ _ s
 refine wpAny_bind (wpAny_isInstance hTb isSubtype_tuple_tuple ?_)
 simp only [Bool.not_true, Bool.false_eq_true, if_false]
 refine wpAny_bind (wpAny_tupleItemsOf hoa hda ?_)
 refine wpAny_bind (wpAny_tupleItemsOf hob hdb ?_)
 refine wpAny_bind ?_
 refine wpAny_forIn_list _
  (fun rest r s' => r.1 = none ∧ s' = s ∧ ∃ x' y' xs' ys', rest = List.zip xs' ys' ∧ NIts knd s.heap x' xs' ∧ NIts knd s.heap y' ys' ∧ decide (x' = y') = decide (x = y) ∧ (xs'.length == ys'.length) = (xs.size == ys.size))
  _ ?_ ?_ _ _ ⟨rfl, rfl, x, y, xs.toList, ys.toList, rfl, hia, hib, rfl, by simp⟩
 · rintro ⟨u, v⟩ rest r s' ⟨hr, rfl, x', y', xs', ys', hz, hx', hy', hdec, hlen⟩
   cases hx' with
   | nil => simp at hz
   | @cons k1 u' x'' xs'' h1 hx'' =>
     cases hy' with
     | nil => simp at hz
     | @cons k2 v' y'' ys'' h2 hy'' =>
       simp only [List.zip_cons_cons, List.cons.injEq, Prod.mk.injEq] at hz
       obtain ⟨⟨rfl, rfl⟩, rfl⟩ := hz
       refine wpAny_bind (wpAny_eqBool_tuple (x := k1) (y := k2) hu h1 h2 ?_)
       by_cases hk : k1 = k2
       · subst hk
         rw [decide_eq_true rfl]
         simp only [Bool.not_true, Bool.false_eq_true, if_false]
         refine wpAny_pure ⟨rfl, rfl, x'', y'', xs'', ys'', rfl, hx'', hy'', ?_, by simpa using hlen⟩
         rw [← hdec]
         by_cases hxy : x'' = y''
         · simp [hxy]
         · simp [hxy]
       · rw [decide_eq_false hk]
         simp only [Bool.not_false, if_true]
         have hf : decide (x = y) = false := by rw [← hdec]; simp [hk]
         rw [hf] at h
         exact wpAny_bind (wpAny_pure (wpAny_pure (wpAny_pure h)))
 · rintro ⟨r1, r2⟩ s' ⟨hr, rfl, x', y', xs', ys', hz, hx', hy', hdec, hlen⟩
   simp only at hr
   subst hr
   refine wpAny_pure ?_
   have hfin : (xs.size == ys.size) = decide (x = y) := by
    rw [← hdec, ← hlen]
    cases hx' with
    | nil =>
      cases hy' with
      | nil => simp
      | cons _ _ => simp
    | cons _ _ =>
      cases hy' with
      | nil => simp
      | cons _ _ => simp at hz
   show P (.done (.ret (.bool (xs.size == ys.size)))) s'
   rw [hfin]; exact h
theorem eqBool_nest {x y : List (List K)} {a b : Addr} {Q : Bool → Shared → Prop} (hu : A.units + 2 < cLine) (hx : IsNest knd s.heap x a) (hy : IsNest knd s.heap y b) (h : Q (decide (x = y)) s) :
  wpAny (model prog w) A (eqBool (.ref a) (.ref b)) Q E s := by
 unfold eqBool
 try with_reducible refine wpAny_holding ?_
 show wpAny _ _ (if (Value.ref a == Value.ref b) = true then _ else _) Q E s
 by_cases hab : (Value.ref a == Value.ref b) = true
 · rw [if_pos hab]
   have e : a = b := by have := eq_of_beq hab; injection this
   subst e
   obtain rfl := hx.inj hy
   exact wpAny_bind (wpAny_rule (wpAny_pure (by simpa using h)))
 · rw [if_neg hab]
   refine wpAny_bind (wpAny_richCompare_same_room (op := .Eq) hx.typeIs hy.typeIs F.slot_tuple_eq
    (wpAny_call_entry F.slot_tuple_eq hx.typeIs F.entry_tuple_eq (nest_eq_tree ?room hx hy ⟨_, rfl, (fun e => nomatch e), wpAny_truthy_bool h⟩) (F.args_tuple_eq_2 _ _)) (by omega))
   show A.in1.units < cLine
   have : A.in1.units = A.units + 1 := rfl
   omega
theorem quiet_tup {n : Nat} {ks : List K} {a : Addr} {Q : Bool → Shared → Prop} (hk : IsTupleKey knd s.heap ks a) (h : Q true s) : wpAny (model prog w) A (eqIsQuiet (n + 1) (.ref a)) Q E s := by
 have hT := hk.typeIs
 obtain ⟨o, items, m, ho, _, hd, hi⟩ := hk
 unfold eqIsQuiet
 refine wpAny_bind (wpAny_specialOf hT F.slot_tuple_eq.lookup ?_)
 show wpAny _ _ (isInstance (.ref a) (.type "tuple") >>= _) _ _ s
 refine wpAny_bind (wpAny_isInstance hT isSubtype_tuple_tuple ?_)
 simp only [Bool.not_true, Bool.false_eq_true, if_false]
 refine wpAny_bind (wpAny_seqItems ho hd ?_)
 refine wpAny_bind ?_
 show wpAny _ _ (forIn items _ _) _ _ s
 rw [← Array.forIn_toList]
 refine wpAny_forIn_list _ (fun rest r s' => r.1 = none ∧ s' = s ∧ ∀ v ∈ rest, carriedByValue v = true) _ ?_ ?_ _ _ ⟨rfl, rfl, hi.byValue⟩
 · rintro v rest r s' ⟨hr, rfl, hall⟩
   rw [eqIsQuiet_byValue _ (hall v List.mem_cons_self)]
   refine wpAny_bind (wpAny_pure ?_)
   simp only [Bool.not_true, Bool.false_eq_true, if_false]
   exact wpAny_pure ⟨rfl, rfl, fun u hu' => hall u (List.mem_cons_of_mem _ hu')⟩
 · rintro ⟨r1, r2⟩ s' ⟨hr, rfl, _⟩
   simp only at hr
   subst hr
   exact wpAny_pure h
theorem quiet_nest {ks : List (List K)} {a : Addr} {Q : Bool → Shared → Prop} (hk : IsNest knd s.heap ks a) (h : Q true s) : wpAny (model prog w) A (eqIsQuiet 8 (.ref a)) Q E s := by
 have hT := hk.typeIs
 obtain ⟨o, items, m, ho, _, hd, hi⟩ := hk
 unfold eqIsQuiet
 refine wpAny_bind (wpAny_specialOf hT F.slot_tuple_eq.lookup ?_)
 show wpAny _ _ (isInstance (.ref a) (.type "tuple") >>= _) _ _ s
 refine wpAny_bind (wpAny_isInstance hT isSubtype_tuple_tuple ?_)
 simp only [Bool.not_true, Bool.false_eq_true, if_false]
 refine wpAny_bind (wpAny_seqItems ho hd ?_)
 refine wpAny_bind ?_
 show wpAny _ _ (forIn items _ _) _ _ s
 rw [← Array.forIn_toList]
 refine wpAny_forIn_list _ (fun rest r s' => r.1 = none ∧ s' = s ∧ ∃ ks, NIts knd s.heap ks rest) _ ?_ ?_ _ _ ⟨rfl, rfl, _, hi⟩
 · rintro v rest r s' ⟨hr, rfl, ks', hall⟩
   cases hall with
   | cons h1 t =>
     refine wpAny_bind (quiet_tup h1 ?_)
     simp only [Bool.not_true, Bool.false_eq_true, if_false]
     exact wpAny_pure ⟨rfl, rfl, _, t⟩
 · rintro ⟨r1, r2⟩ s' ⟨hr, rfl, _⟩
   simp only at hr
   subst hr
   exact wpAny_pure h
end
noncomputable def nestKind {prog : Program} {w : World} {K : Type} [DecidableEq K] (knd : KeyKind prog w K) : HeapKind prog w (List (List K)) where
 is := IsNest knd
 hash := nestHash knd
 draws := nestDraws
 room := fun A => A.units + 2 < cLine
 inj := fun hx hy => hx.inj hy
 keeps := fun x ho hd hs => x.keeps ho hd hs
 pyHash := fun hu hk h => pyHash_nest hu hk h
 eqBool := fun hu hx hy h => eqBool_nest hu hx hy h
 quiet := fun hk h => quiet_nest hk h
noncomputable def tN (k : List (List Int)) : T := .tup (k.map tI)
noncomputable def nK (k : List (List Int)) : List (List Key) := k.map kI
abbrev KeyN := List (List Int)
abbrev RowN := List (List Key) × Addr × Value
theorem nK_inj : ∀ {a b : KeyN}, nK a = nK b → a = b
 | [], [], _ => rfl
 | [], _ :: _, e => by cases e
 | _ :: _, [], e => by cases e
 | x :: xs, y :: ys, e => by
   injection e with e1 e2
   rw [kI_inj e1, nK_inj e2]
noncomputable def phiN (P : Program) (w : World) (d : Addr) (xs : List RowN) : Heap → Prop := fun h => ∃ o es ep, h.get? d = some o ∧ o.ExactDict ∧ o.data = .dict es ep ∧ es.toList = xs.map (entryOfKey (nestKind (mixKind P w)))
theorem phiN.ok {P : Program} {w : World} {H : Hp} {h : Heap} {d : Addr} {xs : List RowN} (x : phiN P w d xs h) : ObjOk P w H h d (.ext (phiN P w d xs)) := by
 refine ⟨x, ?_, fun h1 h2 y k => ?_⟩
 · obtain ⟨o, _, _, ho, _⟩ := x
   exact ⟨o, ho⟩
 · obtain ⟨o, es, ep, ho, r⟩ := y
   exact ⟨o, es, ep, k o ho, r⟩
abbrev KN (H : Hp) : List (KeyN × V) → List RowN → Prop := Paired fun p q => nK p.1 = q.1 ∧ Is H (tN p.1) (.ref q.2.1) ∧ RelV p.2 q.2.2
theorem KN.val {H : Hp} {kvs : List (KeyN × V)} {xs : List RowN} (r : KN H kvs xs) (k : KeyN) : RelO (valV kvs k) ((atKey xs (nK k)).map (·.2)) := by
 induction r with
 | nil => exact True.intro
 | @cons p q ps qs h t ih =>
   obtain ⟨h1, _, h2⟩ := h
   by_cases e : p.1 = k
   · have e' : q.1 = nK k := by rw [← h1, e]
     have b : atKey (q :: qs) (nK k) = some q.2 := by simp [atKey, List.find?_cons, e']
     rw [valV_pos e, b]; exact h2
   · have e' : ¬ q.1 = nK k := fun z => e (nK_inj (h1.trans z))
     have b : atKey (q :: qs) (nK k) = atKey qs (nK k) := by simp [atKey, List.find?_cons, e']
     rw [valV_neg e, b]; exact ih
theorem KN.repl {H : Hp} {kvs : List (KeyN × V)} {xs : List RowN} (r : KN H kvs xs) (k : KeyN) {y : V} {u : Value} (ry : RelV y u) : KN H (kvs.map fun kv => if kv.1 = k then (kv.1, y) else kv) (xs.map (putAt (nK k) u)) := by
 induction r with
 | nil => exact .nil
 | @cons p q ps qs h t ih =>
   rw [List.map_cons, List.map_cons]
   refine .cons ?_ ih
   obtain ⟨h1, h2, h3⟩ := h
   unfold putAt
   by_cases e : p.1 = k
   · rw [if_pos e, if_pos (by rw [← h1, e])]; exact ⟨h1, h2, ry⟩
   · rw [if_neg e, if_neg (fun z => e (nK_inj (h1.trans z)))]; exact ⟨h1, h2, h3⟩
theorem KN.put {H : Hp} {kvs : List (KeyN × V)} {xs : List RowN} (r : KN H kvs xs) (k : KeyN) {b : Addr} {y : V} {u : Value} (hb : Is H (tN k) (.ref b)) (ry : RelV y u) : KN H (putK kvs k y) (storedH xs (nK k) b u) := by
 have e : (kvs.any fun kv => decide (kv.1 = k)) = (atKey xs (nK k)).isSome := by
  rw [valV_any, (r.val k).isSome_eq, Option.isSome_map]
 unfold putK storedH
 rw [e]
 by_cases q : (atKey xs (nK k)).isSome = true
 · rw [if_pos q, if_pos q]; exact r.repl k ry
 · rw [if_neg q, if_neg q]; exact Paired.snoc r ⟨rfl, hb, ry⟩
theorem zxt : ∀ (cs : List Int), FroL (cs.map T.int)
 | [] => trivial
 | c :: cs => ⟨trivial, zxt cs⟩
theorem fro_tN (k : KeyN) : Fro (tN k) := FroL.all.mpr fun t ht => by
 obtain ⟨g, _, rfl⟩ := List.mem_map.mp ht
 exact zxt g
theorem KN.tups {H H' : Hp} {kvs : List (KeyN × V)} {xs : List RowN} (r : KN H kvs xs) (t : Tups H H') : KN H' kvs xs := Paired.mapP r fun _ _ z => ⟨z.1, z.2.1.tups t (fro_tN _), z.2.2⟩
noncomputable def NAt (P : Program) (w : World) (H : Hp) (d : Addr) (kvs : List (KeyN × V)) : Prop := ∃ xs : List RowN, H d = some (.ext (phiN P w d xs)) ∧ (d == sysModules) = false ∧ kvs.length ≤ sizeLine ∧ (xs.map (·.1)).Nodup ∧ KN H kvs xs
section
variable {P : Program} {w : World} {H H' : Hp} {d : Addr} {kvs : List (KeyN × V)}
theorem NAt.same (n : NAt P w H d kvs) (s : Same H H') : NAt P w H' d kvs := by
 obtain ⟨xs, e, a, b, c, r⟩ := n
 exact ⟨xs, s _ _ e, a, b, c, Paired.mapP r fun _ _ z => ⟨z.1, z.2.1.mono s, z.2.2⟩⟩
theorem NAt.by (n : NAt P w H d kvs) (t : Tups H H') (e : H' d = H d) : NAt P w H' d kvs := by
 obtain ⟨xs, e', a, b, c, r⟩ := n
 exact ⟨xs, e.trans e', a, b, c, r.tups t⟩
theorem NAt.tups {o : HO} (n : NAt P w H d kvs) : Tups H (upd H d o) := by
 obtain ⟨xs, e, _⟩ := n
 exact Tups.upd e (fun zs z => by cases z)
theorem NAt.ne {b : Addr} {ys : List V} (n : NAt P w H d kvs) (h : H b = some (.lst ys)) : b ≠ d := fun z => by
 obtain ⟨xs, e, _⟩ := n
 rw [z, e] at h
 cases h
theorem its_of {h : Heap} (ok : HOk P w H h) : ∀ {k : KeyN} {xs : List V} {us : List Value}, IsL H (k.map tI) xs → Vals xs us → NIts (mixKind P w) h (nK k) us
 | [], _, _, e, r => by
   cases (show _ = [] from e)
   cases r
   exact .nil
 | g :: k, _, _, ⟨v, vs, e, h1, h2⟩, r => by
   subst e
   cases r with
   | cons r1 r2 =>
     obtain ⟨b, zs, rfl, hb, hz⟩ := h1
     rw [IsL.ints.mp hz, ← kI_kV] at hb
     cases r1
     exact .cons (key_of ok hb) (its_of ok h2 r2)
theorem nest_of {h : Heap} (ok : HOk P w H h) {k : KeyN} {a : Addr} (i : Is H (tN k) (.ref a)) : (nestKind (mixKind P w)).is h (nK k) a := by
 obtain ⟨a', xs, e, ha, hx⟩ := i
 cases e
 obtain ⟨_, its, r, ⟨o, h1, h2, n, h3⟩, _⟩ := (show ObjOk P w H h a (.tup xs) from ok a _ ha)
 exact ⟨o, its.toArray, n, h1, h2, h3, by simpa using its_of ok hx r⟩
theorem NAt.dict {h : Heap} (ok : HOk P w H h) (n : NAt P w H d kvs) : (d == sysModules) = false ∧ ∃ xs, KN H kvs xs ∧ xs.length ≤ sizeLine ∧ h.DictOfH (nestKind (mixKind P w)) d xs := by
 obtain ⟨xs, e, a, b, c, r⟩ := n
 obtain ⟨⟨o, es, ep, h1, h2, h3, h4⟩, _⟩ := (show ObjOk P w H h d (.ext (phiN P w d xs)) from ok d _ e)
 have hl := Paired.length r
 refine ⟨a, xs, r, by omega, o, es, ep, h1, h2, h3, h4, ?_, c⟩
 have all : ∀ {l : List (KeyN × V)} {m : List RowN}, KN H l m → ∀ x ∈ m, (nestKind (mixKind P w)).is h x.1 x.2.1 := by
  intro l m q
  induction q with
  | nil => intro x hx; exact nomatch hx
  | @cons p q ps qs hq t ih =>
    intro x hx
    rcases List.mem_cons.mp hx with e | hx
    · subst e
      rw [← hq.1]
      exact nest_of ok hq.2.1
    · exact ih x hx
 exact all r
theorem kn_is {xs : List RowN} (r : KN H kvs xs) : IsL H (kvs.map fun kv => tN kv.1) (xs.map fun x => V.ref x.2.1) := by
 induction r with
 | nil => rfl
 | cons h t ih => exact ⟨_, _, rfl, h.2.1, ih⟩
end
noncomputable def tNIn (P : Program) (w : World) (f : Bool → Bool) (ty td : TE) : TE := fun σ H Q => ty σ H fun y H1 => td σ H1 fun x H2 => ∃ d b kvs k, x = .ref d ∧ y = .ref b ∧ NAt P w H2 d kvs ∧ Is H2 (tN k) (.ref b) ∧ Q (.bl (f (valV kvs k).isSome)) H2
noncomputable def tNGet (P : Program) (w : World) (td ty : TE) : TE := fun σ H Q => td σ H fun x H1 => ty σ H1 fun y H2 => ∃ d b kvs k v, x = .ref d ∧ y = .ref b ∧ NAt P w H2 d kvs ∧ Is H2 (tN k) (.ref b) ∧ valV kvs k = some v ∧ Q v H2
noncomputable def sNPut (P : Program) (w : World) (td ty tv : TE) : TS := fun D σ H => tv σ H fun v H1 => td σ H1 fun x H2 => ty σ H2 fun y H3 => ∃ d b kvs k, x = .ref d ∧ y = .ref b ∧ NAt P w H3 d kvs ∧ Is H3 (tN k) (.ref b) ∧ kvs.length < sizeLine ∧
 ∀ o, NAt P w (upd H3 d o) d (putK kvs k v) → D.nx σ (upd H3 d o)
noncomputable def rLenN (P : Program) (w : World) : List V → Hp → VK → Prop := fun xs H Q => ∃ d kvs, xs = [.ref d] ∧ NAt P w H d kvs ∧ Q (.int ((kvs.length : Nat) : Int)) H
noncomputable def rListN (P : Program) (w : World) : List V → Hp → VK → Prop := fun xs H Q => ∃ d kvs, xs = [.ref d] ∧ NAt P w H d kvs ∧ ∀ ys p H', Same H H' → H p = none → H' p = some (.lst ys) → IsL H' (kvs.map fun kv => tN kv.1) ys → Q (.ref p) H'
noncomputable def tNDisp1 (P : Program) (w : World) (te tv : TE) : TE := fun σ H Q => ∀ p o, H p = none → NAt P w (upd H p o) p [] → te σ (upd H p o) fun x H1 => tv σ H1 fun y H2 => ∃ b k, x = .ref b ∧ Is H2 (tN k) (.ref b) ∧ NAt P w H2 p [] ∧ ∀ o', NAt P w (upd H2 p o') p [(k, y)] → Q (.ref p) (upd H2 p o')
section
variable {X : Cx} {o i e value : Expr} {pos pos' tpos : Pos} {td ty tv : TE}
theorem room3 {A : Around} {P : Program} {w : World} (hu : A.units + 3 < cLine) : (nestKind (mixKind P w)).room A.in1 := by
 show A.in1.units + 2 < cLine
 have : A.in1.units = A.units + 1 := rfl
 omega
theorem pc_nin (hu : X.A.units + 3 < cLine) (hi : PE X i ty) (ho : PE X o td) : PC X .In i o (tNIn X.prog X.w id ty td) := by
 intro pins s σ H Q I h
 refine thn (hi pins s σ H _ I h) fun iv s1 ⟨y, H1, I1, ry, q1⟩ => thn (ho pins s1 σ H1 _ I1 q1) fun u s2 ⟨x, H2, I2, rx, d, b, kvs, k, ex, ey, n, ik, q2⟩ => ?_
 subst ex ey
 obtain rfl : u = Value.ref d := rx
 obtain rfl : iv = Value.ref b := ry
 obtain ⟨hd, xs, rel, _, dd⟩ := n.dict I2.hok
 refine wpAny_in_heap (room3 hu) (nest_of I2.hok ik) hd dd ?_
 have q := (rel.val k).isSome_eq
 rw [Option.isSome_map] at q
 rw [← q]
 exact ⟨.bl (valV kvs k).isSome, H2, I2.tok _, rfl, q2⟩
theorem pc_nnotin (hu : X.A.units + 3 < cLine) (hi : PE X i ty) (ho : PE X o td) : PC X .NotIn i o (tNIn X.prog X.w (!·) ty td) := by
 intro pins s σ H Q I h
 refine thn (hi pins s σ H _ I h) fun iv s1 ⟨y, H1, I1, ry, q1⟩ => thn (ho pins s1 σ H1 _ I1 q1) fun u s2 ⟨x, H2, I2, rx, d, b, kvs, k, ex, ey, n, ik, q2⟩ => ?_
 subst ex ey
 obtain rfl : u = Value.ref d := rx
 obtain rfl : iv = Value.ref b := ry
 obtain ⟨hd, xs, rel, _, dd⟩ := n.dict I2.hok
 refine wpAny_notIn_heap (room3 hu) (nest_of I2.hok ik) hd dd ?_
 have q := (rel.val k).isSome_eq
 rw [Option.isSome_map] at q
 rw [← q]
 exact ⟨.bl (!(valV kvs k).isSome), H2, I2.tok _, rfl, q2⟩
theorem pe_nget (hu : X.A.units + 3 < cLine) (ho : PE X o td) (hi : PE X i ty) (hs : NoSl i) : PE X (.Subscript o i pos) (tNGet X.prog X.w td ty) := by
 intro pins s σ H Q I h
 refine subD_of PySem.F.slot_dict_getitem.lookup hs (thn (ho pins s σ H _ I h) fun u s1 ⟨x, H1, I1, rx, q1⟩ => thn (hi pins s1 σ H1 _ I1 q1) fun iv s2 ⟨y, H2, I2, ry, d, b, kvs, k, v, ex, ey, n, ik, l, q2⟩ => ?_)
 subst ex ey
 obtain rfl : u = Value.ref d := rx
 obtain rfl : iv = Value.ref b := ry
 obtain ⟨hd, xs, rel, _, dd⟩ := n.dict I2.hok
 obtain ⟨w', hw, rw'⟩ := RelO.some_of (v := v) (o := (atKey xs (nK k)).map (·.2)) (by rw [← l]; exact rel.val k)
 obtain ⟨p, hp, hp2⟩ := Option.map_eq_some_iff.mp hw
 refine ⟨dd.typeIs, wpAny_getItem_heap (room3 hu) (nest_of I2.hok ik) dd hp ?_⟩
 rw [hp2]
 exact ⟨v, H2, I2.tok _, rw', q2⟩
theorem ps_nput (hu : X.A.units + 3 < cLine) (ho : PE X o td) (hi : PE X i ty) (hv : PE X value tv) (hs : swapsWith value (some (.Subscript o i pos')) pos.line X.env = pure false) :
  PS X (.Assign [.Subscript o i pos'] value pos) (sNPut X.prog X.w td ty tv) := by
 intro pins s σ H D I h
 refine wpAny_Assign_Subscript (thn (hv pins s σ H _ I h) fun r s1 ⟨v, H1, I1, rv, q1⟩ => thn (ho pins s1 σ H1 _ I1 q1) fun u s2 ⟨x, H2, I2, rx, q2⟩ => thn (hi pins s2 σ H2 _ I2 q2) fun iv s3 ⟨y, H3, I3, ry, d, b, kvs, k, ex, ey, n, ik, hl, q3⟩ => ?_) hs
 subst ex ey
 obtain rfl : u = Value.ref d := rx
 obtain rfl : iv = Value.ref b := ry
 obtain ⟨hd, xs, rel, hz, dd⟩ := n.dict I3.hok
 refine wpAny_setItem_heap (hsz := hz) (room3 hu) (nest_of I3.hok ik) dd fun h' dd' hs' => ?_
 obtain ⟨q, es, ep, hq, h2, h3, h4, _, h5⟩ := dd'
 obtain ⟨xs0, e0, _⟩ := id n
 have hlp := length_putK kvs k v
 refine ⟨σ, _, d_write I3 (by rw [e0]; exact True.intro) hs' ⟨q, hq⟩ (phiN.ok (xs := storedH xs (nK k) b r) ⟨q, es, ep, hq, h2, h3, h4⟩), q3 _ ⟨_, upd_same, hd, by omega, h5, (rel.put k ik rv).tups n.tups⟩⟩
theorem n_empty {P : Program} {w : World} (h : Heap) : phiN P w h.objs.size [] (h.push { cls := .type "dict", data := .dict #[] }) := ⟨_, #[], 0, Heap.get?_push_size _ rfl, ⟨rfl, rfl, rfl⟩, rfl, rfl⟩
theorem call_lenN : CallR X (.builtin "len") (rLenN X.prog X.w) := by
 intro pins s σ H xs us Q I r h
 obtain ⟨d, kvs, rfl, n, q⟩ := h
 obtain ⟨u, rfl, rx⟩ := vals1 r
 cases (show u = Value.ref d from rx)
 obtain ⟨hd, xs, rel, z, ⟨o, es, ep, ho, hc, hdat, he, _, _⟩⟩ := n.dict I.hok
 have hes : es.size = kvs.length := by
  have h1 := size_of_entries he
  have h2 := Paired.length rel
  omega
 have hT : s.TypeIs (.ref d) "dict" := ⟨o, ho, hc.1⟩
 have h63 : ((kvs.length : Nat) : Int) < 2 ^ 63 := by have := Paired.length rel; rw [sizeLine_eq] at z; omega
 refine Calls.call_function_entry kind_len plain_len entry_len (args_len1 _) ?_
 unfold Builtin.«len»
 refine wpAny_bind (m := oneArg "len" _) (wpAny_pure ?_)
 refine wpAny_bind (m := callSpecial? (.ref d) (Str.ofString "__len__")) (wpAny_callSpecial?_slot (name := Str.ofString "__len__") hT PySem.F.slot_dict_len (wpAny_call_entry PySem.F.slot_dict_len hT PySem.F.entry_dict_len ?_ (PySem.F.args_dict_len_1 _)))
 show wpAny _ _ (dictSize d >>= _) _ _ s
 unfold dictSize
 refine wpAny_bind (wpAny_bind (wpAny_dictEntries ho hdat (wpAny_pure ?_)))
 show wpAny _ _ (Builtin.Dict.pendingCount d >>= _) _ _ s
 refine wpAny_bind (wpAny_pendingCount_other hd (wpAny_ret_mkInt ?_))
 rw [hes]
 have e0 : ((kvs.length : Nat) : Int) + ((0 : Nat) : Int) = ((kvs.length : Nat) : Int) := by simp
 rw [e0]
 refine wpAny_bind (wpAny_holding (wpAny_pure (wpAny_bind (wpAny_letGo ?_))))
 show wpAny _ _ (if ((kvs.length : Nat) : Int) < 0 then _ else _) _ _ _
 rw [if_neg (by omega)]
 show wpAny _ _ (if ((kvs.length : Nat) : Int) ≥ 2 ^ 63 then _ else _) _ _ _
 rw [if_neg (by omega)]
 exact wpAny_bind (wpAny_mkInt (wpAny_pure ⟨_, rfl, .int _, H, (I.tok _).tok _, ⟨_, rfl⟩, q⟩))
theorem call_listN (hc : X.calm = true) : CallR X (.type "list") (rListN X.prog X.w) := by
 intro pins s σ H xs us Q I r h
 obtain ⟨d, kvs, rfl, n, q⟩ := h
 obtain ⟨u, rfl, rx⟩ := vals1 r
 cases (show u = Value.ref d from rx)
 obtain ⟨hd, xs, rel, z, ⟨o, es, ep, ho, hcc, hdat, he, _, _⟩⟩ := n.dict I.hok
 have hes := size_of_entries he
 refine kdl_call (ent_src (es := es) (ep := ep) hd) (I.ok.hd hc) ⟨o, ho, hcc, hdat⟩ (by omega) fun h' tk acc' c' hk hD hacc => ?_
 have hv : Vals (xs.map fun x => V.ref x.2.1) acc'.toList := vals_by (by have h1 := hacc.1; have h2 : acc'.toList.length = acc'.size := Array.length_toList; rw [List.length_map]; omega) fun j x v e1 e2 => by
  obtain ⟨en, h1, h2⟩ := hacc.2 j v (by rw [← Array.getElem?_toList]; exact e2)
  rw [entry_at he j] at h1
  rw [List.getElem?_map] at e1
  cases e3 : xs[j]? with
  | none => rw [e3] at e1; cases e1
  | some x' =>
    rw [e3] at e1 h1
    cases e1
    cases h1
    rw [h2]
    rfl
 have hi := kn_is rel
 have hn := I.hok.fresh (Nat.le_refl s.heap.objs.size)
 have sm := Same.new hn (.lst (xs.map fun x => V.ref x.2.1))
 exact ⟨.ref s.heap.objs.size, _, I.laid (t' := tk) (o := .lst (xs.map fun x => V.ref x.2.1)) hk (Nat.le_refl _) ⟨by rw [List.length_map]; omega, acc'.toList, c', hv, by simpa using hD⟩, rfl, q _ _ _ sm hn upd_same (hi.mono sm)⟩
theorem pe_ndisp1 {e v : Expr} {te tv : TE} (hu : X.A.units + 3 < cLine) (he : PE X e te) (hv : PE X v tv) : PE X (.Dict [some e] [v] pos) (tNDisp1 X.prog X.w te tv) := by
 intro pins s σ H Q I q
 have hn := I.hok.fresh (Nat.le_refl s.heap.objs.size)
 have hsm : (s.heap.objs.size == sysModules) = false := beq_eq_false_iff_ne.mpr (Ne.symm (Nat.ne_of_lt I.big))
 have I1 := I.laid (a := s.heap.objs.size) (o := .ext (phiN X.prog X.w s.heap.objs.size [])) (h' := s.heap.push { cls := .type "dict", data := .dict #[] }) (t' := s.toks) (fun _ _ q => Heap.get?_push_of_some _ q) (Nat.le_refl _) (n_empty s.heap).ok
 rw [arm_eval_Dict]
 refine wpAny_bind (wpAny_standAt ?_)
 let vv : Sem Value := do let x ← eval v X.env; standAt pos; pure x
 show wpAny _ _ (dictDisplay ([(eval e X.env, vv)].map fun p => (some p.1, p.2))) _ _ _
 rw [dictDisplay_pairs _ (by simp) (by simp)]
 refine wpAny_bind ?_
 unfold subDict
 refine wpAny_bind (wpAny_alloc (wpAny_bind (wpAny_holding ?_)))
 rw [if_pos (by simp)]
 refine wpAny_bind (evalPairs_cons ?_)
 refine thn (he pins _ σ _ _ I1 (q _ _ hn ⟨[], upd_same, hsm, Nat.zero_le _, List.nodup_nil, .nil⟩)) fun u s1 ⟨x, H1, I2, rx, q1⟩ => ?_
 refine wpAny_bind (thn (hv pins s1 σ H1 _ I2 q1) fun u2 s2 ⟨y, H2, I3, ry, b, k, ex, ik, n, qq⟩ => ?_)
 subst ex
 obtain rfl : u = Value.ref b := rx
 refine wpAny_bind (wpAny_standAt (wpAny_pure (evalPairs_nil ?_)))
 refine wpAny_holding ?_
 rw [List.forIn_cons]
 obtain ⟨hd, xs0, r0, _, ddH⟩ := n.dict I3.hok
 cases r0
 obtain ⟨xs1, e1, _⟩ := id n
 refine wpAny_bind (wpAny_bind (wpAny_bind (wpAny_dictSet_heap (k := nK k) (knd := nestKind (mixKind X.prog X.w)) (show X.A.units + 2 < cLine by omega) (nest_of I3.hok ik) ddH (fun h' dd' hs => wpAny_pure ?_) (by rw [List.length_nil]; exact Nat.zero_le _))))
 dsimp only
 rw [List.forIn_nil]
 refine wpAny_pure (wpAny_pure (wpAny_pure (wpAny_pure ?_)))
 obtain ⟨q', es, ep', hq, h2, h3, h4, _, h5⟩ := dd'
 refine ⟨.ref s.heap.objs.size, _, d_write I3 (by rw [e1]; exact True.intro) hs ⟨q', hq⟩ (phiN.ok (xs := storedH [] (nK k) b u2) ⟨q', es, ep', hq, h2, h3, h4⟩), rfl, qq _ ⟨_, upd_same, hd, by show 1 ≤ sizeLine; decide, h5, ?_⟩⟩
 exact (KN.put (kvs := []) (xs := []) .nil k ik ry).tups n.tups
end
end L2
namespace L2
open PySem PySem.Spec PyProof.Rows
noncomputable def mergeN (xs rows : List RowN) : List RowN := rows.foldl (fun acc r => storedH acc r.1 r.2.1 r.2.2) xs
theorem storedN_len (xs : List RowN) (k : List (List Key)) (a : Addr) (v : Value) : (storedH xs k a v).length ≤ xs.length + 1 := by
 unfold storedH
 split
 · rw [List.length_map]; omega
 · rw [List.length_append, List.length_singleton]; exact Nat.le_refl _
noncomputable def TupK (h h' : Heap) : Prop := ∀ c o, o.cls = .type "tuple" → h.get? c = some o → h'.get? c = some o
section
variable {prog : Program} {w : World} {A : Around} {R : Result → Shared → Prop} {h h' : Heap}
theorem NIts.keep {ks : List (List Key)} {us : List Value} (x : NIts (mixKind prog w) h ks us) (k : TupK h h') : NIts (mixKind prog w) h' ks us := by
 induction x with
 | nil => exact .nil
 | cons h1 _ ih =>
   obtain ⟨o, its, n, ho, hc, r⟩ := h1
   exact .cons ⟨o, its, n, k _ _ hc ho, hc, r⟩ ih
theorem nest_keep {ks : List (List Key)} {a : Addr} (x : (nestKind (mixKind prog w)).is h ks a) (k : TupK h h') : (nestKind (mixKind prog w)).is h' ks a := by
 obtain ⟨o, its, n, ho, hc, hd, hi⟩ := x
 exact ⟨o, its, n, k _ _ hc ho, hc, hd, hi.keep k⟩
noncomputable def PairN (prog : Program) (w : World) (h : Heap) (v : Value) (r : RowN) : Prop := ∃ b, v = .ref b ∧ h.IsTuple b #[.ref r.2.1, r.2.2] ∧ (nestKind (mixKind prog w)).is h r.1 r.2.1
theorem PairN.keep {v : Value} {r : RowN} (p : PairN prog w h v r) (k : TupK h h') : PairN prog w h' v r := by
 obtain ⟨b, e, ⟨o, ho, hc, n, hd⟩, r'⟩ := p
 exact ⟨b, e, ⟨o, k _ _ hc ho, hc, n, hd⟩, nest_keep r' k⟩
theorem dictOfN_keep {d : Addr} {xs : List RowN} (x : h.DictOfH (nestKind (mixKind prog w)) d xs) (kd : ∀ o, h.get? d = some o → h'.get? d = some o) (k : TupK h h') : h'.DictOfH (nestKind (mixKind prog w)) d xs := by
 obtain ⟨o, es, ep, ho, hc, hdd, he, his, hnd⟩ := x
 exact ⟨o, es, ep, kd o ho, hc, hdd, he, fun y hy => nest_keep (his y hy) k, hnd⟩
theorem dictLoopN {d it t : Addr} {its : Array Value} {rows : List RowN} (hu : A.units + 3 < cLine) (hh : A.handled = none) (hn1 : d ≠ it) (hn2 : t ≠ it) (hn3 : t ≠ d) (hl : its.size = rows.length) (hlz : rows.length ≤ sizeLine) :
  ∀ (k i : Nat) (s : Shared) (xs : List RowN), rows.length - i = k → i ≤ rows.length → xs.length ≤ i → s.heap.IsListIter it t i → s.heap.IsList t its → s.heap.DictOfH (nestKind (mixKind prog w)) d xs →
    (∀ (j : Nat) v r, its[j]? = some v → rows[j]? = some r → PairN prog w s.heap v r) →
    (∀ h' tk, h'.DictOfH (nestKind (mixKind prog w)) d (mergeN xs (rows.drop i)) → (∀ b o, b ≠ d → b ≠ it → s.heap.get? b = some o → h'.get? b = some o) → R (.ok (.ret .none)) { s with heap := h', toks := tk }) →
    codeAny (model prog w) A (.builtin "dict.update.loop" ⟨[.ref d, .ref it, rawInt i, .none], []⟩) R s := by
 intro k
 induction k with
 | zero =>
   intro i s xs hk hi hz hit ht hd hp hR
   have e : i = rows.length := by omega
   have tk : ∀ h', Heap.ExtBut it s.heap h' → TupK s.heap h' := fun h' eb c o hc z => eb c o (fun y => by
    obtain ⟨oi, hoi, hci, _⟩ := hit
    rw [y, hoi] at z
    cases z
    rw [hci] at hc
    exact absurd hc (by decide)) z
   refine codeAny_builtin entry_dul ?_
   rw [Around.under_plainId plain_dul _]
   show wpAny _ A.in1 (pyNext (.ref it) >>= _) _ _ s
   refine wpAny_bind (wpAny_pyNext_list_end (show A.in1.handled = none from hh) hit ht (Array.getElem?_eq_none (by omega)) fun h' eb => ?_)
   show wpAny _ A.in1 (Builtin.Dict.addKeywords d [] >>= _) _ _ _
   refine wpAny_bind (wpAny_pure (wpAny_pure ?_))
   refine hR h' s.toks ?_ fun b o n1 n2 z => eb b o n2 z
   rw [e, List.drop_length]
   exact dictOfN_keep hd (fun o ho => eb d o hn1 ho) (tk h' eb)
 | succ k ih =>
   intro i s xs hk hi hz hit ht hd hp hR
   have hlt : i < rows.length := by omega
   have hx : its[i]? = some its[i] := Array.getElem?_eq_getElem (by omega)
   have hr : rows[i]? = some rows[i] := List.getElem?_eq_getElem hlt
   have P0 := hp i _ _ hx hr
   have notIt : ∀ c o, o.cls = .type "tuple" → s.heap.get? c = some o → c ≠ it := fun c o hc z y => by
    obtain ⟨oi, hoi, hci, _⟩ := hit
    rw [y, hoi] at z
    cases z
    rw [hci] at hc
    exact absurd hc (by decide)
   have notD : ∀ c o, o.cls = .type "tuple" → s.heap.get? c = some o → c ≠ d := fun c o hc z y => by
    obtain ⟨oi, es, ep, hoi, hci, _⟩ := hd
    rw [y, hoi] at z
    cases z
    rw [hci.1] at hc
    exact absurd hc (by decide)
   refine codeAny_builtin entry_dul ?_
   rw [Around.under_plainId plain_dul _]
   show wpAny _ A.in1 (pyNext (.ref it) >>= _) _ _ s
   refine wpAny_bind (wpAny_pyNext_list_item hit ht hx fun g hit' hs => ?_)
   have kg : TupK s.heap g := fun c o hc z => hs.extBut c o (notIt c o hc z) z
   obtain ⟨b, hb, hbt, hkey⟩ := P0.keep kg
   have hd' : g.DictOfH (nestKind (mixKind prog w)) d xs := dictOfN_keep hd (fun o ho => hs.extBut d o hn1 ho) kg
   rw [hb]
   show wpAny _ A.in1 (holding [Value.ref b] _ >>= _) _ _ _
   refine wpAny_bind (wpAny_holding (wpAny_bind (wpAny_tryCatch ?_)))
   unfold Builtin.Dict.pairItems
   refine wpAny_bind (wpAny_typeOf (T := "tuple") (Heap.IsTuple.typeIs (s := { s with heap := g }) hbt) ?_)
   rw [if_pos (by rfl)]
   obtain ⟨ob, hob, _, nb, hdb⟩ := hbt
   refine wpAny_bind (wpAny_seqItems (s := { s with heap := g }) hob hdb (wpAny_pure ?_))
   show wpAny _ A.in1 (holding [Value.ref rows[i].2.1, rows[i].2.2] (dictSet d (Value.ref rows[i].2.1) rows[i].2.2)) _ _ _
   refine wpAny_holding (wpAny_dictSet_heap (knd := nestKind (mixKind prog w)) (room3 hu) hkey hd' (fun g2 hd2 hs2 => ?_) (Nat.le_trans (Nat.le_of_lt (Nat.lt_of_le_of_lt hz hlt)) hlz))
   refine wpAny_pure ⟨plainId_quiet plain_dul _, ?_⟩
   have e1 : rawInt ((i : Int) + 1) = rawInt ((i + 1 : Nat) : Int) := by simp
   have keep : ∀ c o, c ≠ d → c ≠ it → s.heap.get? c = some o → g2.get? c = some o := fun c o n1 n2 z => hs2.extBut c o n1 (hs.extBut c o n2 z)
   show codeAny (model prog w) A (.builtin "dict.update.loop" ⟨[.ref d, .ref it, rawInt ((i : Int) + 1), .none], []⟩) R _
   rw [e1]
   have lz := storedN_len xs rows[i].1 rows[i].2.1 rows[i].2.2
   refine ih (i + 1) _ _ (by omega) hlt (by omega) (hit'.extBut hs2.extBut (Ne.symm hn1)) (ht.extBut hs.extBut hn2 |>.extBut hs2.extBut hn3) hd2 (fun j v r hv hr' => (hp j v r hv hr').keep fun c o hc z => keep c o (notD c o hc z) (notIt c o hc z) z) fun h' tk hD hk' => ?_
   refine hR h' tk ?_ fun c o n1 n2 z => hk' c o n1 n2 (keep c o n1 n2 z)
   have e2 : rows.drop i = rows[i] :: rows.drop (i + 1) := List.drop_eq_getElem_cons hlt
   rw [e2]
   exact hD
end
noncomputable def PnAt (H : Hp) (b : Addr) (r : KeyN × V) : Prop := ∃ kb, H b = some (.tup [.ref kb, r.2]) ∧ Is H (tN r.1) (.ref kb)
theorem PnAt.same {H H' : Hp} {b : Addr} {r : KeyN × V} (p : PnAt H b r) (s : Same H H') : PnAt H' b r := let ⟨kb, h1, h2⟩ := p; ⟨kb, s _ _ h1, h2.mono s⟩
noncomputable def putAll (rows : List (KeyN × V)) (kvs : List (KeyN × V)) : List (KeyN × V) := rows.foldl (fun acc r => putK acc r.1 r.2) kvs
noncomputable def rDictN (P : Program) (w : World) : List V → Hp → VK → Prop := fun as H Q => ∃ (p : Addr) (bs : List Addr) (rows : List (KeyN × V)), as = [.ref p] ∧ H p = some (.lst (bs.map V.ref)) ∧ Paired (PnAt H) bs rows ∧
 ∀ d H', Same H H' → H d = none → NAt P w H' d (putAll rows []) → Q (.ref d) H'
theorem rowsN {X : Cx} {pins : List (Addr × Obj)} {σ : St} {H : Hp} {s : Shared} (I : Inv X pins σ H s) : ∀ {bs : List Addr} {rows : List (KeyN × V)}, Paired (PnAt H) bs rows → ∃ rh : List RowN, rh.length = bs.length ∧ KN H rows rh ∧
  ∀ (j : Nat) b q, bs[j]? = some b → rh[j]? = some q → s.heap.IsTuple b #[.ref q.2.1, q.2.2] ∧ (nestKind (mixKind X.prog X.w)).is s.heap q.1 q.2.1
 | _, _, .nil => ⟨[], rfl, .nil, fun j b q hb => by simp at hb⟩
 | b :: bs, r :: rows, .cons h t => by
   obtain ⟨rh, hl, hp, hr⟩ := rowsN I t
   obtain ⟨kb, hb, hk⟩ := h
   obtain ⟨_, its, rv, ht, _⟩ := (show ObjOk X.prog X.w H s.heap b (.tup [.ref kb, r.2]) from I.hok b _ hb)
   cases rv with
   | @cons _ kq _ _ r1 r2 =>
     cases r2 with
     | @cons _ vq _ _ r3 r4 =>
       cases r4
       cases (show kq = Value.ref kb from r1)
       refine ⟨(nK r.1, kb, vq) :: rh, by simp [hl], .cons ⟨rfl, hk, r3⟩ hp, fun j b' q e1 e2 => ?_⟩
       cases j with
       | zero =>
         simp at e1 e2
         subst e1 e2
         exact ⟨ht, nest_of I.hok hk⟩
       | succ j => exact hr j b' q (by simpa using e1) (by simpa using e2)
theorem kn_merge {H : Hp} : ∀ {rows : List (KeyN × V)} {rh : List RowN} {kvs : List (KeyN × V)} {xs : List RowN}, KN H rows rh → KN H kvs xs → KN H (putAll rows kvs) (mergeN xs rh) ∧ (putAll rows kvs).length ≤ kvs.length + rows.length
 | _, _, kvs, _, .nil, r => ⟨r, Nat.le_refl _⟩
 | r :: rows, q :: rh, kvs, xs, .cons h t, rel => by
   obtain ⟨h1, h2, h3⟩ := h
   have rel2 := rel.put r.1 h2 h3
   rw [h1] at rel2
   obtain ⟨a, b⟩ := kn_merge t rel2
   refine ⟨a, ?_⟩
   have := length_putK kvs r.1 r.2
   have b : (putAll (r :: rows) kvs).length ≤ (putK kvs r.1 r.2).length + rows.length := b
   rw [List.length_cons]
   omega
section
variable {X : Cx}
theorem call_dictN (hc : X.calm = true) (hu : X.A.units + 8 < cLine) : CallR X (.type "dict") (rDictN X.prog X.w) := by
 intro pins s σ H as us Q I r h
 obtain ⟨p, bs, rows, rfl, hp, hbs, q⟩ := h
 obtain ⟨u, rfl, rx⟩ := vals1 r
 cases (show u = Value.ref p from rx)
 obtain ⟨hz, its, n, rv, h1⟩ := (show ObjOk X.prog X.w H s.heap p (.lst (bs.map V.ref)) from I.hok p _ hp)
 have hh : X.A.handled = none := I.ok.hd hc
 obtain ⟨rh, hrl, hrp, hrows⟩ := rowsN I hbs
 have hitsl : its.length = bs.length := by have := rv.length; rw [List.length_map] at this; omega
 have hzb : bs.length ≤ sizeLine := by rw [List.length_map] at hz; exact hz
 refine callType_codes (Q₁ := fun obj s₁ => obj = .ref s.heap.objs.size ∧ s₁ = { s with heap := s.heap.push { cls := .type "dict", data := .dict #[] } }) PySem.F.kt_called_dict (PySem.F.kt_typeCall_dict_1 _) PySem.F.entry_dict_init (kt_code_dict_new _ ⟨rfl, rfl⟩) ?_
 rintro obj s₁ ⟨rfl, rfl⟩
 have hnew : (s.heap.push { cls := .type "dict", data := .dict #[] }).DictOfH (nestKind (mixKind X.prog X.w)) s.heap.objs.size [] := Heap.DictOfH.new s.heap
 have hTn : ({ s with heap := s.heap.push { cls := .type "dict", data := .dict #[] } } : Shared).TypeIs (.ref s.heap.objs.size) "dict" := hnew.typeIs (s := { s with heap := s.heap.push { cls := .type "dict", data := .dict #[] } })
 have h1' : (s.heap.push { cls := .type "dict", data := .dict #[] }).get? p = some { cls := .type "list", dict := none, data := .seq its.toArray n, slots := #[] } := Heap.get?_push_of_some _ h1
 have hlt : p < s.heap.objs.size := Heap.lt_size h1
 refine ⟨hTn, PySem.F.args_dict_init_2 _ _, ?_⟩
 unfold Builtin.«dict.__init__»
 refine wpAny_bind ?_
 unfold Builtin.Dict.selfAndRest
 refine wpAny_bind (wpAny_notOrdered_dict hTn (show wpAny _ _ (pure (s.heap.objs.size, [Value.ref p])) _ _ _ from wpAny_pure ?_))
 show wpAny _ _ (Builtin.Dict.updateFrom "dict.__init__" s.heap.objs.size (.ref p) [] .none) _ _ _
 unfold Builtin.Dict.updateFrom
 refine wpAny_bind (wpAny_typeOf (T := "list") ⟨_, h1', rfl⟩ ?_)
 rw [if_pos (by decide)]
 refine wpAny_bind (lst_noKeys (s := { s with heap := s.heap.push { cls := .type "dict", data := .dict #[] } }) h1' hh fun g tk hk => ?_)
 simp only [Option.isNone_none, if_true]
 refine wpAny_bind (wpAny_rule ?_)
 have hta : g.IsList p its.toArray := ⟨_, hk _ _ h1', rfl, n, rfl⟩
 refine wpAny_bind (wpAny_pyIter_list (s := { s with heap := g, toks := tk }) hta (wpAny_pure ⟨plainId_quiet plain_dul _, ?_⟩))
 have gsz : s.heap.objs.size + 1 ≤ g.objs.size := by
  obtain ⟨o, es, ep, ho, _⟩ := hnew
  exact Heap.lt_size (hk _ _ ho)
 have hgd : (g.push { cls := .type "list_iterator", data := .fields #[.ref p, .int 0 0] }).DictOfH (nestKind (mixKind X.prog X.w)) s.heap.objs.size [] := by
  obtain ⟨o, es, ep, ho, a1, a2, a3, _, a5⟩ := hnew
  exact ⟨o, es, ep, Heap.get?_push_of_some _ (hk _ _ ho), a1, a2, a3, (fun x hx => by cases hx), a5⟩
 have up : ∀ b o, s.heap.get? b = some o → (g.push { cls := .type "list_iterator", data := .fields #[.ref p, .int 0 0] }).get? b = some o := fun b o e => Heap.get?_push_of_some _ (hk _ _ (Heap.get?_push_of_some _ e))
 refine dictLoopN (A := X.A.in1) (rows := rh) (its := its.toArray) (t := p) (by have : X.A.in1.units = X.A.units + 1 := rfl; omega) hh (Nat.ne_of_lt (Nat.lt_of_succ_le gsz)) (Nat.ne_of_lt (Nat.lt_trans hlt (Nat.lt_of_succ_le gsz))) (Nat.ne_of_lt hlt) (by rw [List.size_toArray]; omega) (by omega) rh.length 0 _ [] (by omega) (Nat.zero_le _) (Nat.le_refl _)
  ⟨_, Heap.get?_push_size _ rfl, rfl, rfl⟩ (hta.push _) hgd (fun j v r hv hr => ?_) fun h' tk' hD hK => ?_
 · have hv : its[j]? = some v := by simpa using hv
   have hj : j < bs.length := by
    have := (List.getElem?_eq_some_iff.mp hv).1
    omega
   obtain ⟨u, hu', ru⟩ := rv.get (i := j) (x := V.ref bs[j]) (by rw [List.getElem?_map, List.getElem?_eq_getElem hj]; rfl)
   rw [hu'] at hv
   cases hv
   cases (show v = Value.ref bs[j] from ru)
   obtain ⟨⟨ob, hob, rr⟩, hk'⟩ := hrows j bs[j] r (List.getElem?_eq_getElem hj) hr
   exact ⟨bs[j], rfl, ⟨ob, up _ _ hob, rr⟩, nest_keep hk' fun c o _ e => up c o e⟩
 · refine ⟨rfl, ?_⟩
   have keep : ∀ b o, s.heap.get? b = some o → h'.get? b = some o := fun b o e => hK b o (Nat.ne_of_lt (Heap.lt_size e)) (Nat.ne_of_lt (Nat.lt_trans (Heap.lt_size e) (Nat.lt_of_succ_le gsz))) (up b o e)
   obtain ⟨rel, hlen⟩ := kn_merge (kvs := []) (xs := []) hrp .nil
   have hpl := Paired.length hrp
   have hnone := I.hok.fresh (Nat.le_refl s.heap.objs.size)
   have zz : (s.heap.objs.size == sysModules) = false := beq_eq_false_iff_ne.mpr (Ne.symm (Nat.ne_of_lt I.big))
   obtain ⟨o, es, ep, ho, a1, a2, a3, _, a5⟩ := hD
   rw [List.drop_zero] at a3 a5
   have sm := Same.new hnone (.ext (phiN X.prog X.w s.heap.objs.size (mergeN [] rh)))
   have hz0 : (putAll rows []).length ≤ sizeLine := by
    have : ([] : List (KeyN × V)).length = 0 := rfl
    omega
   exact ⟨.ref s.heap.objs.size, _, I.laid (a := s.heap.objs.size) (t' := tk') keep (Nat.le_refl _) (phiN.ok (xs := mergeN [] rh) ⟨o, es, ep, ho, a1, a2, a3⟩), rfl, q _ _ sm hnone ⟨_, upd_same, zz, hz0, a5, Paired.mapP rel fun _ _ z => ⟨z.1, z.2.1.mono sm, z.2.2⟩⟩⟩
end
section
variable {prog : Program} {w : World} {A : Around} {E : Value → Shared → Prop} {s : Shared}
theorem nextOrEnd_lst {it t : Addr} {i : Nat} {its : Array Value} {v : Value} {Q : Option Value → Shared → Prop} (hit : s.heap.IsListIter it t i) (ht : s.heap.IsList t its) (hv : its[i]? = some v)
  (k : ∀ g, g.IsListIter it t (i + 1) → Heap.SameBut it s.heap g → Q (some v) { s with heap := g }) : wpAny (model prog w) A (Builtin.SmallTypes.nextOrEnd (.ref it)) Q E s := by
 unfold Builtin.SmallTypes.nextOrEnd
 exact wpAny_bind (wpAny_attempt (wpAny_nextOf_list_item hit ht hv fun g h1 h2 => wpAny_pure (k g h1 h2)))
theorem nextOrEnd_lstEnd {it t : Addr} {i : Nat} {its : Array Value} {Q : Option Value → Shared → Prop} (hh : A.handled = none) (hit : s.heap.IsListIter it t i) (ht : s.heap.IsList t its) (hv : its[i]? = none)
  (k : ∀ g, Heap.ExtBut it s.heap g → Q none { s with heap := g }) : wpAny (model prog w) A (Builtin.SmallTypes.nextOrEnd (.ref it)) Q E s := by
 unfold Builtin.SmallTypes.nextOrEnd
 refine wpAny_bind (wpAny_attempt (wpAny_nextOf_list_end hh hit ht hv fun g x hx ⟨o, ho, hc⟩ => ?_))
 exact wpAny_bind (wpAny_isInstance (T := "StopIteration") (b := true) ⟨o, ho, hc⟩ isSubtype_stop (wpAny_pure (k _ hx)))
theorem zip_itemL {z ti to it1 it2 t1 t2 : Addr} {i : Nat} {a1 a2 : Array Value} {v1 v2 a b : Value} {Q : Option Value → Shared → Prop} (hz : IsZipT s.heap z ti to .none) (hti : IsIts s.heap ti it1 it2) (hto : s.heap.get? to = some { cls := .type "tuple", data := .seq #[a, b] })
  (hi1 : s.heap.IsTupleIter it1 t1 i) (hi2 : s.heap.IsListIter it2 t2 i)
  (h1 : s.heap.IsTuple t1 a1) (h2 : s.heap.IsList t2 a2) (e1 : a1[i]? = some v1) (e2 : a2[i]? = some v2) (nd : [z, ti, to, it1, it2].Nodup) (nt : t1 ∉ [z, to, it1, it2] ∧ t2 ∉ [z, to, it1, it2])
  (k : ∀ g, IsZipT g z ti to (rawInt s.heap.objs.size) → IsIts g ti it1 it2 → g.get? to = some { cls := .type "tuple", data := .seq #[v1, v2] } → g.IsTupleIter it1 t1 (i + 1) → g.IsListIter it2 t2 (i + 1) →
   g.get? s.heap.objs.size = some { cls := .type "tuple", data := .seq #[v1, v2] } → g.objs.size = s.heap.objs.size + 1 → (∀ c o, c ≠ z → c ≠ to → c ≠ it1 → c ≠ it2 → s.heap.get? c = some o → g.get? c = some o) → Q (some (.ref s.heap.objs.size)) { s with heap := g }) :
  wpAny (model prog w) A (pyNext (.ref z)) Q E s := by
 have hT : s.TypeIs (.ref z) "zip" := ⟨_, hz, rfl⟩
 simp only [List.nodup_cons, List.mem_cons, List.not_mem_nil, or_false, not_or, not_false_eq_true, List.nodup_nil, and_true] at nd
 simp only [List.mem_cons, List.not_mem_nil, or_false, not_or] at nt
 obtain ⟨⟨n1, n2, n3, n4⟩, ⟨n5, n6, n7⟩, ⟨n8, n9⟩, n10⟩ := nd
 obtain ⟨⟨m1, m2, m3, m4⟩, m5, m6, m7, m8⟩ := nt
 unfold pyNext
 refine wpAny_bind (wpAny_attempt (wpAny_callSpecial?_slot (name := Str.ofString "__next__") hT PySem.F.slot_zip_next (wpAny_call_entry PySem.F.slot_zip_next hT PySem.F.entry_zip_next ?_ (PySem.F.args_zip_next_1 _))))
 obtain ⟨hp, gs, d, tk, os⟩ := s
 show wpAny _ _ (field (.ref z) 2 >>= _) _ _ _
 refine wpAny_bind (wpAny_field hz rfl (x := .bool true) rfl ?_)
 show wpAny _ _ (field (.ref z) 3 >>= _) _ _ _
 refine wpAny_bind (wpAny_field hz rfl (x := .ref ti) rfl ?_)
 refine wpAny_bind (wpAny_seqItems hti rfl ?_)
 dsimp only
 refine wpAny_bind ?_
 unfold Builtin.SmallTypes.ownedTupleIsFree
 refine wpAny_bind (wpAny_field hz rfl (x := .none) rfl (wpAny_pure ?_))
 simp only [if_true]
 refine wpAny_bind (wpAny_rule (wpAny_bind (wpAny_field hz rfl (x := .ref to) rfl ?_)))
 dsimp only
 refine wpAny_bind (wpAny_setField_rec hz (by simp) fun g1 hz1 hs1 => ?_)
 replace hs1 : Heap.SameBut z hp g1 := hs1
 replace hz1 : IsZipT g1 z ti to .ellipsis := hz1
 refine wpAny_bind ?_
 have hto1 : g1.get? to = some { cls := .type "tuple", data := .seq #[a, b] } := hs1.extBut _ _ (Ne.symm n2) hto
 have hi11 : g1.IsTupleIter it1 t1 i := hi1.extBut hs1.extBut (Ne.symm n3)
 have hi21 : g1.IsListIter it2 t2 i := hi2.extBut hs1.extBut (Ne.symm n4)
 have h11 : g1.IsTuple t1 a1 := h1.extBut hs1.extBut m1
 have h21 : g1.IsList t2 a2 := h2.extBut hs1.extBut m5
 rw [show ([Value.ref it1, Value.ref it2] : List Value).zipIdx = [(Value.ref it1, 0), (Value.ref it2, 1)] from rfl, List.forIn_cons]
 refine wpAny_bind (wpAny_bind (wpAny_onRaise ?_))
 show wpAny _ _ (Builtin.SmallTypes.nextOrEnd (.ref it1)) _ _ ⟨g1, gs, d, tk, os⟩
 refine nextOrEnd_tup hi11 h11 e1 fun g2 hi12 hs2 => ?_
 replace hs2 : Heap.SameBut it1 g1 g2 := hs2
 dsimp only
 have hto2 : g2.get? to = some { cls := .type "tuple", data := .seq #[a, b] } := hs2.extBut _ _ n8 hto1
 refine wpAny_bind (wpAny_seqItems (s := ⟨g2, gs, d, tk, os⟩) hto2 rfl ?_)
 dsimp only
 refine wpAny_bind (wpAny_updateSeq_pair (s := ⟨g2, gs, d, tk, os⟩) hto2 fun g3 hto3 hs3 => ?_)
 replace hs3 : Heap.SameBut to g2 g3 := hs3
 replace hto3 : g3.get? to = some { cls := .type "tuple", data := .seq #[v1, b] } := hto3
 refine wpAny_bind (wpAny_letGo (wpAny_pure ?_))
 dsimp only
 rw [List.forIn_cons]
 refine wpAny_bind (wpAny_bind (wpAny_onRaise ?_))
 show wpAny _ _ (Builtin.SmallTypes.nextOrEnd (.ref it2)) _ _ ⟨g3, gs, d, tk, os⟩
 have hi23 : g3.IsListIter it2 t2 i := (hi21.extBut hs2.extBut (Ne.symm n10)).extBut hs3.extBut (Ne.symm n9)
 have h23 : g3.IsList t2 a2 := (h21.extBut hs2.extBut m7).extBut hs3.extBut m6
 refine nextOrEnd_lst hi23 h23 e2 fun g4 hi24 hs4 => ?_
 replace hs4 : Heap.SameBut it2 g3 g4 := hs4
 dsimp only
 have hto4 : g4.get? to = some { cls := .type "tuple", data := .seq #[v1, b] } := hs4.extBut _ _ n9 hto3
 refine wpAny_bind (wpAny_seqItems (s := ⟨g4, gs, d, tk, os⟩) hto4 rfl ?_)
 dsimp only
 refine wpAny_bind (wpAny_updateSeq_pair (s := ⟨g4, gs, d, tk, os⟩) hto4 fun g5 hto5 hs5 => ?_)
 replace hs5 : Heap.SameBut to g4 g5 := hs5
 replace hto5 : g5.get? to = some { cls := .type "tuple", data := .seq #[v1, v2] } := hto5
 refine wpAny_bind (wpAny_letGo (wpAny_pure ?_))
 dsimp only
 rw [List.forIn_nil]
 refine wpAny_pure ?_
 dsimp only
 refine wpAny_bind (wpAny_seqItems (s := ⟨g5, gs, d, tk, os⟩) hto5 rfl ?_)
 dsimp only
 refine wpAny_bind (wpAny_newTuple (s := ⟨g5, gs, d, tk, os⟩) ?_)
 have hz5 : IsZipT g5 z ti to .ellipsis := hs5.extBut _ _ n2 (hs4.extBut _ _ n4 (hs3.extBut _ _ n2 (hs2.extBut _ _ n3 hz1)))
 have sz5 : g5.objs.size = hp.objs.size := by rw [hs5.1, hs4.1, hs3.1, hs2.1, hs1.1]
 have keep5 : ∀ c o, c ≠ z → c ≠ to → c ≠ it1 → c ≠ it2 → hp.get? c = some o → g5.get? c = some o := fun c o q1 q2 q3 q4 e => hs5.extBut c o q2 (hs4.extBut c o q4 (hs3.extBut c o q2 (hs2.extBut c o q3 (hs1.extBut c o q1 e))))
 have hi15 : g5.IsTupleIter it1 t1 (i + 1) := ((hi12.extBut hs3.extBut (Ne.symm n8)).extBut hs4.extBut n10).extBut hs5.extBut (Ne.symm n8)
 have hi25 : g5.IsListIter it2 t2 (i + 1) := hi24.extBut hs5.extBut (Ne.symm n9)
 have hzl : z < hp.objs.size := Heap.lt_size hz
 dsimp only
 rw [sz5]
 have hz6 : IsZipT (g5.push { cls := .type "tuple", data := .seq [v1, v2].toArray }) z ti to .ellipsis := Heap.get?_push_of_some _ hz5
 have hT6 : (g5.push { cls := .type "tuple", data := .seq [v1, v2].toArray }).get? hp.objs.size = some { cls := .type "tuple", data := .seq #[v1, v2] } := by rw [← sz5]; exact Heap.get?_push_size _ rfl
 have keep6 : ∀ c o, g5.get? c = some o → (g5.push { cls := .type "tuple", data := .seq [v1, v2].toArray }).get? c = some o := fun c o e => Heap.get?_push_of_some _ e
 have sz6 : (g5.push { cls := .type "tuple", data := .seq [v1, v2].toArray }).objs.size = hp.objs.size + 1 := by rw [Heap.size_push, sz5]
 show wpAny _ _ (Builtin.SmallTypes.ownedTupleHandOut (.ref z) (.ref hp.objs.size) >>= _) _ _ ⟨g5.push { cls := .type "tuple", data := .seq [v1, v2].toArray }, gs, d, tk, os⟩
 generalize g5.push { cls := .type "tuple", data := .seq [v1, v2].toArray } = g6 at hz6 hT6 keep6 sz6 ⊢
 refine wpAny_bind ?_
 unfold Builtin.SmallTypes.ownedTupleHandOut
 refine wpAny_bind (wpAny_setField_rec hz6 (by simp) fun g7 hz7 hs7 => ?_)
 replace hs7 : Heap.SameBut z g6 g7 := hs7
 replace hz7 : IsZipT g7 z ti to (rawInt hp.objs.size) := hz7
 refine wpAny_setField_rec hz7 (by simp) fun g8 hz8 hs8 => ?_
 replace hs8 : Heap.SameBut z g7 g8 := hs8
 replace hz8 : IsZipT g8 z ti to (rawInt hp.objs.size) := hz8
 have up : ∀ c o, c ≠ z → g5.get? c = some o → g8.get? c = some o := fun c o q e => hs8.extBut c o q (hs7.extBut c o q (keep6 c o e))
 refine wpAny_pure ⟨_, rfl, wpAny_pure (k g8 hz8 ?_ (up _ _ (Ne.symm n2) hto5) ?_ ?_ ?_ ?_ fun c o q1 q2 q3 q4 e => up c o q1 (keep5 c o q1 q2 q3 q4 e))⟩
 · exact up _ _ (Ne.symm n1) (keep5 _ _ (Ne.symm n1) n5 n6 n7 hti)
 · obtain ⟨o, e, r⟩ := hi15
   exact ⟨o, up _ _ (Ne.symm n3) e, r⟩
 · obtain ⟨o, e, r⟩ := hi25
   exact ⟨o, up _ _ (Ne.symm n4) e, r⟩
 · exact hs8.extBut _ _ (Nat.ne_of_gt hzl) (hs7.extBut _ _ (Nat.ne_of_gt hzl) hT6)
 · rw [hs8.1, hs7.1, sz6]
theorem zip_endL {z ti to it1 it2 t1 t2 : Addr} {i : Nat} {a1 a2 : Array Value} {a b : Value} {Q : Option Value → Shared → Prop} (hh : A.handled = none) (hz : IsZipT s.heap z ti to .none) (hti : IsIts s.heap ti it1 it2) (hto : s.heap.get? to = some { cls := .type "tuple", data := .seq #[a, b] })
  (hi1 : s.heap.IsTupleIter it1 t1 i) (hi2 : s.heap.IsListIter it2 t2 i)
  (h1 : s.heap.IsTuple t1 a1) (h2 : s.heap.IsList t2 a2) (e1 : a1[i]? = none) (e2 : a2[i]? = none) (nd : [z, ti, to, it1, it2].Nodup) (nt : t1 ∉ [z, to, it1, it2] ∧ t2 ∉ [z, to, it1, it2])
  (k : ∀ g, (∀ c o, c ≠ z → c ≠ it1 → c ≠ it2 → s.heap.get? c = some o → g.get? c = some o) → Q none { s with heap := g }) :
  wpAny (model prog w) A (pyNext (.ref z)) Q E s := by
 have hT : s.TypeIs (.ref z) "zip" := ⟨_, hz, rfl⟩
 simp only [List.nodup_cons, List.mem_cons, List.not_mem_nil, or_false, not_or, not_false_eq_true, List.nodup_nil, and_true] at nd
 simp only [List.mem_cons, List.not_mem_nil, or_false, not_or] at nt
 obtain ⟨⟨n1, n2, n3, n4⟩, ⟨n5, n6, n7⟩, ⟨n8, n9⟩, n10⟩ := nd
 obtain ⟨⟨m1, m2, m3, m4⟩, m5, m6, m7, m8⟩ := nt
 unfold pyNext
 refine wpAny_bind (wpAny_attempt (wpAny_callSpecial?_slot (name := Str.ofString "__next__") hT PySem.F.slot_zip_next (wpAny_call_entry PySem.F.slot_zip_next hT PySem.F.entry_zip_next ?_ (PySem.F.args_zip_next_1 _))))
 obtain ⟨hp, gs, d, tk, os⟩ := s
 show wpAny _ _ (field (.ref z) 2 >>= _) _ _ _
 refine wpAny_bind (wpAny_field hz rfl (x := .bool true) rfl ?_)
 show wpAny _ _ (field (.ref z) 3 >>= _) _ _ _
 refine wpAny_bind (wpAny_field hz rfl (x := .ref ti) rfl ?_)
 refine wpAny_bind (wpAny_seqItems hti rfl ?_)
 dsimp only
 refine wpAny_bind ?_
 unfold Builtin.SmallTypes.ownedTupleIsFree
 refine wpAny_bind (wpAny_field hz rfl (x := .none) rfl (wpAny_pure ?_))
 simp only [if_true]
 refine wpAny_bind (wpAny_rule (wpAny_bind (wpAny_field hz rfl (x := .ref to) rfl ?_)))
 dsimp only
 refine wpAny_bind (wpAny_setField_rec hz (by simp) fun g1 hz1 hs1 => ?_)
 replace hs1 : Heap.SameBut z hp g1 := hs1
 replace hz1 : IsZipT g1 z ti to .ellipsis := hz1
 refine wpAny_bind ?_
 have hi11 : g1.IsTupleIter it1 t1 i := hi1.extBut hs1.extBut (Ne.symm n3)
 have hi21 : g1.IsListIter it2 t2 i := hi2.extBut hs1.extBut (Ne.symm n4)
 have h11 : g1.IsTuple t1 a1 := h1.extBut hs1.extBut m1
 have h21 : g1.IsList t2 a2 := h2.extBut hs1.extBut m5
 rw [show ([Value.ref it1, Value.ref it2] : List Value).zipIdx = [(Value.ref it1, 0), (Value.ref it2, 1)] from rfl, List.forIn_cons]
 refine wpAny_bind (wpAny_bind (wpAny_onRaise ?_))
 show wpAny _ _ (Builtin.SmallTypes.nextOrEnd (.ref it1)) _ _ ⟨g1, gs, d, tk, os⟩
 refine nextOrEnd_tupEnd hh hi11 h11 e1 fun g2 hs2 => ?_
 replace hs2 : Heap.ExtBut it1 g1 g2 := hs2
 dsimp only
 have hz2 : IsZipT g2 z ti to .ellipsis := hs2 _ _ n3 hz1
 refine wpAny_bind (wpAny_setField_rec (s := ⟨g2, gs, d, tk, os⟩) hz2 (by simp) fun g3 hz3 hs3 => ?_)
 replace hs3 : Heap.SameBut z g2 g3 := hs3
 have hi23 : g3.IsListIter it2 t2 i := (hi21.extBut hs2 (Ne.symm n10)).extBut hs3.extBut (Ne.symm n4)
 have h23 : g3.IsList t2 a2 := (h21.extBut hs2 m7).extBut hs3.extBut m5
 refine wpAny_bind ?_
 show wpAny _ _ (forIn [(Value.ref it2, 1)] PUnit.unit _ >>= _) _ _ _
 refine wpAny_bind ?_
 rw [List.forIn_cons]
 refine wpAny_bind ?_
 dsimp only
 refine wpAny_bind (nextOrEnd_lstEnd hh hi23 h23 e2 fun g4 hs4 => ?_)
 replace hs4 : Heap.ExtBut it2 g3 g4 := hs4
 simp only [Option.isSome_none, Bool.false_eq_true, if_false]
 refine wpAny_pure ?_
 dsimp only
 rw [List.forIn_nil]
 refine wpAny_pure (wpAny_bind (wpAny_rule ?_))
 have keep4 : ∀ c o, c ≠ z → c ≠ it1 → c ≠ it2 → hp.get? c = some o → g4.get? c = some o := fun c o q1 q2 q3 e => hs4 c o q3 (hs3.extBut c o q1 (hs2 c o q2 (hs1.extBut c o q1 e)))
 unfold Builtin.SmallTypes.stopIteration
 show wpAny _ _ (newExc (.type "StopIteration") [] >>= _) _ _ _
 refine wpAny_bind ?_
 simp only [newExc, newTuple]
 refine wpAny_bind (wpAny_newObj_type ?_ (by size_fits))
 refine wpAny_bind (m := firstArgMember _ _) (wpAny_of_eq (a := Value.none) (by first | rfl | (simp only [firstArgMember]; rfl)) ?_)
 refine wpAny_newObj_type ?_ (by size_fits)
 simp only [raiseNew]
 refine wpAny_bind (wpAny_handled ?_)
 first | rw [show A.in1.handled = none from hh] | rw [hh]
 refine wpAny_bind (wpAny_pure (wpAny_throw ?_))
 exact wpAny_bind (wpAny_isInstance (T := "StopIteration") (b := true) ⟨_, Heap.get?_push_size _ rfl, rfl⟩ isSubtype_stop (wpAny_pure (k _ fun c o q1 q2 q3 e => Heap.get?_push_of_some _ (Heap.get?_push_of_some _ (keep4 c o q1 q2 q3 e)))))
end
theorem lstAt {P : Program} {w : World} {H : Hp} {h : Heap} {a : Addr} {xs : List V} (ok : HOk P w H h) (e : H a = some (.lst xs)) : ∃ its : List Value, Vals xs its ∧ h.IsList a its.toArray := by
 obtain ⟨_, its, n, r, t⟩ := (show ObjOk P w H h a (.lst xs) from ok a _ e)
 exact ⟨its, r, _, t, rfl, n, rfl⟩
noncomputable def ItzL (a b : Addr) : It :=
 ⟨fun i H => ∃ xs ys x y, H a = some (.tup xs) ∧ H b = some (.lst ys) ∧ xs[i]? = some x ∧ ys[i]? = some y,
  fun i H v H' => ∃ p x y, v = .ref p ∧ H p = none ∧ H' = upd H p (.tup [x, y]) ∧ (∀ xs, H a = some (.tup xs) → xs[i]? = some x) ∧ ∀ ys, H b = some (.lst ys) → ys[i]? = some y,
  fun i H => ∃ xs ys, H a = some (.tup xs) ∧ H b = some (.lst ys) ∧ xs.length ≤ i ∧ ys.length ≤ i⟩
theorem turn_zipL {P : Program} {w : World} {K : PySem.W.Frag} {elts : List Expr} {k1} {pos : Pos} (a b z ti to it1 it2 : Addr) (nd : [z, ti, to, it1, it2].Nodup) (hb : sizeLine ≥ 2) :
  Turn P w K (.Tuple elts k1 pos) (ItzL a b) [z, ti, to, it1, it2] z (fun i h => IsZipT h z ti to .none ∧ IsIts h ti it1 it2 ∧ (∃ u v, h.get? to = some { cls := .type "tuple", data := .seq #[u, v] }) ∧ h.IsTupleIter it1 a i ∧ h.IsListIter it2 b i) where
 mem := by simp
 obj := fun i h st c hc => by
  obtain ⟨hz, hti, ⟨u, v, hto⟩, h1, h2⟩ := st
  simp only [List.mem_cons, List.not_mem_nil, or_false] at hc
  rcases hc with rfl | rfl | rfl | rfl | rfl
  · exact ⟨_, hz, fun v q => by
     have q' : Data.fields _ = Data.cell v := q
     cases q'⟩
  · exact ⟨_, hti, fun v q => by
     have q' : Data.seq _ _ = Data.cell v := q
     cases q'⟩
  · exact ⟨_, hto, fun v q => by
     have q' : Data.seq _ _ = Data.cell v := q
     cases q'⟩
  · obtain ⟨o, e1, c, d⟩ := h1
    exact ⟨o, e1, fun v q => by rw [d] at q; cases q⟩
  · obtain ⟨o, e1, c, d⟩ := h2
    exact ⟨o, e1, fun v q => by rw [d] at q; cases q⟩
 keep := fun i h h' st k => by
  obtain ⟨hz, hti, ⟨u, v, hto⟩, ⟨o1, e1, r1⟩, o2, e2, r2⟩ := st
  exact ⟨k z (by simp) _ hz, k ti (by simp) _ hti, ⟨u, v, k to (by simp) _ hto⟩, ⟨o1, k it1 (by simp) o1 e1, r1⟩, o2, k it2 (by simp) o2 e2, r2⟩
 item := by
  intro X hP hw hK hc i pins s σ H E I hf st hg
  subst hP hw hK
  obtain ⟨xs, ys, x, y, hxs, hys, hx, hy⟩ := hg
  obtain ⟨its, rv, p⟩ := tupAt I.hok hxs
  obtain ⟨jts, rw', q⟩ := lstAt I.hok hys
  obtain ⟨u, hu, ru⟩ := rv.get hx
  obtain ⟨v, hv, rvv⟩ := rw'.get hy
  obtain ⟨hz, hti, ⟨u0, v0, hto⟩, hi1, hi2⟩ := st
  have ff : ∀ c ∈ [z, ti, to, it1, it2], H c = none := fun c hc => (hf c hc).1
  have ne : ∀ {c d : Addr} {o : HO}, H c = some o → d ∈ [z, ti, to, it1, it2] → c ≠ d := fun {c d o} e hd q => by rw [q, ff d hd] at e; cases e
  refine zip_itemL hz hti hto hi1 hi2 p q (v1 := u) (v2 := v) (by simpa using hu) (by simpa using hv) nd ⟨fun m => ?_, fun m => ?_⟩ fun g gz gti gto gi1 gi2 gT gsz gk => ?_
  · simp only [List.mem_cons, List.not_mem_nil, or_false] at m
    rcases m with m | m | m | m <;> exact ne hxs (by simp) m
  · simp only [List.mem_cons, List.not_mem_nil, or_false] at m
    rcases m with m | m | m | m <;> exact ne hys (by simp) m
  refine ⟨.ref s.heap.objs.size, rfl, letGo_zip gz fun g' gz' gs' => ?_⟩
  replace gs' : Heap.SameBut z g g' := gs'
  have hfr : H s.heap.objs.size = none := I.hok.fresh (Nat.le_refl _)
  have hin : ∀ c ∈ [z, ti, to, it1, it2], c < s.heap.objs.size := fun c hc => by
   simp only [List.mem_cons, List.not_mem_nil, or_false] at hc
   rcases hc with rfl | rfl | rfl | rfl | rfl
   · exact Heap.lt_size hz
   · exact Heap.lt_size hti
   · exact Heap.lt_size hto
   · obtain ⟨o, e, _⟩ := hi1; exact Heap.lt_size e
   · obtain ⟨o, e, _⟩ := hi2; exact Heap.lt_size e
  have hTn : ∀ c ∈ [z, ti, to, it1, it2], s.heap.objs.size ≠ c := fun c hc => Nat.ne_of_gt (hin c hc)
  have hk' : ∀ c o, c ∉ [z, to, it1, it2] → s.heap.get? c = some o → g'.get? c = some o := fun c o n e => by
   simp only [List.mem_cons, List.not_mem_nil, or_false, not_or] at n
   exact gs'.extBut c o n.1 (gk c o n.1 n.2.1 n.2.2.1 n.2.2.2 e)
  have hT' : g'.get? s.heap.objs.size = some { cls := .type "tuple", data := .seq #[u, v] } := gs'.extBut _ _ (hTn z (by simp)) gT
  have old1 : ∀ c o, H c = some o → c ∉ [z, to, it1, it2] := fun c o e m => ne e (show c ∈ [z, ti, to, it1, it2] by
   simp only [List.mem_cons, List.not_mem_nil, or_false] at m ⊢
   rcases m with m | m | m | m <;> simp [m]) rfl
  have I1 : Inv X pins σ (upd H s.heap.objs.size (.tup [x, y])) { s with heap := g', toks := s.toks } := by
   refine I.step (g' := s.gens) (d' := s.drawn) (ch := [z, to, it1, it2]) (fun c hc => ?_) (fun c o n1 n2 n3 e _ => hk' c o n3 e)
    (fun c o n1 n2 n3 e _ => ⟨o.slots, hk' c o n3 e⟩) (fun c o n3 e n => ?_) (fun c o n3 e => ⟨o, hk' c o n3 e⟩)
    (fun c zs e => by rw [zqf (zqg e hfr)]; exact e) (fun c o zs e => by rw [zqf (zqg e hfr)]; exact e) (fun c ps e => ⟨#[], by rw [zqf (zqg e hfr), e]; simp⟩) (fun m hm => ?_) (fun c ob e => ?_) I.bare
   · obtain ⟨f0, f1, f2, f3, f4, f5⟩ := hf c (by
      simp only [List.mem_cons, List.not_mem_nil, or_false] at hc ⊢
      rcases hc with hc | hc | hc | hc <;> simp [hc])
     exact ⟨f3, f1, f4, f5⟩
   · rw [zqf (Nat.ne_of_lt (Heap.lt_size e))]; exact n
   · obtain ⟨o, es, ep, hoo, r⟩ := hm
     refine ⟨o, es, ep, hk' _ o (fun m => ?_) hoo, r⟩
     simp only [List.mem_cons, List.not_mem_nil, or_false] at m
     rcases m with m | m | m | m
     · exact (hf z (by simp)).2.1 m.symm
     · exact (hf to (by simp)).2.1 m.symm
     · exact (hf it1 (by simp)).2.1 m.symm
     · exact (hf it2 (by simp)).2.1 m.symm
   · by_cases hcb : c = s.heap.objs.size
     · subst hcb
       rw [upd_same] at e
       cases e
       exact ⟨by show 2 ≤ sizeLine; omega, [u, v], .cons ru (.cons rvv .nil), ⟨_, hT', rfl, _, rfl⟩, fun q hq => by
        have hq : g'.get? s.heap.objs.size = some q := hq
        rw [hT'] at hq
        cases hq
        rfl⟩
     · rw [zqf hcb] at e
       refine (I.hok c ob e).stay (fun d o hc q => ?_) (fun d q => by rw [zqf (zqg q hfr)]; exact q) fun d zs q => by rw [zqf (zqg q hfr)]; exact q
       rcases hc with rfl | hc
       · exact hk' d o (old1 d _ e) q
       · exact hk' d o (old1 d _ hc) q
  refine ⟨.ref s.heap.objs.size, _, I1, rfl, ⟨_, x, y, rfl, hfr, rfl, fun zs e => by rw [hxs] at e; cases e; exact hx, fun zs e => by rw [hys] at e; cases e; exact hy⟩, ⟨gz', gs'.extBut _ _ ?_ gti, ⟨u, v, gs'.extBut _ _ ?_ gto⟩, gi1.extBut gs'.extBut ?_, gi2.extBut gs'.extBut ?_⟩, fun c hc => ?_⟩
  · simp only [List.nodup_cons, List.mem_cons, List.not_mem_nil, or_false, not_or] at nd; exact Ne.symm nd.1.1
  · simp only [List.nodup_cons, List.mem_cons, List.not_mem_nil, or_false, not_or] at nd; exact Ne.symm nd.1.2.1
  · simp only [List.nodup_cons, List.mem_cons, List.not_mem_nil, or_false, not_or] at nd; exact Ne.symm nd.1.2.2.1
  · simp only [List.nodup_cons, List.mem_cons, List.not_mem_nil, or_false, not_or] at nd; exact Ne.symm nd.1.2.2.2
  · rw [zqf (Ne.symm (hTn c hc))]; exact ff c hc
 done := by
  intro X hP hw hK hc i pins s σ H E I hf st hg
  subst hP hw hK
  obtain ⟨xs, ys, hxs, hys, hx, hy⟩ := hg
  obtain ⟨its, rv, p⟩ := tupAt I.hok hxs
  obtain ⟨jts, rw', q⟩ := lstAt I.hok hys
  obtain ⟨hz, hti, ⟨u0, v0, hto⟩, hi1, hi2⟩ := st
  have ff : ∀ c ∈ [z, ti, to, it1, it2], H c = none := fun c hc => (hf c hc).1
  have ne : ∀ {c d : Addr} {o : HO}, H c = some o → d ∈ [z, ti, to, it1, it2] → c ≠ d := fun {c d o} e hd q => by rw [q, ff d hd] at e; cases e
  have l1 := rv.length
  have l2 := rw'.length
  refine zip_endL (I.ok.hd hc) hz hti hto hi1 hi2 p q (by simp; omega) (by simp; omega) nd ⟨fun m => ?_, fun m => ?_⟩ fun g gk => ⟨rfl, ?_⟩
  · simp only [List.mem_cons, List.not_mem_nil, or_false] at m
    rcases m with m | m | m | m <;> exact ne hxs (by simp) m
  · simp only [List.mem_cons, List.not_mem_nil, or_false] at m
    rcases m with m | m | m | m <;> exact ne hys (by simp) m
  have hk' : ∀ c o, c ∉ [z, it1, it2] → s.heap.get? c = some o → g.get? c = some o := fun c o n e => by
   simp only [List.mem_cons, List.not_mem_nil, or_false, not_or] at n
   exact gk c o n.1 n.2.1 n.2.2 e
  have old1 : ∀ c o, H c = some o → c ∉ [z, it1, it2] := fun c o e m => ne e (show c ∈ [z, ti, to, it1, it2] by
   simp only [List.mem_cons, List.not_mem_nil, or_false] at m ⊢
   rcases m with m | m | m <;> simp [m]) rfl
  refine I.step (g' := s.gens) (t' := s.toks) (d' := s.drawn) (ch := [z, it1, it2]) (fun c hc => ?_) (fun c o n1 n2 n3 e _ => hk' c o n3 e)
   (fun c o n1 n2 n3 e _ => ⟨o.slots, hk' c o n3 e⟩) (fun _ _ _ _ n => n) (fun c o n3 e => ⟨o, hk' c o n3 e⟩)
   (fun _ _ e => e) (fun _ _ _ e => e) (fun c ps e => ⟨#[], by rw [e]; simp⟩) (fun m hm => ?_) (fun c ob e => ?_) I.bare
  · obtain ⟨f0, f1, f2, f3, f4, f5⟩ := hf c (by
     simp only [List.mem_cons, List.not_mem_nil, or_false] at hc ⊢
     rcases hc with hc | hc | hc <;> simp [hc])
    exact ⟨f3, f1, f4, f5⟩
  · obtain ⟨o, es, ep, hoo, r⟩ := hm
    refine ⟨o, es, ep, hk' _ o (fun m => ?_) hoo, r⟩
    simp only [List.mem_cons, List.not_mem_nil, or_false] at m
    rcases m with m | m | m
    · exact (hf z (by simp)).2.1 m.symm
    · exact (hf it1 (by simp)).2.1 m.symm
    · exact (hf it2 (by simp)).2.1 m.symm
  · refine (I.hok c ob e).stay (fun d o hc q => ?_) (fun d q => q) fun d zs q => q
    rcases hc with rfl | hc
    · exact hk' d o (old1 d _ e) q
    · exact hk' d o (old1 d _ hc) q
 self := fun _ _ _ _ _ st h => by
  obtain ⟨hz, _⟩ := st
  exact iter_zip hz h
noncomputable def zgL (h : Heap) (t1 t2 : Addr) : Heap := ((((h.push { cls := .type "tuple_iterator", data := .fields #[.ref t1, .int 0 0] }).push { cls := .type "list_iterator", data := .fields #[.ref t2, .int 0 0] }).push { cls := .type "tuple", data := .seq #[.ref h.objs.size, .ref (h.objs.size + 1)] }).push { cls := .type "tuple", data := .seq #[.none, .none] }).push { cls := .type "zip", data := .fields #[.none, .bool false, .bool true, .ref (h.objs.size + 2), .ref (h.objs.size + 3)] }
theorem zg_atL (h : Heap) (t1 t2 : Addr) : IsZipT (zgL h t1 t2) (h.objs.size + 4) (h.objs.size + 2) (h.objs.size + 3) .none ∧ IsIts (zgL h t1 t2) (h.objs.size + 2) h.objs.size (h.objs.size + 1) ∧ (zgL h t1 t2).get? (h.objs.size + 3) = some { cls := .type "tuple", data := .seq #[.none, .none] } ∧
  (zgL h t1 t2).IsTupleIter h.objs.size t1 0 ∧ (zgL h t1 t2).IsListIter (h.objs.size + 1) t2 0 ∧ (zgL h t1 t2).objs.size = h.objs.size + 5 ∧ ∀ c o, h.get? c = some o → (zgL h t1 t2).get? c = some o := by
 have at' : ∀ (g : Heap) (o : Obj) (n : Nat), g.objs.size = n → o.isFreed = false → (g.push o).get? n = some o := fun g o n e f => by rw [← e]; exact Heap.get?_push_size _ f
 have sz : ∀ (g : Heap) (o : Obj) (n : Nat), g.objs.size = n → (g.push o).objs.size = n + 1 := fun g o n e => by rw [Heap.size_push, e]
 refine ⟨?_, ?_, ?_, ?_, ?_, ?_, fun c o e => ?_⟩
 · exact at' _ _ _ (sz _ _ _ (sz _ _ _ (sz _ _ _ (sz _ _ _ rfl)))) rfl
 · exact Heap.get?_push_of_some _ (Heap.get?_push_of_some _ (at' _ _ _ (sz _ _ _ (sz _ _ _ rfl)) rfl))
 · exact Heap.get?_push_of_some _ (at' _ _ _ (sz _ _ _ (sz _ _ _ (sz _ _ _ rfl))) rfl)
 · exact ⟨_, Heap.get?_push_of_some _ (Heap.get?_push_of_some _ (Heap.get?_push_of_some _ (Heap.get?_push_of_some _ (at' _ _ _ rfl rfl)))), rfl, rfl⟩
 · exact ⟨_, Heap.get?_push_of_some _ (Heap.get?_push_of_some _ (Heap.get?_push_of_some _ (at' _ _ _ (sz _ _ _ rfl) rfl))), rfl, rfl⟩
 · exact sz _ _ _ (sz _ _ _ (sz _ _ _ (sz _ _ _ (sz _ _ _ rfl))))
 · exact Heap.get?_push_of_some _ (Heap.get?_push_of_some _ (Heap.get?_push_of_some _ (Heap.get?_push_of_some _ (Heap.get?_push_of_some _ e))))
section
variable {prog : Program} {w : World} {A : Around} {E : Value → Shared → Prop} {s : Shared}
theorem newZipTL (t1 t2 : Addr) (a1 a2 : Array Value) (n1 n2 : Nat) (d1 d2 : Option Addr) (l1 l2 : Array (Option Value)) :
  Meets (Builtin.«zip.__new__» ⟨[.type "zip", .ref t1, .ref t2], [("strict", .bool true)]⟩) (fun _ R s => s.heap.get? t1 = some { cls := .type "tuple", dict := d1, data := .seq a1 n1, slots := l1 } ∧ s.heap.get? t2 = some { cls := .type "list", dict := d2, data := .seq a2 n2, slots := l2 } ∧
   R (.ok (.ret (.ref (s.heap.objs.size + 4)))) { s with heap := zgL s.heap t1 t2 }) :=
 .of_wp fun prog w A R s h => by
  obtain ⟨hp, g, d, tk, os⟩ := s
  obtain ⟨hl1, hl2, h⟩ := h
  have hsub := sub_zip
  have hL1 : Heap.IsTuple (Shared.heap ⟨hp, g, d, tk, os⟩) t1 a1 := ⟨_, hl1, rfl, n1, rfl⟩
  have hL2 : Heap.IsList (Shared.heap ⟨hp.push { cls := .type "tuple_iterator", data := .fields #[.ref t1, .int 0 0] }, g, d, tk, os⟩) t2 a2 := ⟨_, Heap.get?_push_of_some _ hl2, rfl, n2, rfl⟩
  wp_walk using wpAny_pyIter_tuple hL1, wpAny_pyIter_list hL2
  refine ⟨_, rfl, ?_⟩
  simp only [zgL, Heap.size_push, Nat.add_assoc, Nat.reduceAdd] at h ⊢
  exact h
theorem call_zipTL {t1 t2 : Addr} {a1 a2 : Array Value} {Q : Value → Shared → Prop} (h1 : s.heap.IsTuple t1 a1) (h2 : s.heap.IsList t2 a2)
  (k : ∀ g, IsZipT g (s.heap.objs.size + 4) (s.heap.objs.size + 2) (s.heap.objs.size + 3) .none → IsIts g (s.heap.objs.size + 2) s.heap.objs.size (s.heap.objs.size + 1) → g.get? (s.heap.objs.size + 3) = some { cls := .type "tuple", data := .seq #[.none, .none] } →
   g.IsTupleIter s.heap.objs.size t1 0 → g.IsListIter (s.heap.objs.size + 1) t2 0 → g.objs.size = s.heap.objs.size + 5 → (∀ c o, s.heap.get? c = some o → g.get? c = some o) → Q (.ref (s.heap.objs.size + 4)) { s with heap := g }) :
  wpAny (model prog w) A (call (.type "zip") [.ref t1, .ref t2] [("strict", .bool true)]) Q E s := by
 have ft := PySem.F.called_zip
 obtain ⟨c, tl, hmro⟩ := ft.mro
 have hmade := ft.made
 have hsub := ft.sub
 have hct : checkTypeCall "zip" ⟨[.ref t1, .ref t2], [("strict", .bool true)]⟩ = pure () := by kernel_rfl
 have hcn : checkBuiltinCall "zip.__new__" ⟨[.type "zip", .ref t1, .ref t2], [("strict", .bool true)]⟩ = pure () := by kernel_rfl
 obtain ⟨⟨c1, dc1, dt1, sl1⟩, hl1, hc1, n1, hd1⟩ := h1
 obtain ⟨⟨c2, dc2, dt2, sl2⟩, hl2, hc2, n2, hd2⟩ := h2
 replace hc1 : c1 = .type "tuple" := hc1
 replace hc2 : c2 = .type "list" := hc2
 replace hd1 : dt1 = .seq a1 n1 := hd1
 replace hd2 : dt2 = .seq a2 n2 := hd2
 subst hc1 hc2 hd1 hd2
 refine wpAny_call (codeAny_of_tree ?_)
 show wpAny _ _ (callAny (.type "zip") _) _ _ _
 refine wpAny_pure ⟨Code.quiet_builtin _ (by decide +kernel), codeAny_builtin PySem.F.entry_type_call ?_⟩
 rw [Around.under_plain (weight_type_call_type "zip" _ _) (units_type_call_type "zip" _ _)]
 have hq1 := ft.notType
 have hq2 := ft.canCreate
 repeat any_goals first | assumption | wp_step
 refine codeAny_mono (codeAny_call_builtin ft.plain PySem.F.entry_zip_new (wpAny_of_eq hcn (newZipTL t1 t2 a1 a2 n1 n2 dc1 dc2 sl1 sl2 prog w A.in1 (wants (fun obj s₁ => obj = .ref (s.heap.objs.size + 4) ∧ s₁ = { s with heap := zgL s.heap t1 t2 }) E) s ⟨hl1, hl2, ⟨rfl, rfl⟩⟩))) fun r s₁ hr => ?_
 cases r with
 | error e => exact hr
 | ok fl =>
   cases fl with
   | ret obj =>
     obtain ⟨rfl, rfl⟩ := (show obj = .ref (s.heap.objs.size + 4) ∧ s₁ = { s with heap := zgL s.heap t1 t2 } from hr)
     obtain ⟨f1, f2, f3, f4, f5, f6, f7⟩ := zg_atL s.heap t1 t2
     have hT : (⟨zgL s.heap t1 t2, s.gens, s.drawn, s.toks, s.os⟩ : Shared).TypeIs (.ref (s.heap.objs.size + 4)) "zip" := ⟨_, f1, rfl⟩
     have hli := ft.init.lookup
     have hbi := ft.init.bind (.ref (s.heap.objs.size + 4))
     repeat any_goals first | assumption | wp_step
     refine codeAny_mono (codeAny_call_builtin ft.init.plain PySem.F.entry_object_init (ft.init.check _ _ _ _ _ _ _ _ hT (argsZ _ _ _) ?_)) (R := wants (fun r s₂ => r = .none ∧ s₂ = ⟨zgL s.heap t1 t2, s.gens, s.drawn, s.toks, s.os⟩) E) fun r₂ s₂ hr₂ => ?_
     · have hne : (some "zip.__new__" != some "object.__new__") = true := by decide
       repeat any_goals first | assumption | wp_step
       exact ⟨rfl, rfl⟩
     cases r₂ with
     | error e => exact hr₂
     | ok fl₂ =>
       cases fl₂ with
       | ret r =>
         obtain ⟨rfl, rfl⟩ := (show r = .none ∧ s₂ = _ from hr₂)
         repeat any_goals first | assumption | wp_step
         exact k _ f1 f2 f3 f4 f5 f6 f7
       | _ => exact hr₂.elim
   | _ => exact hr.elim
end
section
variable {X : Cx}
noncomputable def iZipL (ta : TA) : TI := fun σ H R => ta σ H fun vs H1 => ∃ a b xs ys, vs = [.ref a, .ref b] ∧ H1 a = some (.tup xs) ∧ H1 b = some (.lst ys) ∧ R (ItzL a b) H1
theorem pi_zipL {elts : List Expr} {k1 kc} {tpos kp kpos : Pos} {a b : Expr} {ta : TA} {p pos : Pos} (hg : Gl X "zip") (hm : X.mg "zip" = none) (ha : PA X [a, b] ta) (hs : starEach [a, b] X.env = (false, eval a X.env) :: starEach [b] X.env := by rfl) (hpl : ((backTo pos (starEach [a, b] X.env)).any (·.1)) = false := by rfl) :
  PI X (.Tuple elts k1 tpos) (.Call (.Name "zip" p) [a, b] [⟨some "strict", .Constant (.bool true) kc kp, kpos⟩] pos) (iZipL ta) := by
 intro pins s σ H R I h
 refine wpAny_Call_Name_kw (ld_blt I hg hm boot_zip ?_)
 refine PySem.W.callWith_of (P := fun _ => True) (by rw [hpl]; rfl) (fun h _ => ⟨.machine, .inr (.inl rfl), ?_⟩) ?_
 · exact fun A Q E s _ q => (show wpAny _ A (pure Keeper.machine) Q E s from wpAny_pure q)
 have e0 : backTo pos (starEach [a, b] X.env) = (false, eval a X.env) :: backTo pos (starEach [b] X.env) := by rw [hs]; rfl
 rw [e0]
 refine evalArgs_kwB rfl ?_
 rw [← e0]
 refine thn (ha pos pins s σ H _ I h) fun us s1 ⟨vs, H1, I1, r1, q1⟩ => ?_
 obtain ⟨t1, t2, xs, ys, rfl, hx, hy, q⟩ := q1
 refine kws_cons (Constant_bool (kws_nil ⟨trivial, ?_⟩))
 cases r1 with
 | cons ra rr =>
   cases rr with
   | cons rb rn =>
     cases rn
     cases ra
     cases rb
     obtain ⟨its, rv, p1⟩ := tupAt I1.hok hx
     obtain ⟨jts, rw', p2⟩ := lstAt I1.hok hy
     refine call_zipTL p1 p2 fun g f1 f2 f3 f4 f5 f6 f7 => ?_
     refine iter_zip f1 ?_
     refine ⟨s1.heap.objs.size + 4, [s1.heap.objs.size + 4, s1.heap.objs.size + 2, s1.heap.objs.size + 3, s1.heap.objs.size, s1.heap.objs.size + 1], _, _, H1, rfl, I1.kept (t' := s1.toks) f7, turn_zipL t1 t2 _ _ _ _ _ (by simp) (by rw [sizeLine_eq]; omega), ⟨f1, f2, ⟨_, _, f3⟩, f4, f5⟩, fun c hc => ?_, q⟩
     have hl : s1.heap.objs.size ≤ c := by
      simp only [List.mem_cons, List.not_mem_nil, or_false] at hc
      rcases hc with rfl | rfl | rfl | rfl | rfl <;> omega
     exact I1.fpOk hl (I1.hok.fresh hl)
end
section
variable {a b : Addr} {xs zs : List V} {g : TG} {tc : TT} {te : TE} {k : Nat} {cap : List Nat} {σ : St} {H : Hp} {Q : VK}
theorem lc_zipL (hn : xs.length = zs.length) (Pv : Nat → List V → Hp → Prop) (h0 : Pv 0 [] H) (hl : ∀ i ys H, i ≤ xs.length → Pv i ys H → H a = some (.tup xs) ∧ H b = some (.lst zs) ∧ ys.length ≤ sizeLine)
  (hs : ∀ i x z ys H p, xs[i]? = some x → zs[i]? = some z → Pv i ys H → H p = none → g (.ref p) (capσ k cap σ) (upd H p (.tup [x, z])) fun σ2 H2 => tc σ2 H2 fun b H3 => if b = true then te σ2 H3 fun y H4 => Pv (i + 1) (ys ++ [y]) H4 else Pv (i + 1) ys H3)
  (hd : ∀ ys H, Pv xs.length ys H → ∀ p, H p = none → Q (.ref p) (upd H p (.lst ys))) : LcEnd (ItzL a b) g tc te k cap σ H Q := by
 refine ⟨fun i m ys H => m = xs.length - i ∧ i ≤ xs.length ∧ Pv i ys H, ⟨xs.length, by simp, Nat.zero_le _, h0⟩, ?_⟩
 rintro i m ys H ⟨rfl, hi, p⟩
 obtain ⟨q1, q2, hz⟩ := hl i ys H hi p
 by_cases hlt : i < xs.length
 · have hlz : i < zs.length := by omega
   refine .inr ⟨⟨xs, zs, xs[i], zs[i], q1, q2, by simp [hlt], by simp [hlz]⟩, hz, Pv (i + 1), fun ys' H' p' => ⟨xs.length - (i + 1), by omega, rfl, hlt, p'⟩, fun x H' y => ?_⟩
   obtain ⟨p', x', y', rfl, hn', rfl, hx, hy⟩ := y
   exact hs i x' y' ys H p' (hx xs q1) (hy zs q2) p hn'
 · have e : i = xs.length := by omega
   subst e
   exact .inl ⟨⟨xs, zs, q1, q2, Nat.le_refl _, by omega⟩, hz, hd ys H p⟩
end
theorem rcGt_int (A : Around) (s : Shared) (a : Int) (t : Tok) (c : Int) (u : Tok) (prog : Program) (w : World) (E : Value → Shared → Prop) (Q : Value → Shared → Prop) (h : Q (.bool (decide (a > c))) s) :
  wpAny (model prog w) A (richCompare .Gt (.int a t) (.int c u)) Q E s :=
 (PyProof.Rows.gt_int h : wpAny (model prog w) A (compareOp .Gt (.int a t) (.int c u)) Q E s)
section
variable {X : Cx}
theorem argBest_most (f : Nat → Int) : ∀ k i, i ≤ k → f (argBest (fun i j => decide (f i > f j)) k) ≥ f i
 | 0, i, h => by
   have : i = 0 := by omega
   subst this
   exact Int.le_refl _
 | k + 1, i, h => by
   have ih := argBest_most f k
   have e : argBest (fun i j => decide (f i > f j)) (k + 1) = if decide (f (k + 1) > f (argBest (fun i j => decide (f i > f j)) k)) = true then k + 1 else argBest (fun i j => decide (f i > f j)) k := rfl
   rw [e]
   split
   · rename_i c
     have c := of_decide_eq_true c
     by_cases hi : i = k + 1
     · subst hi; exact Int.le_refl _
     · have := ih i (by omega); omega
   · rename_i c
     have c : ¬ (f (k + 1) > f (argBest (fun i j => decide (f i > f j)) k)) := fun z => c (decide_eq_true z)
     by_cases hi : i = k + 1
     · subst hi; omega
     · exact ih i (by omega)
theorem call_maxL (hc : X.calm = true) : CallR X (.builtin "max") (fun xs H Q => ∃ (a : Addr) (ns : List Int), xs = [.ref a] ∧ SqL X.K H a (ns.map V.int) ∧ ns ≠ [] ∧ ∀ m, m ∈ ns → (∀ n ∈ ns, n ≤ m) → Q (.int m) H) := by
 intro pins s σ H xs us Q I r h
 obtain ⟨a, ns, rfl, hq, h0, q⟩ := h
 obtain ⟨u, rfl, rx⟩ := vals1 r
 cases rx
 obtain ⟨its, rv, p, hz⟩ := I.list hq
 have hlt : a < s.heap.objs.size := by obtain ⟨_, e, _⟩ := p.isList; exact Heap.lt_size e
 have hl := rv.length
 rw [List.length_map] at hl
 have hn0 : 0 < ns.length := by
  cases ns with
  | nil => exact absurd rfl h0
  | cons => simp
 have val : ∀ i v, its[i]? = some v → ∃ t, v = Value.int (ns.getD i 0) t := fun i v hv => by
  have hi : i < its.length := (List.getElem?_eq_some_iff.mp hv).1
  obtain ⟨u, hu, ru⟩ := rv.get (i := i) (x := V.int (ns.getD i 0)) (by rw [List.getElem?_map, List.getD_eq_getElem?_getD, List.getElem?_eq_getElem (by omega)]; rfl)
  rw [hu] at hv
  cases hv
  exact ru
 refine call_max_walk (wpAny_pyIter_list p.isList ?_)
 refine ⟨s.heap.objs.size, _, _, _, _, _, fun i j => decide (ns.getD i 0 > ns.getD j 0), rfl, Walks.list (A := X.A.in1) (show X.A.in1.handled = none from I.ok.hd hc) s.heap.objs.size a (Nat.ne_of_lt hlt) its.toArray, ⟨⟨_, Heap.get?_push_size _ rfl, rfl, rfl⟩, p.isList.push _⟩, ?_, by rw [List.size_toArray]; omega, ?_, fun v h' tk hv hk => ?_⟩
 · intro b hb
   simp only [List.mem_cons, List.not_mem_nil, or_false, Heap.push] at hb ⊢
   rcases hb with rfl | rfl
   · simp
   · simp only [Array.size_push]; exact Nat.lt_succ_of_lt hlt
 · intro i j vi vj s' Q' E' hi hj hQ'
   obtain ⟨t, rfl⟩ := val i vi (by simpa using hi)
   obtain ⟨t', rfl⟩ := val j vj (by simpa using hj)
   exact rcGt_int _ _ _ _ _ _ _ _ _ _ hQ'
 · have hsz : its.toArray.size = ns.length := by rw [List.size_toArray]; omega
   rw [hsz] at hv
   obtain ⟨t, rfl⟩ := val (argBest (fun i j => decide (ns.getD i 0 > ns.getD j 0)) (ns.length - 1)) v (by rw [List.getElem?_toArray] at hv; exact hv)
   clear hv
   generalize hm : argBest (fun i j => decide (ns.getD i 0 > ns.getD j 0)) (ns.length - 1) = m
   have hm1 : m ≤ ns.length - 1 := by rw [← hm]; exact argBest_le _ _
   have hml : m < ns.length := by omega
   refine ⟨.int (ns.getD m 0), H, I.kept fun b o e => hk b o (fun hb => ?_) (Heap.get?_push_of_some _ e), ⟨_, rfl⟩, q _ ?_ fun n hn => ?_⟩
   · have z : b = s.heap.objs.size := by simpa using hb
     exact absurd (Heap.lt_size e) (by rw [z]; exact Nat.lt_irrefl _)
   · rw [List.getD_eq_getElem?_getD, List.getElem?_eq_getElem hml]; exact List.getElem_mem hml
   · obtain ⟨i, hi, rfl⟩ := List.mem_iff_getElem.mp hn
     have := argBest_most (fun i => ns.getD i 0) (ns.length - 1) i (by omega)
     rw [hm] at this
     have e : ns.getD i 0 = ns[i] := by rw [List.getD_eq_getElem?_getD, List.getElem?_eq_getElem hi]; rfl
     rw [← e]; exact this
open Classical in
end
noncomputable def addN (ks : List KeyN) (g : KeyN) : List KeyN := if g ∈ ks then ks else ks ++ [g]
noncomputable def dedupN (gs : List KeyN) : List KeyN := gs.foldl addN []
theorem mem_addN {ks : List KeyN} {g x : KeyN} : x ∈ addN ks g ↔ x ∈ ks ∨ x = g := by
 unfold addN
 split
 · rename_i h
   constructor
   · exact .inl
   · rintro (z | rfl)
     · exact z
     · exact h
 · rw [List.mem_append, List.mem_singleton]
theorem addN_nodup {ks : List KeyN} {g : KeyN} (h : ks.Nodup) : (addN ks g).Nodup := by
 unfold addN
 split
 · exact h
 · rename_i c
   rw [List.nodup_append]
   exact ⟨h, by simp, fun a ha b hb => by rw [List.mem_singleton.mp hb]; exact fun z => c (z ▸ ha)⟩
theorem addN_len (ks : List KeyN) (g : KeyN) : (addN ks g).length ≤ ks.length + 1 := by
 unfold addN
 split
 · omega
 · rw [List.length_append, List.length_singleton]; exact Nat.le_refl _
theorem mem_foldN {gs : List KeyN} : ∀ {ks : List KeyN} {x : KeyN}, x ∈ gs.foldl addN ks ↔ x ∈ ks ∨ x ∈ gs := by
 induction gs with
 | nil => intro ks x; simp
 | cons g gs ih =>
   intro ks x
   rw [List.foldl_cons, ih, mem_addN, List.mem_cons, or_assoc]
theorem fold_lenN {gs : List KeyN} : ∀ (ks : List KeyN), (gs.foldl addN ks).length ≤ ks.length + gs.length := by
 induction gs with
 | nil => intro ks; exact Nat.le_refl _
 | cons g gs ih =>
   intro ks
   have h1 := ih (addN ks g)
   have h2 := addN_len ks g
   rw [List.foldl_cons, List.length_cons]
   omega
theorem fold_nodupN {gs : List KeyN} : ∀ {ks : List KeyN}, ks.Nodup → ((gs.foldl addN ks).length = ks.length + gs.length ↔ (ks ++ gs).Nodup) := by
 induction gs with
 | nil => intro ks h; simp [h]
 | cons g gs ih =>
   intro ks h
   rw [List.foldl_cons]
   by_cases c : g ∈ ks
   · have e : addN ks g = ks := by unfold addN; rw [if_pos c]
     rw [e]
     constructor
     · intro z
       have := fold_lenN (gs := gs) ks
       rw [List.length_cons] at z
       omega
     · intro z
       rw [List.nodup_append] at z
       exact absurd rfl (z.2.2 g c g List.mem_cons_self)
   · have e : addN ks g = ks ++ [g] := by unfold addN; rw [if_neg c]
     have := ih (addN_nodup (g := g) h)
     rw [e, List.append_assoc, List.length_append, List.length_singleton] at this
     rw [e, List.length_cons, show ks.length + (gs.length + 1) = ks.length + 1 + gs.length from by omega]
     exact this
theorem dedup_lenN (gs : List KeyN) : (dedupN gs).length = gs.length ↔ gs.Nodup := by
 have := fold_nodupN (gs := gs) (ks := []) List.nodup_nil
 simpa [dedupN] using this
theorem mem_dedupN {gs : List KeyN} {x : KeyN} : x ∈ dedupN gs ↔ x ∈ gs := by
 unfold dedupN
 rw [mem_foldN]
 simp
theorem any_keys (kvs : List (KeyN × V)) (k : KeyN) : (kvs.any fun kv => decide (kv.1 = k)) = decide (k ∈ kvs.map (·.1)) := by
 rw [Bool.eq_iff_iff, List.any_eq_true, decide_eq_true_eq, List.mem_map]
 constructor
 · rintro ⟨kv, h, e⟩
   exact ⟨kv, h, of_decide_eq_true e⟩
 · rintro ⟨kv, h, e⟩
   exact ⟨kv, h, decide_eq_true e⟩
theorem val_mem (kvs : List (KeyN × V)) (k : KeyN) : (valV kvs k).isSome = decide (k ∈ kvs.map (·.1)) := by rw [← valV_any, any_keys]
theorem put_keysN (kvs : List (KeyN × V)) (k : KeyN) (v : V) : (putK kvs k v).map (·.1) = addN (kvs.map (·.1)) k := by
 unfold putK addN
 rw [any_keys]
 by_cases c : k ∈ kvs.map (·.1)
 · rw [if_pos (decide_eq_true c), if_pos c, List.map_map]
   refine List.map_congr_left fun kv _ => ?_
   show (if kv.1 = k then (kv.1, v) else kv).1 = kv.1
   split <;> rfl
 · rw [if_neg (by rw [decide_eq_false c]; decide), if_neg c, List.map_append]
   rfl
theorem putAll_keys (rows : List (KeyN × V)) : ∀ kvs : List (KeyN × V), (putAll rows kvs).map (·.1) = (rows.map (·.1)).foldl addN (kvs.map (·.1)) := by
 induction rows with
 | nil => intro kvs; rfl
 | cons r rows ih =>
   intro kvs
   show (putAll rows (putK kvs r.1 r.2)).map (·.1) = _
   rw [ih, put_keysN]
   rfl
noncomputable def BMain (mg : Str → Option Value) (base : Heap) : Prop := ∃ bm ob, mg "__builtins__" = some (.ref bm) ∧ bm ≠ builtinsNs ∧ base.get? bm = some ob ∧ ob.cls = .type "module" ∧ ob.dict = some builtinsNs ∧ ob.data = .plain
theorem law_callT {P : Program} {w : World} {K : PySem.W.Frag} {mg mb : Str → Option Value} {CX : CXT} {k : Nat} {fa a tb c : Addr} {fd : FuncData} {x : Str} {sp : Sp} {s₁ : Shared} {vs : List Value} {ns : List Int}
  (KX : K.In s₁.heap) (hns : s₁.heap.Ns mainGlobals mg) (hb : s₁.heap.Ns builtinsNs mb) (hbb : ∀ x : Str, x ≠ "__name__" → mb x = bootBuiltins x) (hlim : s₁.heap.NoLimit) (hg : s₁.gens = #[]) (hbm : BMain mg s₁.heap)
  (hT : s₁.heap.get? tb = some (PySem.W.tabObj #[])) (hC : PySem.W.CodeHd s₁.heap c tb) (hKT : K.lookup tb = none)
  (ha : s₁.heap.get? a = some { cls := .type "list", data := .seq vs.toArray }) (hi : IntsAre vs ns) (hl : ns.length ≤ sizeLine) (hr : Room k callerA)
  (F : ∀ base : Heap, K.In base → base.Ns mainGlobals mg → BMain mg base → FnOk P w K mg base CX k fa fd [x] sp) (hbind : ∀ (s : Shared) (u : Value), BindsTo s fd ⟨[u], []⟩ [(x, u)])
  (hsp : ∀ H : Hp, H tb = some (.tbl #[]) → SqL K H a (ns.map V.int) → sp [.ref a] H (fun v _ => v = .bl true) fun _ _ _ => False)
  (hCX : ∀ H e s', CX [] H s₁ (fun _ _ _ => False) e s' → False) :
  codeAny (model P w) callerA (.call (.ref fa) ⟨[.ref a], []⟩) (fun r s' => r = .ok (.ret (.bool true)) ∧ OldK s₁.heap s'.heap ∧ s'.os = s₁.os ∧ AllBare s'.gens) s₁ := by
 have rv := vals_ints hi
 have lenV := hi.length
 have core : ∀ H : Hp, H tb = some (.tbl #[]) → (∀ b, H b = none ∨ (b = a ∧ K.lookup a = none ∧ ∃ o xs, H b = some (.frz o (.lst xs))) ∨ b = tb) → SqL K H a (ns.map V.int) → HOk P w H s₁.heap →
   codeAny (model P w) callerA (.call (.ref fa) ⟨[.ref a], []⟩) (fun r s' => r = .ok (.ret (.bool true)) ∧ OldK s₁.heap s'.heap ∧ s'.os = s₁.os ∧ AllBare s'.gens) s₁ := by
  intro H hHT hO hS hok
  have base_of : ∀ {b : Addr} {o : Obj}, s₁.heap.get? b = some o → H b = none → (hidT s₁.heap H).get? b = some o := fun e n => hidT_get e n
  have noA : ∀ {b : Addr} {o : Obj} {es : Array DictEntry} {ep : Nat}, s₁.heap.get? b = some o → o.data = .dict es ep → H b = none := fun {b o es ep} e d => by
   rcases hO b with z | ⟨z, _⟩ | z
   · exact z
   · rw [z, ha] at e; cases e
     have d' : Data.seq vs.toArray _ = Data.dict es ep := d
     cases d'
   · rw [z, hT] at e; cases e
     have d' : Data.fields _ = Data.dict es ep := d
     cases d'
  have nsK : ∀ {b : Addr} {m : Str → Option Value}, s₁.heap.Ns b m → (hidT s₁.heap H).Ns b m := fun {b m} ⟨o, es, ep, e, d, r⟩ => ⟨o, es, ep, base_of e (noA e d), d, r⟩
  have hKb : K.In (hidT s₁.heap H) := fun b o e => base_of (KX b o e) (by
   rcases hO b with z | ⟨z, z2, _⟩ | z
   · exact z
   · rw [z, z2] at e; cases e
   · rw [z, hKT] at e; cases e)
  have hBb : BMain mg (hidT s₁.heap H) := by
   obtain ⟨bm, ob, b1, b2, b3, b4, b5, b6⟩ := hbm
   refine ⟨bm, ob, b1, b2, base_of b3 ?_, b4, b5, b6⟩
   rcases hO bm with z | ⟨z, _⟩ | z
   · exact z
   · rw [z, ha] at b3; cases b3; simp at b4
   · rw [z, hT] at b3; cases b3; cases b4
  have hM : Mod K mg (hidT s₁.heap H) := ⟨hKb, nsK hns, ⟨mb, nsK hb, hbb⟩, let ⟨mc, h1, h2⟩ := hlim; ⟨mc, nsK h1, h2⟩⟩
  have e0 : Env0 P w K mg (hidT s₁.heap H) callerA [] s₁ H := ⟨rfl, hM, fun b o e => of_hidT e, Nat.le_of_eq (hidT_size _ _), trivial, fun b hb => absurd (show b ∈ ([] : List Addr) from hb) (by simp), hok, .of_eq hg⟩
  refine codeAny_mono ((F _ hKb (nsK hns) hBb).run callerA [] s₁ H ⟨[.ref a], []⟩ [.ref a] [.ref a] _ _ hr e0 (hbind s₁ (.ref a)) (.cons rfl .nil) (hsp H hHT hS)) fun r s' h => ?_
  cases r with
  | error e => exact (hCX H e s' h).elim
  | ok fl =>
    cases fl with
    | next => exact False.elim h
    | brk => exact False.elim h
    | cont => exact False.elim h
    | ret u =>
      obtain ⟨v, H', os, bare, un, hok', r', q⟩ := h
      have q' : v = .bl true := q
      subst q'
      obtain rfl : u = Value.bool true := r'
      refine ⟨rfl, ⟨fun b o e => ?_, fun b o e => un.there b o e (by simp)⟩, os, bare⟩
      rcases hO b with z | ⟨_, _, ob, xs, z⟩ | z
      · exact .inl (un.keep b o e z (by intro z; exact absurd (show b ∈ ([] : List Addr) from z) (by simp)) (by simp))
      · have z2 := un.frzs b ob _ z
        obtain ⟨e1, _⟩ := hok b _ z
        obtain ⟨e2, _⟩ := hok' b _ z2
        rw [e] at e1; cases e1
        exact .inl e2
      · subst z
        obtain ⟨more, z2⟩ := un.tbls b _ hHT
        have e2 : s'.heap.get? b = some { cls := .none, data := .fields (#[] ++ more) } := hok' b _ z2
        rw [e] at hT; cases hT
        exact .inr (.inl ⟨(hC.tab e).isCodeTable, rfl, #[], more, rfl, e2⟩)
 have nat : a ≠ tb := fun z => by rw [z, hT] at ha; cases ha
 cases hk : K.lookup a with
 | some o =>
   have e := KX a o hk
   rw [ha] at e
   cases e
   refine core (fun b => if b = tb then some (.tbl #[]) else none) (if_pos rfl) (fun b => ?_) (.inr ⟨_, vs.toArray, _, hk, rfl, rfl, rfl, by rw [List.size_toArray, lenV]; exact hl, by simpa using rv⟩) (fun b u z => ?_)
   · by_cases hb : b = tb
     · exact .inr (.inr hb)
     · exact .inl (if_neg hb)
   · by_cases hb : b = tb
     · have z' := (if_pos hb).symm.trans z
       cases z'
       subst hb
       exact hT
     · have z' := (if_neg hb).symm.trans z
       cases z'
 | none =>
   refine core (fun b => if b = tb then some (.tbl #[]) else if b = a then some (.frz { cls := .type "list", data := .seq vs.toArray } (.lst (ns.map V.int))) else none) (if_pos rfl) (fun b => ?_) (.inl (.inr ⟨{ cls := .type "list", data := .seq vs.toArray }, (if_neg nat).trans (if_pos rfl)⟩)) (fun b u z => ?_)
   · by_cases hb : b = tb
     · exact .inr (.inr hb)
     · by_cases hb2 : b = a
       · exact .inr (.inl ⟨hb2, hk, _, _, (if_neg hb).trans (if_pos hb2)⟩)
       · exact .inl ((if_neg hb).trans (if_neg hb2))
   · by_cases hb : b = tb
     · have z' := (if_pos hb).symm.trans z
       cases z'
       subst hb
       exact hT
     · have z1 := (if_neg hb).symm.trans z
       by_cases hb2 : b = a
       · have z' := (if_pos hb2).symm.trans z1
         cases z'
         subst hb2
         exact ⟨ha, by rw [List.length_map]; exact hl, vs, _, rv, ha⟩
       · have z' := (if_neg hb2).symm.trans z1
         cases z'
theorem walk_ofT {l : PySem.W.OpenLaw} {n k : Nat} {tb : Addr} {q : Program} {loose : List Str} {XP : (Str → Option Value) → Heap → Prop} {YP : World → Heap → Prop} {d : DefRec} {K : Params → PySem.W.Frag} {CX : World → CXT} {sp : World → Sp} {x : Str}
  (hn : l.most = some n) (hn2 : n ≤ sizeLine) (hdf : d.params.defaults = []) (hr : Room k callerA)
  (hY : ∀ (w : World) (h : Heap), YP w h → (K w.params).In h ∧ h.get? tb = some (PySem.W.tabObj #[])) (hKT : ∀ w : World, (K w.params).lookup tb = none)
  (F : ∀ (w : World) (mg : Str → Option Value) (fa : Addr) (h : Heap), (K w.params).In h → h.Ns mainGlobals mg → mg d.name = some (.ref fa) →
   (∃ c, PySem.W.codeHdIn (K w.params) c tb = true) ∧ ∃ fd : FuncData, (∀ (s : Shared) (u : Value), BindsTo s fd ⟨[u], []⟩ [(x, u)]) ∧
    ∀ base : Heap, (K w.params).In base → base.Ns mainGlobals mg → BMain mg base → FnOk l.prog w (K w.params) mg base (CX w) k fa fd [x] (sp w))
  (hsp : ∀ (w : World) (H : Hp) (a : Addr) (ns : List Int), ns.length ≤ n → H tb = some (.tbl #[]) → SqL (K w.params) H a (ns.map V.int) → sp w [.ref a] H (fun v _ => v = .bl true) fun _ _ _ => False)
  (hCX : ∀ (w : World) (H : Hp) (s : Shared) (e : Value) (s' : Shared), CX w [] H s (fun _ _ _ => False) e s' → False) :
  PySem.W.WalkO q loose XP YP l.row.toRowW d [] (fun f vs => PySem.call f vs) := by
 refine Att.attach_call hn hdf fun w s₀ s₁ mg mb fa o pm cd doc a vs ns G Y ho hd hcd hmg hobj hints hlen hg => ?_
 obtain ⟨KX, hT⟩ := hY w _ Y
 obtain ⟨⟨c, hC⟩, fd, hb, hF⟩ := F w mg fa _ KX G.T.g hmg
 exact law_callT KX G.T.g G.T.b G.T.builtins G.T.nolimit hg G.T.bmain hT (PySem.W.codeHd_of_K KX hC) (hKT w) hobj hints (Nat.le_trans hlen hn2) hr hF hb (fun H hO hS => hsp w H a ns hlen hO hS) fun H e s' => hCX w H s₁ e s'
end L2
namespace L2
open PySem PySem.Spec PyProof.Rows PySem.W
abbrev kno (o : Obj) : HO := .frz o (.own 0)
theorem kno_ok {P : Program} {w : World} {H : Hp} {h : Heap} {a : Addr} {o : Obj} (e : h.get? a = some o) : ObjOk P w H h a (kno o) := ⟨e, ⟨o, e⟩⟩
theorem kno_at {P : Program} {w : World} {H : Hp} {h : Heap} {a : Addr} {o : Obj} (ok : HOk P w H h) (e : H a = some (kno o)) : h.get? a = some o := (ok a _ e).1
noncomputable def OfCode (o : Obj) (qual : Str) : Prop := ∃ vs t, o.data = .fields vs ∧ vs[1]? = some (.str qual t)
noncomputable def TbOk (tb : Addr) (pos : Pos) (qual : Str) (H : Hp) : Prop := ∃ ps, H tb = some (.tbl ps) ∧ TriplesOk ps.toList ∧
 (codeAmong pos ps.toList = none ∨ ∃ c oc, codeAmong pos ps.toList = some (.ref c) ∧ H c = some (kno oc) ∧ OfCode oc qual)
theorem TbOk.first {tb : Addr} {pos : Pos} {qual : Str} {H : Hp} (h : H tb = some (.tbl #[])) : TbOk tb pos qual H := ⟨#[], h, trivial, .inl rfl⟩
theorem TbOk.same {tb : Addr} {pos : Pos} {qual : Str} {H H' : Hp} (h : TbOk tb pos qual H) (s : ∀ b o, H b = some o → H' b = some o) : TbOk tb pos qual H' := by
 obtain ⟨ps, h1, h2, h3⟩ := h
 exact ⟨ps, s _ _ h1, h2, h3.imp id fun ⟨c, oc, a, b, d⟩ => ⟨c, oc, a, s _ _ b, d⟩⟩
section
variable {X : Cx} {tb c : Addr} {params : Arguments} {body : Expr} {scope : Scope} {pos : Pos} {clos : List (Str × Addr)}
theorem tb_blt {mg : Str → Option Value} {base h : Heap} {ps : Array Value} (B : BMain mg base) (k : ∀ b o, base.get? b = some o → h.get? b = some o) (G : h.Ns mainGlobals mg) (hP : h.get? tb = some (tabObj ps)) : mainGlobals ≠ tb ∧ h.BuiltinsAt mg tb := by
 obtain ⟨bm, ob, b1, b2, b3, b4, b5, b6⟩ := B
 obtain ⟨o, es, ep, e, hd, r⟩ := id G
 have hm := k _ _ b3
 refine ⟨fun q => ?_, bm, ob, b1, b2, fun q => ?_, fun q => ?_, hm, b4, b5, b6⟩
 · rw [q, hP] at e; cases e; cases hd
 · rw [q, e] at hm; cases hm; rw [hd] at b6; cases b6
 · rw [q, hP] at hm; cases hm; cases b4
noncomputable def tLam (tb : Addr) (pos : Pos) (qual : Str) (O : Addr → Value → Obj) : TE := fun _ H Q => TbOk tb pos qual H ∧ ∀ f c' oc ctv H', (∀ b o, b ≠ tb → H b = some o → H' b = some o) → TbOk tb pos qual H' → H' c' = some (kno oc) → OfCode oc qual → H f = none → H' f = some (kno (O c' ctv)) → Q (.ref f) H'
theorem pe_lam (B : BMain X.mg X.base) (C : CodeHd X.base c tb) (hcode : X.env.code = .ref c) (hdef : defaultsOf params X.env = ([], [])) (hcl : closureFor scope X.env = pure clos) :
  PE X (.Lambda params body scope pos) (tLam tb pos (X.env.qual ++ "<lambda>") fun c' ctv => kla_obj "<lambda>" (X.env.qual ++ "<lambda>") params body scope clos ((X.mg "__name__").getD .none) c' ctv) := by
 intro pins s σ H Q I ⟨⟨ps, hP, ht, hor⟩, q⟩
 have tab : s.heap.get? tb = some (tabObj ps) := I.hok tb _ hP
 have G := I.mod.glob.keeps I.bk
 obtain ⟨hgP, hb⟩ := tb_blt B I.bk G tab
 refine kla_eval hdef ?_
 rcases hor with hnf | ⟨c', oc, hf, hc', hoc⟩
 · refine kla_makeFunction (mg := X.mg) hcl I.ok.glob G hcode (C.keeps I.bk) tab ht hnf hgP hb fun c' ctv h' tk hx hge hlt hrec htb => ?_
   obtain ⟨c₂, oc, vs, t, e2, hoc, hd, hv⟩ := hrec
   cases e2
   generalize hO : kla_obj "<lambda>" (X.env.qual ++ "<lambda>") params body scope clos ((X.mg "__name__").getD .none) c' ctv = ob
   have q2 := q h'.objs.size c' oc ctv (upd (upd (upd H tb (.tbl (ps ++ #[rawInt pos.line, rawInt pos.col, .ref c']))) c' (kno oc)) h'.objs.size (kno ob))
   have hsz : ∀ b o, s.heap.get? b = some o → b < s.heap.objs.size := fun b o e => Heap.lt_size e
   have htl := hsz _ _ tab
   have n1 : c' ≠ tb := Nat.ne_of_gt (Nat.lt_of_lt_of_le htl hge)
   have n2 : h'.objs.size ≠ c' := Nat.ne_of_gt hlt
   have n3 : h'.objs.size ≠ tb := Nat.ne_of_gt (Nat.lt_trans (Nat.lt_of_lt_of_le htl hge) hlt)
   have ff : H h'.objs.size = none := I.hok.fresh (Nat.le_of_lt (Nat.lt_of_le_of_lt hge hlt))
   have fc : H c' = none := I.hok.fresh hge
   have hob : ob.isFreed = false := by rw [← hO]; rfl
   have push : ∀ b o, h'.get? b = some o → (h'.push ob).get? b = some o := fun b o e => Heap.get?_push_of_some _ e
   have keepU : ∀ b o, b ≠ tb → s.heap.get? b = some o → (h'.push ob).get? b = some o := fun b o n e => push b o (hx b o n e)
   have at3 : ∀ b, b ≠ tb → b ≠ c' → b ≠ h'.objs.size → upd (upd (upd H tb (.tbl (ps ++ #[rawInt pos.line, rawInt pos.col, .ref c']))) c' (kno oc)) h'.objs.size (kno ob) b = H b := fun b a1 a2 a3 => by rw [zqf a3, zqf a2, zqf a1]
   have atH : ∀ b o, b ≠ tb → H b = some o → upd (upd (upd H tb (.tbl (ps ++ #[rawInt pos.line, rawInt pos.col, .ref c']))) c' (kno oc)) h'.objs.size (kno ob) b = some o := fun b o n e => by
    rw [at3 b n (zqg e fc) (zqg e ff)]; exact e
   have atT : upd (upd (upd H tb (.tbl (ps ++ #[rawInt pos.line, rawInt pos.col, .ref c']))) c' (kno oc)) h'.objs.size (kno ob) tb = some (.tbl (ps ++ #[rawInt pos.line, rawInt pos.col, .ref c'])) := by
    rw [zqf n3.symm, zqf n1.symm, upd_same]
   have atC : upd (upd (upd H tb (.tbl (ps ++ #[rawInt pos.line, rawInt pos.col, .ref c']))) c' (kno oc)) h'.objs.size (kno ob) c' = some (kno oc) := by rw [zqf n2.symm, upd_same]
   have atF : upd (upd (upd H tb (.tbl (ps ++ #[rawInt pos.line, rawInt pos.col, .ref c']))) c' (kno oc)) h'.objs.size (kno ob) h'.objs.size = some (kno ob) := upd_same
   have tbl' : ((ps ++ #[rawInt pos.line, rawInt pos.col, Value.ref c']) : Array Value).toList = ps.toList ++ [rawInt pos.line, rawInt pos.col, .ref c'] := by simp
   have q3 := q2 atH ⟨_, atT, by rw [tbl']; exact TriplesOk_snoc _ _ _ _ ht, .inr ⟨c', oc, by rw [tbl']; exact codeAmong_snoc _ ht hnf, atC, vs, t, hd, hv⟩⟩ atC ⟨vs, t, hd, hv⟩ ff (atF.trans (by rw [← hO]))
   generalize upd (upd (upd H tb (.tbl (ps ++ #[rawInt pos.line, rawInt pos.col, .ref c']))) c' (kno oc)) h'.objs.size (kno ob) = H' at at3 atH atT atC atF q3
   have hok' : HOk X.prog X.w H' (h'.push ob) := fun b u e => by
    by_cases b1 : b = tb
    · subst b1
      rw [atT] at e; cases e
      exact push _ _ htb
    by_cases b2 : b = c'
    · subst b2
      rw [atC] at e; cases e
      exact kno_ok (push _ _ hoc)
    by_cases b3 : b = h'.objs.size
    · subst b3
      rw [atF] at e; cases e
      exact kno_ok (Heap.get?_push_size _ hob)
    rw [at3 b b1 b2 b3] at e
    refine (I.hok b u e).stay (fun d o hc r => keepU d o (fun z => ?_) r) (fun d r => atH d _ (fun z => ?_) r) fun d xs r => atH d _ (fun z => ?_) r
    · subst z
      rcases hc with z | z
      · exact b1 z.symm
      · rw [hP] at z; cases z
    · rw [z, hP] at r; cases r
    · rw [z, hP] at r; cases r
   refine ⟨.ref h'.objs.size, H', I.un (h' := h'.push ob) (t' := tk) ⟨fun b o e n _ _ => keepU b o (fun z => ?_) e, fun b o e n _ _ => ⟨o.slots, keepU b o (fun z => ?_) e⟩, fun b o e n _ => ?_, fun b o e _ => ?_, fun b xs e => atH b _ (fun z => ?_) e, fun b o u e => atH b _ (fun z => ?_) e, fun b ps' e => ?_⟩ hok', rfl, q3⟩
   · rw [z, hP] at n; cases n
   · rw [z, hP] at n; cases n
   · have hb := hsz b o e
     rw [at3 b (fun z => by rw [z, hP] at n; cases n) (Nat.ne_of_lt (Nat.lt_of_lt_of_le hb hge)) (Nat.ne_of_lt (Nat.lt_trans (Nat.lt_of_lt_of_le hb hge) hlt))]
     exact n
   · by_cases b1 : b = tb
     · subst b1; exact ⟨_, push _ _ htb⟩
     · exact ⟨o, keepU b o b1 e⟩
   · rw [z, hP] at e; cases e
   · rw [z, hP] at e; cases e
   · by_cases b1 : b = tb
     · subst b1
       rw [hP] at e; cases e
       exact ⟨_, atT⟩
     · exact ⟨#[], by rw [atH b _ b1 e]; simp⟩
 · refine kla_makeFunctionHit (mg := X.mg) hcl I.ok.glob G hcode (C.keeps I.bk) tab ht hf hb fun ctv h' tk hk hsz => ?_
   show EP X pins σ Q (.ref h'.objs.size) { s with heap := h'.push (kla_obj "<lambda>" (X.env.qual ++ "<lambda>") params body scope clos ((X.mg "__name__").getD .none) c' ctv), toks := tk }
   generalize hO : kla_obj "<lambda>" (X.env.qual ++ "<lambda>") params body scope clos ((X.mg "__name__").getD .none) c' ctv = ob
   have ff : H h'.objs.size = none := I.hok.fresh hsz
   have hob : ob.isFreed = false := by rw [← hO]; rfl
   have sm : ∀ b o, H b = some o → upd H h'.objs.size (kno ob) b = some o := fun b o e => by rw [zqf (zqg e ff)]; exact e
   refine ⟨.ref h'.objs.size, upd H h'.objs.size (kno ob), I.laid (h' := h'.push ob) (t' := tk) (fun b u e => Heap.get?_push_of_some _ (hk b u e)) hsz (kno_ok (Heap.get?_push_size _ hob)), rfl, ?_⟩
   exact q _ c' oc ctv _ (fun b o _ e => sm b o e) (TbOk.same ⟨ps, hP, ht, .inr ⟨c', oc, hf, hc', hoc⟩⟩ sm) (sm _ _ hc') hoc ff (upd_same.trans (by rw [← hO]))
end
noncomputable def del (H : Hp) (c : Addr) : Hp := fun b => if b = c then none else H b
theorem zxu {H : Hp} {c : Addr} : del H c c = none := if_pos rfl
theorem zxc {H : Hp} {b c : Addr} (h : b ≠ c) : del H c b = H b := if_neg h
theorem HOk.del {P : Program} {w : World} {H : Hp} {h : Heap} {c : Addr} {o : Obj} (ok : HOk P w H h) (e : H c = some (kno o)) : HOk P w (L2.del H c) h := fun b u q => by
 by_cases hb : b = c
 · rw [hb, zxu] at q; cases q
 · rw [zxc hb] at q
   exact (ok b u q).stay (fun _ _ _ r => r) (fun d r => by rw [zxc (fun z => by rw [z, e] at r; cases r)]; exact r) fun d xs r => by rw [zxc (fun z => by rw [z, e] at r; cases r)]; exact r
theorem HOk.put {P : Program} {w : World} {H : Hp} {h : Heap} {c : Addr} {o : Obj} (ok : HOk P w H h) (n : H c = none) (e : h.get? c = some o) : HOk P w (upd H c (kno o)) h := fun b u q => by
 by_cases hb : b = c
 · subst hb; rw [upd_same] at q; cases q; exact kno_ok e
 · rw [zqf hb] at q
   exact (ok b u q).stay (fun _ _ _ r => r) (fun d r => by rw [zqf (zqg r n)]; exact r) fun d xs r => by rw [zqf (zqg r n)]; exact r
section
variable {X : Cx}
end
noncomputable def cxLam (P : Program) (w : World) (K : Frag) (mg : Str → Option Value) (base : Heap) (N : List Str) (qual : Str) (scope : Scope) (f : Addr) (cd : Value) (cl : List (Str × Addr)) (A : Around) (outer : List Env) (s : Shared) (H : Hp) : Cx where
 prog := P
 w := w
 K := K
 mg := mg
 base := base
 A := A.deeper (envX qual scope s.heap.objs.size f cd cl)
 N := N
 s₀ := s
 H₀ := H
 env := envX qual scope s.heap.objs.size f cd cl
 outer := outer
 stack := envX qual scope s.heap.objs.size f cd cl :: outer
 ex := []
 calm := true
 fn := fun _ => false
 pn := []
 xe := fun _ _ => False
theorem look1 {y z : Str} {c d : Addr} (h : [(y, c)].lookup z = some d) : z = y ∧ d = c := by
 rw [List.lookup_cons] at h
 split at h
 · rename_i e
   cases h
   exact ⟨beq_iff_eq.mp e, rfl⟩
 · cases h
structure LamScope (scope : Scope) (x y : Str) : Prop where
 kind : scope.kind = .function
 co : scope.isCoroutine = false
 gen : scope.isGenerator = false
 cell : ∀ z ∈ scope.names, z.2 ≠ .cell
 lx : scope.names.lookup x = some .local
 ly : scope.names.lookup y = some .free
 one : ∀ z ∈ scope.names, z.2 = .free → z.1 = y
section
variable {X : Cx}
end
section
variable {prog : Program} {w : World} {A : Around} {E : Value → Shared → Prop} {s : Shared} {d it v : Addr} {es : Array DictEntry} {ep i : Nat} {ok ov : Value}
theorem ei_view {Q : Value → Shared → Prop} (hd : (d == sysModules) = false) (x : EntAt s.heap d es ep) (hQ : Q (.ref s.heap.objs.size) { s with heap := s.heap.push { cls := .type "dict_items", data := .fields #[.ref d] } }) : wpAny (model prog w) A (call (.builtin "dict.items") [.ref d]) Q E s := by
 have hT := x.ty
 refine wpAny_call_entry F.slot_dict_items hT F.entry_dict_items ?_ (F.args_dict_items_1 _)
 unfold Builtin.«dict.items»
 refine wpAny_bind ?_
 unfold Builtin.Dict.noArgs
 refine wpAny_bind (wpAny_notOrdered_dict hT (show wpAny _ _ (pure d) _ _ s from wpAny_pure ?_))
 show wpAny _ _ (Builtin.Dict.showsAll d >>= _) _ _ s
 unfold Builtin.Dict.showsAll
 rw [if_neg (by rw [hd]; exact Bool.false_ne_true)]
 exact wpAny_bind (wpAny_pure (wpAny_bind (wpAny_newObj_type (wpAny_pure ⟨_, rfl, hQ⟩))))
theorem ei_iter {Q : Value → Shared → Prop} (hv : s.heap.IsItemsView v d) (x : EntAt s.heap d es ep)
  (hQ : Q (.ref s.heap.objs.size) { s with heap := s.heap.push { cls := .type "dict_itemiterator", data := .fields #[.none, .bool false, .ref d, .int 0 0, .int es.size 0, .int ep 0, .none, .none] } }) : wpAny (model prog w) A (pyIter (.ref v)) Q E s := by
 obtain ⟨ow, how, hcw, hdw⟩ := id hv
 obtain ⟨o, ho, hc, hdat⟩ := id x
 refine wpAny_pyIter_slot hv.typeIs F.slot_dict_items_iter (wpAny_call_entry F.slot_dict_items_iter hv.typeIs F.entry_dict_items_iter ?_ (F.args_dict_items_iter_1 _))
 unfold Builtin.«dict_items.__iter__»
 refine wpAny_bind (wpAny_pure (wpAny_bind ?_))
 unfold Builtin.Dict_items.dictOf
 refine wpAny_bind (wpAny_field how hdw (x := .ref d) rfl (wpAny_pure (wpAny_bind ?_)))
 unfold Builtin.Dict_items.newIterator
 refine wpAny_bind (wpAny_dictEntries ho hdat (wpAny_bind (wpAny_dictEpoch ho hdat ?_)))
 simp only [show Builtin.Dict_items.ownsTuple "dict_itemiterator" = true by decide, if_true]
 refine wpAny_newObj_type (wpAny_pure ⟨_, rfl, "dict_itemiterator", _, ⟨_, Heap.get?_push_size _ rfl, rfl⟩, F.slot_dict_itemiterator_next.lookup, ?_⟩)
  (by simp only [sizeOk, Builtin.Dict_items.ownedTupleFields, List.size_toArray, List.length_append, List.length_cons, List.length_nil, sizeLine_eq]; omega)
 simpa [rawInt, Builtin.Dict_items.ownedTupleFields] using hQ
theorem ei_item {Q : Option Value → Shared → Prop} (hit : IsItemIter s.heap it d i es.size ep ok ov) (x : EntAt s.heap d es ep) (hi : i < es.size)
  (hQ : ∀ h', IsItemIterOut h' it d (i + 1) es.size ep es[i].key es[i].val s.heap.objs.size → h'.get? s.heap.objs.size = some { cls := .type "tuple", data := .seq #[es[i].key, es[i].val] } → h'.objs.size = s.heap.objs.size + 1 →
   (∀ b o, b ≠ it → s.heap.get? b = some o → h'.get? b = some o) → Q (some (.ref s.heap.objs.size)) { s with heap := h' }) : wpAny (model prog w) A (pyNext (.ref it)) Q E s := by
 obtain ⟨hp, g, dr, tk, os⟩ := s
 obtain ⟨od, hod, hcd, hdd⟩ := id x
 have hT : Shared.TypeIs ⟨hp, g, dr, tk, os⟩ (.ref it) "dict_itemiterator" := ⟨_, hit, rfl⟩
 unfold pyNext
 refine wpAny_bind (wpAny_attempt (wpAny_callSpecial?_slot (name := Str.ofString "__next__") hT F.slot_dict_itemiterator_next (wpAny_call_entry F.slot_dict_itemiterator_next hT F.entry_dict_itemiterator_next (wpAny_bind (wpAny_pure (wpAny_bind (wpAny_bind ?_)))) (F.args_dict_itemiterator_next_1 _))))
 first | refine wpAny_bind (wpAny_typeNameOfWhole_itemiter hT (wpAny_pure ?_)) | refine wpAny_bind (wpAny_typeNameOf_itemiter hT (wpAny_pure ?_))
 refine wpAny_bind (wpAny_fieldsOf hit rfl ?_)
 simp only [show Builtin.Dict_items.ownsTuple "dict_itemiterator" = true by decide, if_true]
 show wpAny _ _ (if (Value.ref d == Value.none) = true then _ else _) _ _ _
 rw [if_neg (show ¬ ((Value.ref d == Value.none) = true) from Bool.false_ne_true)]
 refine wpAny_bind (wpAny_pure (wpAny_bind (wpAny_dictEntries hod hdd ?_)))
 rw [if_neg (by simp)]
 refine wpAny_bind (wpAny_pure (wpAny_bind (wpAny_dictEpoch hod hdd ?_)))
 rw [if_neg (by simp)]
 refine wpAny_pure ?_
 simp only [show ¬ ((i : Int) < 0) from by omega, if_false, Int.toNat_natCast, Array.getElem?_eq_getElem hi]
 refine wpAny_bind ?_
 first | refine wpAny_bind (wpAny_typeNameOfWhole_itemiter hT (wpAny_pure ?_)) | refine wpAny_bind (wpAny_typeNameOf_itemiter hT (wpAny_pure ?_))
 refine wpAny_bind (wpAny_isOneOf_itemiter hT ?_)
 show wpAny _ _ (setField (.ref it) 3 (rawInt ((i : Int) + 1)) >>= _) _ _ ⟨hp, g, dr, tk, os⟩
 refine wpAny_bind (wpAny_setField_rec hit (by simp) fun h₁ he₁ hs₁ => ?_)
 replace hs₁ : Heap.SameBut it hp h₁ := hs₁
 replace he₁ : IsItemIter h₁ it d (i + 1) es.size ep ok ov := by
  have e : ((i + 1 : Nat) : Int) = (i : Int) + 1 := by omega
  unfold IsItemIter; rw [e]; simpa [rawInt] using he₁
 have hT₁ : Shared.TypeIs ⟨h₁, g, dr, tk, os⟩ (.ref it) "dict_itemiterator" := ⟨_, he₁, rfl⟩
 refine wpAny_bind (wpAny_holding (wpAny_bind (wpAny_isOneOf_itemiter hT₁ (wpAny_bind (wpAny_isOneOf_itemiter hT₁ ?_)))))
 show wpAny _ _ (Builtin.Dict_items.pairFromOwner (.ref it) 6 es[i].key es[i].val) _ _ ⟨h₁, g, dr, tk, os⟩
 unfold Builtin.Dict_items.pairFromOwner
 refine wpAny_bind (wpAny_newTuple ?_)
 have he₂ : IsItemIter (h₁.push { cls := .type "tuple", data := .seq #[es[i].key, es[i].val] }) it d (i + 1) es.size ep ok ov := Heap.get?_push_of_some _ he₁
 generalize hh₂ : h₁.push { cls := .type "tuple", data := .seq #[es[i].key, es[i].val] } = h₂ at he₂
 have hz₁ : h₁.objs.size = hp.objs.size := hs₁.1
 have hil : hp.objs.size ≠ it := Nat.ne_of_gt (Heap.lt_size (show hp.get? it = some _ from hit))
 have ht₂ : h₂.get? hp.objs.size = some { cls := .type "tuple", data := .seq #[es[i].key, es[i].val] } := by rw [← hh₂, ← hz₁]; exact Heap.get?_push_size _ rfl
 have hz₂ : h₂.objs.size = hp.objs.size + 1 := by rw [← hh₂, Heap.size_push, hz₁]
 have hk₂ : ∀ b o, b ≠ it → hp.get? b = some o → h₂.get? b = some o := fun b o hb e => by rw [← hh₂]; exact Heap.get?_push_of_some _ (hs₁.extBut b o hb e)
 show wpAny _ _ (Builtin.Dict_items.ownedTupleIsFree (.ref it) >>= _) _ _ ⟨h₂, g, dr, tk, os⟩
 rw [hz₁]
 clear hh₂ he₁ hs₁ hT₁ hz₁ h₁
 refine wpAny_bind ?_
 unfold Builtin.Dict_items.ownedTupleIsFree
 refine wpAny_bind (wpAny_field he₂ rfl (x := .none) rfl (wpAny_pure ?_))
 simp only [if_true]
 refine wpAny_bind (wpAny_field he₂ rfl (x := ok) rfl (wpAny_bind (wpAny_field he₂ rfl (x := ov) rfl ?_)))
 refine wpAny_bind (wpAny_setField_rec he₂ (by simp) fun h₃ he₃ hs₃ => ?_)
 replace he₃ : IsItemIter h₃ it d (i + 1) es.size ep es[i].key ov := he₃
 refine wpAny_bind (wpAny_setField_rec he₃ (by simp) fun h₄ he₄ hs₄ => ?_)
 replace he₄ : IsItemIter h₄ it d (i + 1) es.size ep es[i].key es[i].val := he₄
 refine wpAny_bind (wpAny_setField_rec he₄ (by simp) fun h₅ he₅ hs₅ => ?_)
 replace he₅ : IsItemIterOut h₅ it d (i + 1) es.size ep es[i].key es[i].val hp.objs.size := he₅
 refine wpAny_bind (wpAny_setField_rec he₅ (by simp) fun h₆ he₆ hs₆ => ?_)
 replace he₆ : IsItemIterOut h₆ it d (i + 1) es.size ep es[i].key es[i].val hp.objs.size := he₆
 replace hs₃ : Heap.SameBut it h₂ h₃ := hs₃
 replace hs₄ : Heap.SameBut it h₃ h₄ := hs₄
 replace hs₅ : Heap.SameBut it h₄ h₅ := hs₅
 replace hs₆ : Heap.SameBut it h₅ h₆ := hs₆
 have up : ∀ b o, b ≠ it → h₂.get? b = some o → h₆.get? b = some o := fun b o hb e => hs₆.extBut b o hb (hs₅.extBut b o hb (hs₄.extBut b o hb (hs₃.extBut b o hb e)))
 refine wpAny_bind (wpAny_letGo (wpAny_pure (wpAny_pure ⟨_, rfl, wpAny_pure (hQ h₆ he₆ (up _ _ hil ht₂) ?_ fun b o hb e => up b o hb (hk₂ b o hb e))⟩)))
 show h₆.objs.size = hp.objs.size + 1
 rw [hs₆.1, hs₅.1, hs₄.1, hs₃.1, hz₂]
theorem ei_end {Q : Option Value → Shared → Prop} (hh : A.handled = none) (hit : IsItemIter s.heap it d i es.size ep ok ov) (x : EntAt s.heap d es ep) (hi : es.size ≤ i)
  (hQ : ∀ h', Heap.ExtBut it s.heap h' → Q none { s with heap := h' }) : wpAny (model prog w) A (pyNext (.ref it)) Q E s := by
 obtain ⟨od, hod, hcd, hdd⟩ := id x
 have hT : s.TypeIs (.ref it) "dict_itemiterator" := ⟨_, hit, rfl⟩
 unfold pyNext
 refine wpAny_bind (wpAny_attempt (wpAny_callSpecial?_slot (name := Str.ofString "__next__") hT F.slot_dict_itemiterator_next (wpAny_call_entry F.slot_dict_itemiterator_next hT F.entry_dict_itemiterator_next (wpAny_bind (wpAny_pure (wpAny_bind (wpAny_bind ?_)))) (F.args_dict_itemiterator_next_1 _))))
 first | refine wpAny_bind (wpAny_typeNameOfWhole_itemiter hT (wpAny_pure ?_)) | refine wpAny_bind (wpAny_typeNameOf_itemiter hT (wpAny_pure ?_))
 refine wpAny_bind (wpAny_fieldsOf hit rfl ?_)
 simp only [show Builtin.Dict_items.ownsTuple "dict_itemiterator" = true by decide, if_true]
 show wpAny _ _ (if (Value.ref d == Value.none) = true then _ else _) _ _ s
 rw [if_neg (show ¬ ((Value.ref d == Value.none) = true) from Bool.false_ne_true)]
 refine wpAny_bind (wpAny_pure (wpAny_bind (wpAny_dictEntries hod hdd ?_)))
 rw [if_neg (by simp)]
 refine wpAny_bind (wpAny_pure (wpAny_bind (wpAny_dictEpoch hod hdd ?_)))
 rw [if_neg (by simp)]
 refine wpAny_pure ?_
 simp only [show ¬ ((i : Int) < 0) from by omega, if_false, Int.toNat_natCast, Array.getElem?_eq_none hi]
 refine wpAny_bind ?_
 first | refine wpAny_bind (wpAny_typeNameOfWhole_itemiter hT (wpAny_pure ?_)) | refine wpAny_bind (wpAny_typeNameOf_itemiter hT (wpAny_pure ?_))
 show wpAny _ _ (setField (.ref it) 2 .none >>= _) _ _ s
 refine wpAny_bind (wpAny_setField hit rfl (by simp) ?_)
 show wpAny _ _ (newExc (.type "StopIteration") [] >>= _) _ _ _
 refine wpAny_bind ?_
 simp only [newExc, newTuple]
 refine wpAny_bind (wpAny_newObj_type (wpAny_bind (m := firstArgMember _ _) (wpAny_of_eq (a := Value.none) (by first | rfl | (simp only [firstArgMember]; rfl)) (wpAny_newObj_type ?_ (by size_fits)))) (by size_fits))
 simp only [raiseNew]
 refine wpAny_bind (wpAny_handled ?_)
 rw [show A.in1.handled = none from hh]
 refine wpAny_bind (wpAny_pure (wpAny_throw ?_))
 refine wpAny_bind (wpAny_isInstance (T := "StopIteration") (b := true) ⟨_, Heap.get?_push_size _ rfl, rfl⟩ isSubtype_stop ?_)
 exact wpAny_pure (hQ _ (((Heap.SameBut.update ..).extBut.push _).push _))
theorem ei_self {Q : Value → Shared → Prop} (hit : IsItemIter s.heap it d i es.size ep ok ov) (h : Q (.ref it) s) : wpAny (model prog w) A (pyIter (.ref it)) Q E s := kcp_self hit h
end
section
variable {X : Cx} {o : Expr} {apos cpos tpos : Pos} {elts : List Expr} {k1 : _}
end
section
variable {X : Cx}
noncomputable def tCallV (c : Addr) (i : Nat) (sp : Sp) (t : TA) : TE := fun σ H Q => t σ H fun vs H1 => ∃ vk, σ[i]? = some (some vk) ∧ ∀ oc u, oc.data = .cell (some u) → RelV vk u → H1 c = none → sp vs (upd H1 c (kno oc)) (fun v H' => H' c = some (kno oc) → Q v (del H' c)) E0
theorem pe_callV {c f : Addr} {i k : Nat} {x y : Str} {fd : FuncData} {ps : List Str} {sp : Sp} {t : TA} {e : Expr} {es : List Expr} {p pos : Pos} (F : FnOk X.prog X.w X.K X.mg X.base CX0 k f fd ps sp) (hr : Room k X.A) (hm : X.mg x = some (.ref f)) (hk : keepIn X.K (.ref f) = true) (hb : Binds X.K fd ps [])
  (hi : X.N[i]? = some y) (hy : X.env.kindOf y = some .cell) (hc : X.env.cells.lookup y = some c) (hfn : X.fn y = true) (ha : PA X (e :: es) t) (hg : Gl X x := by rfl)
  (hdb : (x == ("__debug__" : Str)) = false := by decide) (he : starEach (e :: es) X.env = (false, eval e X.env) :: starEach es X.env := by rfl) (hpl : (backTo pos (starEach es X.env)).any (·.1) = false := by rfl) :
  PE X (.Call (.Name x p) (e :: es) [] pos) (tCallV c i sp t) := by
 intro pins s σ H Q I h
 refine wpAny_Call_Name_kw (ld_glob I hg hm ?_ hdb)
 refine callWith_K (h₀ := X.base) I.ok.mod.kin hk (thn (ha pos pins s σ H _ I h) fun us s1 ⟨vs, H1, I1, r, q⟩ => ⟨I1.kIn, ?_⟩) he hpl
 obtain ⟨n, hσ, q⟩ := q
 obtain ⟨m, hn, hl⟩ := id I1.loc
 obtain ⟨u, ru, lk⟩ := hl i y _ hi hσ (.inr (.inl hy))
 obtain ⟨oc, hoc, hod⟩ : s1.heap.IsCell c (some u) := by
  rcases lk with ⟨z, _⟩ | ⟨_, c', z, w⟩
  · rw [hy] at z; cases z
  · rw [hc] at z; cases z; exact w
 have nc : H1 c = none := I1.freeC y c hc
 have h2 := q oc u hod ru nc
 have hl2 : us.length = ps.length := by rw [← r.length]; exact F.len _ _ _ _ h2
 have hcs : X.s₀.heap.objs.size ≤ c := I1.ok.cab y c hfn hc
 have ne2 : ∀ {b : Addr}, H1 b = none → b ≠ c → upd H1 c (kno oc) b = none := fun n z => by rw [zqf z]; exact n
 have e0 : Env0 X.prog X.w X.K X.mg X.base X.A X.stack s1 (upd H1 c (kno oc)) := by
  have z := I1.env0
  refine ⟨z.frames, z.mod, fun b o e => ⟨(z.bs b o e).1, ne2 (z.bs b o e).2 (Nat.ne_of_lt (Nat.lt_of_lt_of_le (Heap.lt_size e) (Nat.le_trans I1.ok.bsz hcs)))⟩, z.bsz, z.funs, fun b hb => ne2 (z.frf b hb) fun y => ?_, z.hok.put nc hoc, z.bare⟩
  rcases List.mem_cons.mp (I1.stkSub b hb) with z1 | z1
  · exact I1.cne _ c hc (y.symm.trans z1)
  · obtain ⟨_, o, ho, _⟩ := I1.ok.funs.mem z1
    rw [y] at ho
    exact absurd (Nat.lt_of_lt_of_le (Heap.lt_size ho) hcs) (Nat.lt_irrefl _)
 have hbd := hb s1 us I1.kIn (by rw [List.append_nil]; exact hl2)
 rw [List.append_nil] at hbd
 refine wpAny_call (codeAny_mono (F.run X.A X.stack s1 (upd H1 c (kno oc)) ⟨us, []⟩ us vs _ E0 hr e0 hbd r h2) fun r s' hq => ?_)
 cases r with
 | error e => exact False.elim hq
 | ok fl =>
   cases fl with
   | next => exact False.elim hq
   | brk => exact False.elim hq
   | cont => exact False.elim hq
   | ret u =>
     obtain ⟨v, H', os, bare, un, hok, rv, qq⟩ := hq
     have hc' : H' c = some (kno oc) := un.frzs c _ _ upd_same
     have hcK : s'.heap.get? c = some oc := kno_at hok hc'
     have isoc : ∀ {o : Obj}, s1.heap.get? c = some o → s'.heap.get? c = some o := fun e => by rw [hoc] at e; cases e; exact hcK
     refine ⟨v, del H' c, I1.call' (ch := []) os ⟨fun b o e n hb _ => ?_, fun b o e n hb _ => ?_, fun b o e n _ => ?_, fun b o e _ => un.there b o e (by simp), fun b xs e => ?_, fun b o u e => ?_, fun b ps e => ?_⟩ (hok.del hc') bare (fun b z => absurd z (by simp)), rv, qq hc'⟩
     · by_cases z : b = c
       · subst z; exact isoc e
       · exact un.keep b o e (ne2 n z) hb (by simp)
     · by_cases z : b = c
       · subst z; exact ⟨o.slots, isoc e⟩
       · exact un.slot b o e (ne2 n z) hb (by simp)
     · by_cases z : b = c
       · subst z; exact zxu
       · rw [zxc z]; exact un.free b o e (ne2 n z) (by simp)
     · have z := zqg e nc
       rw [zxc z]; exact un.tups b xs (by rw [zqf z]; exact e)
     · have z := zqg e nc
       rw [zxc z]; exact un.frzs b o u (by rw [zqf z]; exact e)
     · have z := zqg e nc
       rw [zxc z]; exact un.tbls b ps (by rw [zqf z]; exact e)
end
theorem lam_runV {P : Program} {w : World} {K : Frag} {mg : Str → Option Value} {base : Heap} {k : Nat} {A : Around} {outer : List Env} {s : Shared} {H : Hp} {f c c' : Addr} {ctv pm u1 : Value} {uk : Value} {vk v1 : V} {oc occ : Obj} {Q : VK} {x y qual : Str} {params : Arguments} {body : Expr} {scope : Scope} {tE : TE}
  (S : LamScope scope x y) (hr : Room k A) (e0 : Env0 P w K mg base A outer s H) (hf : H f = some (kno (kla_obj "<lambda>" qual params body scope [(y, c)] pm c' ctv))) (hc' : H c' = some (kno occ)) (ho : OfCode occ qual) (hc : H c = some (kno oc)) (hoc : oc.data = .cell (some uk)) (rk : RelV vk uk) (r : RelV v1 u1)
  (hbind : bindArgs (kla_fn "<lambda>" qual params body scope [(y, c)] pm (.ref c') ctv) ⟨[u1], []⟩ = pure [(x, u1)])
  (hbody : PE (cxLam P w K mg base [x, y] qual scope f (.ref c') [(y, c)] A outer s (del H c)) body tE)
  (q : tE [some v1, some vk] (del H c) (fun v H' => H' c = none → Q v (upd H' c (kno oc)))) : codeAny (model P w) A (.call (.ref f) ⟨[u1], []⟩) (CR CX0 outer P w H s Q E0) s := by
 obtain ⟨vs, t, hd, hv⟩ := ho
 have KX : K.In s.heap := e0.mod.kin.keeps fun b o e => (e0.bs b o e).1
 have lim : s.heap.NoLimit := e0.mod.nolimit.keeps fun b o e => (e0.bs b o e).1
 have hcK := kno_at e0.hok hc
 have nfs : c ∉ frs outer := fun z => by rw [e0.frf c z] at hc; cases hc
 have hlt : c < s.heap.objs.size := Heap.lt_size hcK
 refine kla_callFunE hr.depth (kno_at e0.hok hf) rfl S.co S.gen rfl ⟨c', occ, vs, t, rfl, kno_at e0.hok hc', hd, hv⟩ ?_
 rw [hbind]
 refine wpAny_pure (wpAny_newFunctionEnv S.cell (fun z hz => by rw [List.mem_singleton.mp hz]; exact S.lx) (fun h₁ hns hsb => ?_) S.kind)
 have hk₁ : ∀ b o, s.heap.get? b = some o → h₁.get? b = some o := fun b o e => hsb.extBut b o (Nat.ne_of_lt (Heap.lt_size e)) (Heap.get?_push_of_some _ e)
 refine ⟨lim.keeps hk₁, ?_⟩
 show codeAny _ _ (.expr body (envX qual scope s.heap.objs.size f (.ref c') [(y, c)])) _ _
 have noA : ∀ b : Addr, b ∉ ([] : List Addr) := fun b z => absurd z (by simp)
 have dn : ∀ {b : Addr}, H b = none → del H c b = none := fun {b} n => by
  by_cases z : b = c
  · rw [z]; exact zxu
  · rw [zxc z]; exact n
 have I : Inv (cxLam P w K mg base [x, y] qual scope f (.ref c') [(y, c)] A outer s (del H c)) [] [some v1, some vk] (del H c) { s with heap := h₁, toks := s.toks + [(x, u1)].length } := by
  refine ⟨⟨e0.mod, S.kind, rfl, rfl, Nat.le_refl _, fun a b d h1 h2 => ?_, fun z hz => ?_, fun z d hf _ => (Bool.false_ne_true hf).elim, fun _ => hr.hd, Around.frames_deeper e0.frames, .inr ⟨rfl, rfl⟩, fun b z => absurd z (noA b), fun b o e => ⟨(e0.bs b o e).1, dn (e0.bs b o e).2⟩, e0.bsz, fun b _ _ => noA b, fun b z => absurd z (noA b), e0.funs, fun b hb => dn (e0.frf b hb)⟩,
   rfl, e0.bare, Un.kept hk₁, ⟨_, hns, fun i z v h1 h2 h3 => ?_⟩, fun z d h => ?_, dn (e0.hok.fresh (Nat.le_refl _)), fun z d h => ?_, fun p hp => absurd (show p ∈ ([] : List (Addr × Obj)) from hp) (by simp), (e0.hok.del hc).kept hk₁, rfl⟩
  · rw [(look1 h1).1, (look1 h2).1]
  · have hz : scope.names.lookup z = some .cell ∨ scope.names.lookup z = some .free := hz
    rcases hz with hz | hz
    · exact absurd rfl (S.cell _ (PySem.mem_of_lookup hz))
    · have e : z = y := S.one _ (PySem.mem_of_lookup hz) rfl
      exact ⟨c, by rw [e]; show [(y, c)].lookup y = some c; rw [List.lookup_cons]; simp⟩
  · have h1 : ([x, y] : List Str)[i]? = some z := h1
    match i, h1, h2 with
    | 0, h1, h2 =>
      cases h1
      cases h2
      exact ⟨u1, r, .inl ⟨S.lx, by show List.lookup x [(x, u1)] = some u1; rw [List.lookup_cons]; simp⟩⟩
    | 1, h1, h2 =>
      cases h1
      cases h2
      exact ⟨uk, rk, .inr ⟨.inr S.ly, c, (by show [(y, c)].lookup y = some c; rw [List.lookup_cons]; simp), oc, hk₁ _ _ hcK, hoc⟩⟩
    | n + 2, h1, _ => cases h1
  · rw [(look1 h).2]
    exact ⟨_, oc, hk₁ _ _ hcK, hoc⟩
  · rw [(look1 h).2]; exact zxu
 refine kla_codeExpr (wpAny_mono (hbody [] _ _ (del H c) _ I q) (fun v s' ⟨x, H', I', rv, qq⟩ => ?_) fun e s' z => (show False from z).elim)
 have un : Un (frs outer) [] (del H c) H' s.heap s'.heap := I'.base
 have hc2 : s'.heap.get? c = some oc := un.keep c oc hcK zxu nfs (by simp)
 have hn2 : H' c = none := un.free c oc hcK zxu (by simp)
 have dk : ∀ {b : Addr} {o : HO}, H b = some o → b ≠ c → del H c b = some o := fun e z => by rw [zxc z]; exact e
 refine ⟨x, upd H' c (kno oc), I'.os, I'.bare, ⟨fun b o e n hb _ => un.keep b o e (dn n) hb (by simp), fun b o e n hb _ => un.slot b o e (dn n) hb (by simp), fun b o e n _ => ?_, fun b o e _ => un.there b o e (by simp), fun b xs e => ?_, fun b o u e => ?_, fun b ps e => ?_⟩, I'.hok.put hn2 hc2, rv, qq hn2⟩
 · have z : b ≠ c := fun z => by rw [z, hc] at n; cases n
   rw [zqf z]; exact un.free b o e (dn n) (by simp)
 · have z : b ≠ c := fun z => by rw [z, hc] at e; cases e
   rw [zqf z]; exact un.tups b xs (dk e z)
 · by_cases z : b = c
   · rw [z, hc] at e; cases e; rw [z]; exact upd_same
   · rw [zqf z]; exact un.frzs b o u (dk e z)
 · have z : b ≠ c := fun z => by rw [z, hc] at e; cases e
   rw [zqf z]; exact un.tbls b ps (dk e z)
section
variable {X : Cx}
noncomputable def tCallW (i : Nat) (qual : Str) (O : Addr → Addr → Value → Obj) (tE : TE) (t : TA) : TE := fun σ H Q => ∃ f, σ[i]? = some (some (.ref f)) ∧ t σ H fun vs H1 => ∃ v1 c c' ctv oc occ vk uk, vs = [v1] ∧ H1 f = some (kno (O c c' ctv)) ∧ H1 c' = some (kno occ) ∧ OfCode occ qual ∧ H1 c = some (kno oc) ∧ oc.data = .cell (some uk) ∧ RelV vk uk ∧
 tE [some v1, some vk] (del H1 c) fun v H' => H' c = none → Q v (upd H' c (kno oc))
theorem pe_callW {i k : Nat} {x y z qual : Str} {pm : Value} {params : Arguments} {body : Expr} {scope : Scope} {tE : TE} {t : TA} {e : Expr} {p pos : Pos} (S : LamScope scope x y) (hr : Room k X.A) (hi : X.N[i]? = some z) (hv : Vis X.env.scope z)
  (hbind : ∀ c c' ctv u1, bindArgs (kla_fn "<lambda>" qual params body scope [(y, c)] pm (.ref c') ctv) ⟨[u1], []⟩ = pure [(x, u1)])
  (hbody : ∀ f c c' s H, PE (cxLam X.prog X.w X.K X.mg X.base [x, y] qual scope f (.ref c') [(y, c)] X.A X.stack s H) body tE) (ha : PA X [e] t)
  (hd : (z == ("__debug__" : Str)) = false := by decide) (hcd : (z == ("__classdict__" : Str)) = false := by decide) (he : starEach [e] X.env = (false, eval e X.env) :: starEach [] X.env := by rfl) (hpl : (backTo pos (starEach [] X.env)).any (·.1) = false := by rfl) :
  PE X (.Call (.Name z p) [e] [] pos) (tCallW i qual (fun c c' ctv => kla_obj "<lambda>" qual params body scope [(y, c)] pm c' ctv) tE t) := by
 intro pins s σ H Q I h
 obtain ⟨f, hσ, h⟩ := h
 refine wpAny_Call_Name_kw (thn (pe_var hi hv hd hcd pins s σ H (fun v H' => v = .ref f ∧ H' = H) I ⟨_, hσ, rfl, rfl⟩) fun u s0 ⟨v, H', I0, rv, e1, e2⟩ => ?_)
 subst e1 e2
 obtain rfl : u = Value.ref f := rv
 have key := thn (ha pos pins s0 σ H' _ I0 h) (Q' := fun vs s₁ => FnAt f s₁.heap ∧ wpAny (model X.prog X.w) X.A (call (.ref f) ([] ++ vs)) (EP X pins σ Q) X.xe s₁) fun us s1 ⟨vs, H1, I1, r, q⟩ => by
  obtain ⟨v1, c, c', ctv, oc, occ, vk, uk, rfl, hf, hc', ho, hc, hoc, rk, q⟩ := q
  obtain ⟨u1, rfl, ru⟩ := vals1 r
  refine ⟨⟨_, _, _, _, kno_at I1.hok hf⟩, ?_⟩
  refine wpAny_call (codeAny_mono (lam_runV S hr I1.env0 hf hc' ho hc hoc rk ru (hbind c c' ctv u1) (hbody f c c' s1 _) q) fun r s' hq => ?_)
  cases r with
  | error e => exact False.elim hq
  | ok fl =>
    cases fl with
    | next => exact False.elim hq
    | brk => exact False.elim hq
    | cont => exact False.elim hq
    | ret u => exact I1.after hq
 rw [he] at key ⊢
 exact callWith_of (by show ((false || (backTo pos (starEach [] X.env)).any (·.1)) || false) = false; rw [hpl]; rfl) keeps_F (Calls.evalArgs_plain key)
end
noncomputable def NFz (P : Program) (w : World) (H : Hp) (d : Addr) (o : Obj) (kvs : List (KeyN × V)) : Prop := ∃ xs : List RowN, H d = some (.frz o (.ext (phiN P w d xs))) ∧ (d == sysModules) = false ∧ kvs.length ≤ sizeLine ∧ (xs.map (·.1)).Nodup ∧ KN H kvs xs
theorem NFz.same {P : Program} {w : World} {H H' : Hp} {d : Addr} {o : Obj} {kvs : List (KeyN × V)} (n : NFz P w H d o kvs) (s : Same H H') : NFz P w H' d o kvs := by
 obtain ⟨xs, e, a, b, c, r⟩ := n
 exact ⟨xs, s _ _ e, a, b, c, Paired.mapP r fun _ _ z => ⟨z.1, z.2.1.mono s, z.2.2⟩⟩
section
variable {X : Cx} {pins : List (Addr × Obj)} {σ : St} {H : Hp} {s : Shared} {d : Addr} {φ : Heap → Prop}
theorem Inv.nofrzE (I : Inv X pins σ H s) (e : H d = some (.ext φ)) : ∀ o v, X.H₀ d ≠ some (.frz o v) := fun o v q => by
 have z := I.base.frzs d o v q
 rw [e] at z
 cases z
theorem Inv.freezeE (I : Inv X pins σ H s) (e : H d = some (.ext φ)) : ∃ o, Inv X pins σ (upd H d (.frz o (.ext φ))) s := by
 have ok := I.hok d _ e
 obtain ⟨o, ho⟩ := ok.2.1
 exact ⟨o, I.retag e (fun _ z => by cases z) (fun _ z => by cases z) (fun _ z => by cases z) (I.nofrzE e) ⟨ho, ok⟩⟩
end
noncomputable def sFrzN (P : Program) (w : World) (ts : TS) : TS := fun D σ H => ∃ d kvs, NAt P w H d kvs ∧ ∀ o u, H d = some u → NFz P w (upd H d (.frz o u)) d o kvs → ts (thawE d o u D) σ (upd H d (.frz o u))
theorem ps_frzN {X : Cx} {st : Stmt} {ts : TS} (h : PS X st ts) : PS X st (sFrzN X.prog X.w ts) := by
 intro pins s σ H D I hq
 obtain ⟨d, kvs, n, q⟩ := hq
 obtain ⟨xs, e, a, b, c, r⟩ := n
 obtain ⟨o, I'⟩ := I.freezeE e
 have nf := I.nofrzE e
 have q' := q o _ e ⟨xs, upd_same, a, b, c, r.tups (Tups.upd e (fun zs z => by cases z))⟩
 refine thn (h pins s σ _ _ I' q') fun f s' hf => ?_
 cases f with
 | next => obtain ⟨σ', H', J, e', k⟩ := hf; exact ⟨σ', _, J.thaw e' nf, k⟩
 | brk => obtain ⟨σ', H', J, e', k⟩ := hf; exact ⟨σ', _, J.thaw e' nf, k⟩
 | cont => obtain ⟨σ', H', J, e', k⟩ := hf; exact ⟨σ', _, J.thaw e' nf, k⟩
 | ret v => obtain ⟨x, σ', H', J, r, e', k⟩ := hf; exact ⟨x, σ', _, J.thaw e' nf, r, k⟩
noncomputable def ItiN (P : Program) (w : World) (d : Addr) (o : Obj) (kvs : List (KeyN × V)) : It :=
 ⟨fun i H => NFz P w H d o kvs ∧ i < kvs.length,
  fun i H v H' => ∃ p b kv, v = .ref p ∧ H p = none ∧ kvs[i]? = some kv ∧ Is H (tN kv.1) (.ref b) ∧ H' = upd H p (.tup [.ref b, kv.2]),
  fun i H => NFz P w H d o kvs ∧ kvs.length ≤ i⟩
theorem en_rows {P : Program} {w : World} {H : Hp} {h : Heap} {d : Addr} {o : Obj} {kvs : List (KeyN × V)} (ok : HOk P w H h) (n : NFz P w H d o kvs) :
  (d == sysModules) = false ∧ h.get? d = some o ∧ o.ExactDict ∧ ∃ es ep, o.data = .dict es ep ∧ es.size = kvs.length ∧ ∀ i kv, kvs[i]? = some kv → ∃ (hi : i < es.size) (b : Addr), es[i].key = .ref b ∧ Is H (tN kv.1) (.ref b) ∧ RelV kv.2 es[i].val := by
 obtain ⟨xs, e, hd, _, _, rel⟩ := n
 obtain ⟨h0, ⟨o', es, ep, ho, hcc, hdat, he⟩, _⟩ := ok d _ e
 rw [h0] at ho
 cases ho
 have hxl := Paired.length rel
 have hes := size_of_entries he
 refine ⟨hd, h0, hcc, es, ep, hdat, by omega, fun i kv hk => ?_⟩
 have hi : i < kvs.length := (List.getElem?_eq_some_iff.mp hk).1
 have hi2 : i < es.size := by omega
 have hxi : xs[i]? = some xs[i] := List.getElem?_eq_getElem (by omega)
 have key : ∀ {l : List (KeyN × V)} {m : List RowN}, KN H l m → ∀ {i : Nat} {p q}, l[i]? = some p → m[i]? = some q → Is H (tN p.1) (.ref q.2.1) ∧ RelV p.2 q.2.2 := by
  intro l m r
  induction r with
  | nil => intro i p q e1 _; simp at e1
  | cons a _ ih =>
    intro i p q e1 e2
    cases i with
    | zero => simp at e1 e2; subst e1 e2; exact a.2
    | succ i => exact ih (by simpa using e1) (by simpa using e2)
 have hr := key rel hk hxi
 have hen := entry_at he i
 rw [hxi, Array.getElem?_eq_getElem hi2] at hen
 have hen := Option.some.inj hen
 exact ⟨hi2, xs[i].2.1, by rw [hen]; rfl, hr.1, by rw [hen]; exact hr.2⟩
theorem turn_itemsN {P : Program} {w : World} {K : Frag} {elts : List Expr} {k1} {pos : Pos} (d it : Addr) (o : Obj) (kvs : List (KeyN × V)) (es : Array DictEntry) (ep : Nat) (hoD : o.data = .dict es ep) :
  Turn P w K (.Tuple elts k1 pos) (ItiN P w d o kvs) [it] it (fun i h => ∃ ok ov, IsItemIter h it d i es.size ep ok ov) where
 mem := by simp
 obj := fun i h st b hb => by
  obtain ⟨ok, ov, st⟩ := st
  rw [List.mem_singleton.mp hb]
  exact ⟨_, st, fun v q => by
   have q' : Data.fields _ = Data.cell v := q
   cases q'⟩
 keep := fun i h h' ⟨ok, ov, st⟩ k => ⟨ok, ov, k it (by simp) _ st⟩
 item := by
  intro X hP hw hK hc i pins s σ H E I hf st hg
  subst hP hw hK
  obtain ⟨hH, hi⟩ := hg
  obtain ⟨ok, ov, st⟩ := st
  obtain ⟨hd, h0, hcc, es', ep', hdat, hsz, hrow⟩ := en_rows I.hok hH
  rw [hoD] at hdat
  cases hdat
  obtain ⟨hi2, b, hkey, hb, rv⟩ := hrow i kvs[i] (List.getElem?_eq_getElem hi)
  obtain ⟨f0, f1, f2, f3, f4, f5⟩ := hf it (by simp)
  refine ei_item st ⟨o, h0, hcc, hoD⟩ hi2 fun g gi gT gz gk => ?_
  refine ⟨.ref s.heap.objs.size, rfl, wpAny_letOwnedTupleGo_items (s := { s with heap := g }) gi fun g' gi' gs' => ?_⟩
  replace gs' : Heap.SameBut it g g' := gs'
  have hfr : H s.heap.objs.size = none := I.hok.fresh (Nat.le_refl _)
  have nit : s.heap.objs.size ≠ it := Nat.ne_of_gt (Heap.lt_size st)
  have hk' : ∀ c o, c ≠ it → s.heap.get? c = some o → g'.get? c = some o := fun c o n e => gs'.extBut c o n (gk c o n e)
  have hT' : g'.get? s.heap.objs.size = some { cls := .type "tuple", data := .seq #[es[i].key, es[i].val] } := gs'.extBut _ _ nit gT
  have old1 : ∀ c o, H c = some o → c ≠ it := fun c o e z => by rw [z, f0] at e; cases e
  have I1 : Inv X pins σ (upd H s.heap.objs.size (.tup [.ref b, kvs[i].2])) { s with heap := g', toks := s.toks } := by
   refine I.step (g' := s.gens) (d' := s.drawn) (ch := [it]) (fun c hc => by rw [List.mem_singleton.mp hc]; exact ⟨f3, f1, f4, f5⟩) (fun c o n1 n2 n3 e _ => hk' c o (fun z => n3 (by simp [z])) e)
    (fun c o n1 n2 n3 e _ => ⟨o.slots, hk' c o (fun z => n3 (by simp [z])) e⟩) (fun c o n3 e n => by rw [zqf (Nat.ne_of_lt (Heap.lt_size e))]; exact n) (fun c o n3 e => ⟨o, hk' c o (fun z => n3 (by simp [z])) e⟩)
    (fun c zs e => by rw [zqf (zqg e hfr)]; exact e) (fun c o zs e => by rw [zqf (zqg e hfr)]; exact e) (fun c ps e => ⟨#[], by rw [zqf (zqg e hfr), e]; simp⟩) (fun m hm => ?_) (fun c ob e => ?_) I.bare
   · obtain ⟨o, es, ep, hoo, r⟩ := hm
     exact ⟨o, es, ep, hk' _ o (Ne.symm f1) hoo, r⟩
   · by_cases hcb : c = s.heap.objs.size
     · subst hcb
       rw [upd_same] at e
       cases e
       exact ⟨by show 2 ≤ sizeLine; rw [sizeLine_eq]; omega, [es[i].key, es[i].val], .cons hkey (.cons rv .nil), ⟨_, hT', rfl, _, rfl⟩, fun q hq => by
        have hq : g'.get? s.heap.objs.size = some q := hq
        rw [hT'] at hq
        cases hq
        rfl⟩
     · rw [zqf hcb] at e
       refine (I.hok c ob e).stay (fun d o hc q => ?_) (fun d q => by rw [zqf (zqg q hfr)]; exact q) fun d zs q => by rw [zqf (zqg q hfr)]; exact q
       rcases hc with rfl | hc
       · exact hk' d o (old1 d _ e) q
       · exact hk' d o (old1 d _ hc) q
  exact ⟨.ref s.heap.objs.size, _, I1, rfl, ⟨_, b, _, rfl, hfr, List.getElem?_eq_getElem hi, hb, rfl⟩, ⟨_, _, gi'⟩, fun c hc => by rw [List.mem_singleton.mp hc, zqf (Ne.symm nit)]; exact f0⟩
 done := by
  intro X hP hw hK hc i pins s σ H E I hf st hg
  subst hP hw hK
  obtain ⟨hH, hi⟩ := hg
  obtain ⟨ok, ov, st⟩ := st
  obtain ⟨hd, h0, hcc, es', ep', hdat, hsz, _⟩ := en_rows I.hok hH
  rw [hoD] at hdat
  cases hdat
  obtain ⟨f0, f1, f2, f3, f4, f5⟩ := hf it (by simp)
  exact ei_end (I.ok.hd hc) st ⟨o, h0, hcc, hoD⟩ (by omega) fun h' eb => ⟨rfl, I.turned (t' := s.toks) (fun b o hb e => eb b o hb e) f0 f1 f3 f4 f5⟩
 self := fun _ _ _ _ _ ⟨ok, ov, st⟩ h => ei_self st h
section
variable {X : Cx} {o : Expr} {apos cpos tpos : Pos} {elts : List Expr} {k1 : _}
noncomputable def iItemsN (P : Program) (w : World) (to : TE) : TI := fun σ H R => to σ H fun x H1 => ∃ d ob kvs, x = .ref d ∧ NFz P w H1 d ob kvs ∧ R (ItiN P w d ob kvs) H1
theorem pi_itemsN {to : TE} (ho : PE X o to) (hbase : attributeBase o "items" X.env (eval o X.env) = eval o X.env := by rfl) (hline : (apos.endLine == cpos.line) = true := by rfl) : PI X (.Tuple elts k1 tpos) (.Call (.Attribute o "items" apos) [] [] cpos) (iItemsN X.prog X.w to) := by
 intro pins s σ H R I h
 refine wpAny_Call_method0_late hbase hline (thn (ho pins s σ H _ I h) fun v s1 ⟨x, H1, I1, r1, d, ob, kvs, ex, hd, q⟩ => ?_)
 subst ex
 cases r1
 obtain ⟨hs, h0, hcc, es, ep, hdat, hsz, _⟩ := en_rows I1.hok hd
 have X0 : EntAt s1.heap d es ep := ⟨ob, h0, hcc, hdat⟩
 refine ⟨"dict", "dict.items", PySem.F.plainAttrs_dict, PySem.F.slot_dict_items, PySem.F.type_dict_items, X0.ty, fun a e => ?_, Calls.callWith_builtin rfl (PySem.evalArgs_none (ei_view hs X0 ?_))⟩
 · cases e
   exact ⟨ob, h0, hcc.2.1⟩
 refine ei_iter (s := { s1 with heap := s1.heap.push { cls := .type "dict_items", data := .fields #[.ref d] } }) ⟨_, Heap.get?_push_size _ rfl, rfl, rfl⟩ (X0.at fun o e => Heap.get?_push_of_some _ e) ?_
 have I2 := I1.kept (t' := s1.toks) (h' := (s1.heap.push { cls := .type "dict_items", data := .fields #[.ref d] }).push { cls := .type "dict_itemiterator", data := .fields #[.none, .bool false, .ref d, .int 0 0, .int es.size 0, .int ep 0, .none, .none] }) fun b o e => Heap.get?_push_of_some _ (Heap.get?_push_of_some _ e)
 have hle : s1.heap.objs.size ≤ (s1.heap.push { cls := .type "dict_items", data := .fields #[.ref d] }).objs.size := by rw [Heap.size_push]; omega
 refine ⟨_, [(s1.heap.push { cls := .type "dict_items", data := .fields #[.ref d] }).objs.size], _, _, H1, rfl, I2, turn_itemsN d _ ob kvs es ep hdat, ⟨_, _, Heap.get?_push_size _ rfl⟩, fun b hb => ?_, q⟩
 rw [List.mem_singleton.mp hb]
 exact I1.fpOk hle (I1.hok.fresh hle)
end
theorem for_itemsN {P : Program} {w : World} {d : Addr} {o : Obj} {kvs : List (KeyN × V)} {g : TG} {tb : TS} {D : Ends} {σ : St} {H : Hp} (Pv : Nat → St → Hp → Prop) (h0 : Pv 0 σ H) (hl : ∀ i σ H, i ≤ kvs.length → Pv i σ H → NFz P w H d o kvs)
  (hs : ∀ i kv σ H, kvs[i]? = some kv → Pv i σ H → ∀ p b, H p = none → Is H (tN kv.1) (.ref b) → g (.ref p) σ (upd H p (.tup [.ref b, kv.2])) fun σ2 H2 => tb { D with nx := Pv (i + 1), ct := Pv (i + 1), bk := D.nx } σ2 H2) (hd : ∀ σ H, Pv kvs.length σ H → D.nx σ H) :
  ∃ W : Nat → Nat → St → Hp → Prop, (∃ m, W 0 m σ H) ∧ ∀ i m σ H, W i m σ H →
    ((ItiN P w d o kvs).stop i H ∧ D.nx σ H) ∨ ((ItiN P w d o kvs).go i H ∧ ∃ N : St → Hp → Prop, (∀ σ' H', N σ' H' → ∃ m', m' < m ∧ W (i + 1) m' σ' H') ∧ ∀ x H', (ItiN P w d o kvs).yld i H x H' → g x σ H' fun σ2 H2 => tb { D with nx := N, ct := N, bk := D.nx } σ2 H2) := by
 refine ⟨fun i m σ H => m = kvs.length - i ∧ i ≤ kvs.length ∧ Pv i σ H, ⟨kvs.length, by simp, Nat.zero_le _, h0⟩, ?_⟩
 rintro i m σ H ⟨rfl, hi, p⟩
 have q := hl i σ H hi p
 by_cases hlt : i < kvs.length
 · refine .inr ⟨⟨q, hlt⟩, Pv (i + 1), fun σ' H' p' => ⟨kvs.length - (i + 1), by omega, rfl, hlt, p'⟩, fun x H' y => ?_⟩
   obtain ⟨p1, b, kv, rfl, hp1, hk, hb, rfl⟩ := y
   exact hs i kv σ _ hk p p1 b hp1 hb
 · have e : i = kvs.length := by omega
   subst e
   exact .inl ⟨⟨q, Nat.le_refl _⟩, hd σ H p⟩
end L2
namespace My
noncomputable def wsI (cs : List Int) (i : Nat) : List Int := ((List.range i).filter fun j => decide (cs.getD j 0 > 0)).map fun (j : Nat) => (j : Int)
noncomputable def ws (cs : List Int) : List Int := wsI cs cs.length
end My
namespace My
theorem sum_set : ∀ (l : List Int) (i : Nat) (v : Int), i < l.length → (l.set i v).sum = l.sum - l.getD i 0 + v
 | [], i, v, h => by simp at h
 | a :: l, 0, v, h => by simp; omega
 | a :: l, i + 1, v, h => by
   have := sum_set l i v (by simpa using h)
   simp only [List.set_cons_succ, List.sum_cons]
   rw [this]
   simp
   omega
theorem sum_bound : ∀ {l : List Int} {m : Int}, (∀ x ∈ l, x ≤ m) → l.sum ≤ (l.length : Int) * m
 | [], m, _ => by simp
 | a :: l, m, h => by
   have h1 := h a List.mem_cons_self
   have h2 := sum_bound fun x hx => h x (List.mem_cons_of_mem _ hx)
   rw [List.sum_cons, List.length_cons]
   have : (((l.length + 1 : Nat) : Int)) * m = (l.length : Int) * m + m := by rw [Int.natCast_add]; simp [Int.add_mul]
   omega
theorem sum_nonneg : ∀ {l : List Int}, (∀ x ∈ l, 0 ≤ x) → 0 ≤ l.sum
 | [], _ => by simp
 | a :: l, h => by
   have h1 := h a List.mem_cons_self
   have h2 := sum_nonneg fun x hx => h x (List.mem_cons_of_mem _ hx)
   rw [List.sum_cons]
   omega
structure Falls (L : List Int) (k : Nat) (m : Int) : Prop where
 fall : L.Pairwise (fun a b => b ≤ a)
 each : ∀ x ∈ L, 0 ≤ x ∧ x ≤ m
 sum : L.sum = (k : Int) * m
 m1 : 1 ≤ m
end My
namespace My
section
variable {S A α : Type}
abbrev Eg (S A α : Type) := S × List A × α
inductive Way (nx : S → List (A × S)) (s0 : S) : List A → S → Prop where
 | nil : Way nx s0 [] s0
 | snoc {row : List A} {st : S} {p : A × S} : Way nx s0 row st → p ∈ nx st → Way nx s0 (row ++ [p.1]) p.2
variable {nx : S → List (A × S)} {s0 : S}
noncomputable def keysG (R : List (Eg S A α)) : List S := R.map (·.1)
theorem mem_keysG {R : List (Eg S A α)} {st : S} : st ∈ keysG R ↔ ∃ r ∈ R, r.1 = st := List.mem_map
theorem keysG_snoc {R : List (Eg S A α)} {x : Eg S A α} : keysG (R ++ [x]) = keysG R ++ [x.1] := by unfold keysG; rw [List.map_append]; rfl
theorem one_keyG {R : List (Eg S A α)} (nd : (keysG R).Nodup) : ∀ {r r' : Eg S A α}, r ∈ R → r' ∈ R → r.1 = r'.1 → r = r' := by
 induction R with
 | nil => intro r r' h; cases h
 | cons a R ih =>
   intro r r' h h' e
   have nd' : (a.1 :: keysG R).Nodup := nd
   obtain ⟨n1, n2⟩ := List.nodup_cons.mp nd'
   rcases List.mem_cons.mp h with rfl | h
   · rcases List.mem_cons.mp h' with rfl | h'
     · rfl
     · exact absurd (mem_keysG (R := R).mpr ⟨r', h', e.symm⟩) n1
   · rcases List.mem_cons.mp h' with rfl | h'
     · exact absurd (mem_keysG (R := R).mpr ⟨r, by assumption, e⟩) n1
     · exact ih n2 h h' e
structure Bg (nx : S → List (A × S)) (s0 : S) (d : Nat) (R : List (Eg S A α)) (N L : List S) (i : Nat) : Prop where
 nd : (keysG R).Nodup
 way : ∀ r ∈ R, Way nx s0 r.2.1 r.1
 ord : R.Pairwise fun a b => a.2.1.length ≤ b.2.1.length
 top : ∀ r ∈ R, r.2.1.length ≤ d + 1
 new : ∀ r ∈ R, r.2.1.length = d → r.1 ∈ N
 lat : ∀ r ∈ R, r.2.1.length = d + 1 → r.1 ∈ L
 has : ∀ st ∈ L, ∃ r ∈ R, r.1 = st ∧ r.2.1.length = d + 1
 cl : ∀ r ∈ R, r.2.1.length < d → ∀ p ∈ nx r.1, ∃ r' ∈ R, r'.1 = p.2 ∧ r'.2.1.length ≤ r.2.1.length + 1
 cln : ∀ st ∈ N.take i, ∀ p ∈ nx st, p.2 ∈ keysG R
 first : ∃ r ∈ R, r.1 = s0 ∧ r.2.1.length = 0
 nr : ∀ st ∈ N, ∃ r ∈ R, r.1 = st ∧ r.2.1.length = d
theorem Bg.start (a : α) : Bg nx s0 0 [(s0, [], a)] [s0] [] 0 where
 nd := by show [s0].Nodup; simp
 way := fun r hr => by rw [List.mem_singleton.mp hr]; exact .nil
 ord := List.pairwise_singleton _ _
 top := fun r hr => by rw [List.mem_singleton.mp hr]; exact Nat.zero_le _
 new := fun r hr _ => by rw [List.mem_singleton.mp hr]; exact List.mem_singleton.mpr rfl
 lat := fun r hr h => by rw [List.mem_singleton.mp hr] at h; exact absurd h (by show ¬ (0 = 0 + 1); decide)
 has := fun st h => by cases h
 cl := fun r hr h => by exact absurd h (Nat.not_lt_zero _)
 cln := fun st h => by cases h
 first := ⟨_, List.mem_singleton.mpr rfl, rfl, rfl⟩
 nr := fun st h => ⟨_, List.mem_singleton.mpr rfl, (List.mem_singleton.mp h).symm, rfl⟩
theorem Bg.level {d : Nat} {R : List (Eg S A α)} {N L : List S} (b : Bg nx s0 d R N L N.length) : Bg nx s0 (d + 1) R L [] 0 where
 nd := b.nd
 way := b.way
 ord := b.ord
 top := fun r hr => Nat.le_succ_of_le (b.top r hr)
 new := fun r hr h => b.lat r hr h
 lat := fun r hr h => by have := b.top r hr; omega
 has := fun st h => by cases h
 cl := fun r hr h p hp => by
  by_cases z : r.2.1.length < d
  · exact b.cl r hr z p hp
  · obtain ⟨r', h1, h2⟩ := mem_keysG.mp (b.cln r.1 (by rw [List.take_length]; exact b.new r hr (by omega)) p hp)
    exact ⟨r', h1, h2, by have := b.top r' h1; omega⟩
 cln := fun st h => by cases h
 first := b.first
 nr := fun st h => b.has st h
theorem Bg.step {d i : Nat} {R : List (Eg S A α)} {N L : List S} (b : Bg nx s0 d R N L i) {r : Eg S A α} {p : A × S} (hr : r ∈ R) (hl : r.2.1.length = d) (hp : p ∈ nx r.1) (hn : p.2 ∉ keysG R) (a : α) :
  Bg nx s0 d (R ++ [(p.2, r.2.1 ++ [p.1], a)]) N (L ++ [p.2]) i := by
 have up : ∀ {st}, st ∈ keysG R → st ∈ keysG (R ++ [(p.2, r.2.1 ++ [p.1], a)]) := fun h => by rw [keysG_snoc]; exact List.mem_append_left _ h
 have nl : (r.2.1 ++ [p.1]).length = d + 1 := by rw [List.length_append, hl]; rfl
 refine ⟨?_, fun x hx => ?_, ?_, fun x hx => ?_, fun x hx e => ?_, fun x hx e => ?_, fun st h => ?_, fun x hx h g' hg' => ?_, fun st h g' hg' => up (b.cln st h g' hg'), ?_, fun st h => ?_⟩
 · rw [keysG_snoc]
   refine List.nodup_append.mpr ⟨b.nd, by simp, fun x hx y hy e => ?_⟩
   rw [e, List.mem_singleton.mp hy] at hx
   exact hn hx
 · rcases List.mem_append.mp hx with h | h
   · exact b.way x h
   · rw [List.mem_singleton.mp h]
     exact .snoc (b.way r hr) hp
 · refine List.pairwise_append.mpr ⟨b.ord, List.pairwise_singleton _ _, fun x hx y hy => ?_⟩
   rw [List.mem_singleton.mp hy]
   show x.2.1.length ≤ (r.2.1 ++ [p.1]).length
   rw [nl]
   exact b.top x hx
 · rcases List.mem_append.mp hx with h | h
   · exact b.top x h
   · rw [List.mem_singleton.mp h]
     exact Nat.le_of_eq nl
 · rcases List.mem_append.mp hx with h | h
   · exact b.new x h e
   · rw [List.mem_singleton.mp h] at e
     have e : (r.2.1 ++ [p.1]).length = d := e
     omega
 · rcases List.mem_append.mp hx with h | h
   · exact List.mem_append_left _ (b.lat x h e)
   · rw [List.mem_singleton.mp h]
     exact List.mem_append_right _ (List.mem_singleton.mpr rfl)
 · rcases List.mem_append.mp h with h | h
   · obtain ⟨x, h1, h2⟩ := b.has st h
     exact ⟨x, List.mem_append_left _ h1, h2⟩
   · exact ⟨_, List.mem_append_right _ (List.mem_singleton.mpr rfl), (List.mem_singleton.mp h).symm, nl⟩
 · rcases List.mem_append.mp hx with y | y
   · obtain ⟨r', h1, h2⟩ := b.cl x y h g' hg'
     exact ⟨r', List.mem_append_left _ h1, h2⟩
   · rw [List.mem_singleton.mp y] at h
     have h : (r.2.1 ++ [p.1]).length < d := h
     omega
 · obtain ⟨x, h1, h2⟩ := b.first
   exact ⟨x, List.mem_append_left _ h1, h2⟩
 · obtain ⟨x, h1, h2⟩ := b.nr st h
   exact ⟨x, List.mem_append_left _ h1, h2⟩
theorem Bg.done {d i : Nat} {R : List (Eg S A α)} {N L : List S} {st : S} (b : Bg nx s0 d R N L i) (hi : N[i]? = some st) (h : ∀ p ∈ nx st, p.2 ∈ keysG R) : Bg nx s0 d R N L (i + 1) :=
 ⟨b.nd, b.way, b.ord, b.top, b.new, b.lat, b.has, b.cl, fun x hx g hg => by
  rw [List.take_add_one, hi] at hx
  rcases List.mem_append.mp hx with y | y
  · exact b.cln x y g hg
  · have y : x ∈ [st] := y
    rw [List.mem_singleton.mp y] at hg
    exact h g hg, b.first, b.nr⟩
structure Bh (nx : S → List (A × S)) (s0 : S) (R : List (Eg S A α)) : Prop where
 nd : (keysG R).Nodup
 way : ∀ r ∈ R, Way nx s0 r.2.1 r.1
 ord : R.Pairwise fun a b => a.2.1.length ≤ b.2.1.length
 all : ∀ row st, Way nx s0 row st → ∃ r ∈ R, r.1 = st ∧ r.2.1.length ≤ row.length
theorem Bg.end' {d : Nat} {R : List (Eg S A α)} (b : Bg nx s0 d R [] [] 0) : Bh nx s0 R := by
 refine ⟨b.nd, b.way, b.ord, fun row st w => ?_⟩
 induction w with
 | nil =>
   obtain ⟨r, h1, h2, h3⟩ := b.first
   exact ⟨r, h1, h2, by omega⟩
 | @snoc row st p w hp ih =>
   obtain ⟨r, h1, h2, h3⟩ := ih
   have hlt : r.2.1.length < d := by
    have e1 := b.top r h1
    have e2 : r.2.1.length ≠ d := fun e => by have := b.new r h1 e; cases this
    have e3 : r.2.1.length ≠ d + 1 := fun e => by have := b.lat r h1 e; cases this
    omega
   obtain ⟨r', h4, h5, h6⟩ := b.cl r h1 hlt p (by rw [h2]; exact hp)
   exact ⟨r', h4, h5, by rw [List.length_append]; show r'.2.1.length ≤ row.length + 1; omega⟩
end
end My
namespace My
open PySem PySem.Spec PyProof.Rows L2
noncomputable def top (i : Nat) : Stmt := PySem.Challenge.pw_meetwall_k65_whole_loose_ones_of_kinds.main.body.getD i (.Pass ⟨0, 0, 0, 0⟩)
abbrev s_is_whole : Stmt := top 7
abbrev s_is_within : Stmt := top 8
abbrev s_is_tuple_within : Stmt := top 9
theorem bt_isi : bootBuiltins "isinstance" = some (.builtin "isinstance") := by decide +kernel
theorem zqz : bootBuiltins "len" = some (.builtin "len") := by decide +kernel
theorem bt_all : bootBuiltins "all" = some (.builtin "all") := by decide +kernel
theorem bt_int : bootBuiltins "int" = some (.type "int") := by decide +kernel
theorem bt_bool : bootBuiltins "bool" = some (.type "bool") := by decide +kernel
theorem bt_str : bootBuiltins "str" = some (.type "str") := by decide +kernel
theorem zxb : bootBuiltins "tuple" = some (.type "tuple") := by decide +kernel
theorem bt_dict : bootBuiltins "dict" = some (.type "dict") := by decide +kernel
theorem bt_list : bootBuiltins "list" = some (.type "list") := by decide +kernel
noncomputable def Ok (P : Program) (w : World) (K : PySem.W.Frag) (mg : Str → Option Value) (base : Heap) (x : Str) (k : Nat) (ps : List Str) (sp : Sp) : Prop :=
 ∃ f fd, FnOk P w K mg base CX0 k f fd ps sp ∧ Binds K fd ps [] ∧ PySem.W.keepIn K (.ref f) = true ∧ mg x = some (.ref f)
theorem zqp {X : Cx} {x : Str} {k : Nat} {ps : List Str} {sp : Sp} {p pos : Pos} {e : Expr} {es : List Expr} {t : TA} (h : Ok X.prog X.w X.K X.mg X.base x k ps sp) (hr : Room k X.A) (ha : PA X (e :: es) t) (hg : Gl X x := by rfl)
  (hdb : (x == ("__debug__" : Str)) = false := by decide) (he : starEach (e :: es) X.env = (false, eval e X.env) :: starEach es X.env := by rfl) (hpl : (backTo pos (starEach es X.env)).any (·.1) = false := by rfl) :
  PE X (.Call (.Name x p) (e :: es) [] pos) (tCall sp [] E0 t) := by
 obtain ⟨f, fd, F, hb, hk, hm⟩ := h
 exact pe_call F hr hg hm hk hb .nil pass0 ha hdb he hpl
noncomputable def Def (K : PySem.W.Frag) (mg : Str → Option Value) (x : Str) (st : Stmt) : Prop := ∃ f fd, Fun K x x st f fd ∧ mg x = some (.ref f)
theorem zqx {X : Cx} {x : Str} {i : Int} {pos : Pos} (h : ∃ t, X.mg x = some (.int i t)) (hg : Gl X x := by rfl) (hd : (x == ("__debug__" : Str)) = false := by decide) : PE X (.Name x pos) (tC (.int i)) := by
 obtain ⟨t, h⟩ := h
 exact pe_glob hg h ⟨t, rfl⟩ hd
structure Txt (K : PySem.W.Frag) (mg : Str → Option Value) : Prop where
 MOST_LETTERS : ∃ t, mg "MOST_LETTERS" = some (.int 8 t)
 BOXES : ∃ t, mg "BOXES" = some (.int 0 t)
 SCRIPTS : ∃ t, mg "SCRIPTS" = some (.int 1 t)
 PLACES : ∃ t, mg "PLACES" = some (.int 0 t)
 NUMBERS : ∃ t, mg "NUMBERS" = some (.int 1 t)
 MOST_BOXES : ∃ t, mg "MOST_BOXES" = some (.int 6 t)
 MOST_SCRIPTS : ∃ t, mg "MOST_SCRIPTS" = some (.int 4 t)
 MOST_DEEDS : ∃ t, mg "MOST_DEEDS" = some (.int 30 t)
 MOST_NUMBER : ∃ t, mg "MOST_NUMBER" = some (.int 9 t)
 MOST_PHASES : ∃ t, mg "MOST_PHASES" = some (.int 15 t)
 MOST_STANDS : ∃ t, mg "MOST_STANDS" = some (.int 3000 t)
 isi : mg "isinstance" = none
 int : mg "int" = none
 bool : mg "bool" = none
 str : mg "str" = none
 tuple : mg "tuple" = none
 list : mg "list" = none
 len : mg "len" = none
 all : mg "all" = none
 sum : mg "sum" = none
 range : mg "range" = none
 enumerate : mg "enumerate" = none
 sorted : mg "sorted" = none
 min : mg "min" = none
 any : mg "any" = none
 zip : mg "zip" = none
 max : mg "max" = none
 dict : mg "dict" = none
noncomputable def spB1 (A : T → Prop) (f : T → Bool) : Sp := fun vs H Q _ => ∃ t v, vs = [v] ∧ Is H t v ∧ A t ∧ ∀ H', Same H H' → Q (.bl (f t)) H'
section
variable {X : Cx} {e : Expr} {te : TE} {p1 p2 pos : Pos}
theorem zxw {n : Str} {T : String} (h1 : X.mg "isinstance" = none) (h2 : X.mg n = none) (hb : bootBuiltins n = some (.type T)) (he : PE X e te) (g1 : Gl X "isinstance" := by rfl) (g2 : Gl X n := by rfl) (hn : n ≠ "__name__" := by decide) (hd : (n == ("__debug__" : Str)) = false := by decide)
  (hs : starEach [e, .Name n p2] X.env = (false, eval e X.env) :: starEach [.Name n p2] X.env := by rfl) (hp : (backTo pos (starEach [.Name n p2] X.env)).any (·.1) = false := by rfl) (hs2 : starEach [.Name n p2] X.env = (false, eval (.Name n p2) X.env) :: starEach [] X.env := by rfl) :
  PE X (.Call (.Name "isinstance" p1) [e, .Name n p2] [] pos) (tCB (rIsi X.K) (tCons te (tCons (tC (.ty T)) tNil))) :=
 zqk call_isi g1 h1 bt_isi (zqa he (zqa (pe_bltn g2 h2 hb rfl hn hd) zqc hs2) hs) (he := hs) (hpl := hp)
end
noncomputable def mWhole : T → Bool | .int _ => true | _ => false
section
variable {P : Program} {w : World} {K : PySem.W.Frag} {mg : Str → Option Value} {base : Heap}
theorem sc1 : FnScope ["thing"] ["thing"] (defScope s_is_whole) := ⟨rfl, rfl, rfl, by decide +kernel, rfl, by decide +kernel, by decide +kernel⟩
theorem ok_is_whole (D : Def K mg "is_whole" s_is_whole) (T : Txt K mg) : Ok P w K mg base "is_whole" 1 ["thing"] (spB1 (fun _ => True) mWhole) := by
 obtain ⟨f, fd, F, hm⟩ := D
 refine ⟨f, fd, ?_, F.binds fun _ _ _ _ _ _ us hl => (match us, hl with | [_], _ => rfl), F.kp, hm⟩
 refine F.ok sc1 (fun vs H Q E h => ?_) (fun cdv A outer s H vs Q E hr h => ?_)
 · obtain ⟨t, v, rfl, _⟩ := h
   rfl
 · obtain ⟨t, v, rfl, ht, _, k⟩ := h
   refine ⟨_, zqe (zqh (zxp (zxw T.isi T.int bt_int (pv 0)) (zxj (pe_not (zxw T.isi T.bool bt_bool (pv 0)))))), ?_⟩
   refine ⟨_, rfl, v, "int", _, _, rfl, ht.ty, kit_int K t, _, rfl, ?_⟩
   refine ite2 (fun c => ?_) (fun c => ?_)
   · refine ⟨_, rfl, v, "bool", _, _, rfl, ht.ty, kit_bool K t, _, rfl, ?_⟩
     have e : (!iBl t) = mWhole t := by cases t <;> first | rfl | (exact absurd c (by simp [iInt]))
     rw [e]
     exact k H (Same.refl H)
   · have e : false = mWhole t := by cases t <;> first | rfl | (exact absurd rfl c)
     rw [e]
     exact k H (Same.refl H)
noncomputable def mWithin (t : T) (lo hi : Int) : Bool := match t with | .int i => decide (lo ≤ i) && decide (i ≤ hi) | _ => false
noncomputable def mTupW (t : T) (lo hi : Int) : Bool := match t with | .tup ts => decide (lo ≤ (ts.length : Int)) && decide ((ts.length : Int) ≤ hi) | _ => false
theorem Is.at {K : PySem.W.Frag} {H : Hp} {ts : List T} {v : V} {i : Nat} {t : T} (h : Is H (.tup ts) v) (e : ts[i]? = some t) : ∃ a xs u, v = .ref a ∧ SqT K H a xs ∧ atI xs ((i : Nat) : Int) = some u ∧ Is H t u := by
 obtain ⟨a, xs, rfl, ha, hl⟩ := h
 obtain ⟨u, e1, e2⟩ := hl.get e
 exact ⟨a, xs, u, rfl, SqT.of ha, atI_nat e1, e2⟩
noncomputable def spWi : Sp := fun vs H Q _ => ∃ t v lo hi, vs = [v, .int lo, .int hi] ∧ Is H t v ∧ ∀ H', Same H H' → Q (.bl (mWithin t lo hi)) H'
noncomputable def spTw : Sp := fun vs H Q _ => ∃ t v lo hi, vs = [v, .int lo, .int hi] ∧ Is H t v ∧ ∀ H', Same H H' → Q (.bl (mTupW t lo hi)) H'
theorem mkOk {x : Str} {st : Stmt} {N ps : List Str} {k : Nat} {sp : Sp} (D : Def K mg x st) (S : FnScope N ps (defScope st))
  (hb : ∀ (kV doc pm : Value) (an : Option Addr) (cdv ct : Value) (us : List Value), us.length = ps.length → bindArgs (PySem.W.fnOf x x (defArgs st) (defBody st) (defScope st) .none kV doc pm an cdv ct) ⟨us, []⟩ = pure (ps.zip us))
  (len : ∀ vs H Q E, sp vs H Q E → vs.length = ps.length)
  (hbody : ∀ (f : Addr) (cdv : Value) (A : Around) (outer : List Env) (s : Shared) (H : Hp) (vs : List V) (Q : VK) (E : XK), Room k (A.deeper (envOfC x (defScope st) s.heap.objs.size f cdv)) → sp vs H Q E →
   ∃ t, PSs (cxOf CX0 P w K mg base N x (defScope st) f cdv A outer s H E).nox (defBody st) t ∧ t { nx := fun _ H' => Q .non H', rt := Q } (start N vs) H) : Ok P w K mg base x (k + 1) ps sp := by
 obtain ⟨f, fd, F, hm⟩ := D
 exact ⟨f, fd, F.ok S len (fun cdv A outer s H vs Q E hr h => hbody f cdv A outer s H vs Q E hr h), F.binds hb, F.kp, hm⟩
theorem sc_within : FnScope ["thing", "least", "most"] ["thing", "least", "most"] (defScope s_is_within) := ⟨rfl, rfl, rfl, by decide +kernel, rfl, by decide +kernel, by decide +kernel⟩
theorem ok_is_within (D : Def K mg "is_within" s_is_within) (T : Txt K mg) (o1 : Ok P w K mg base "is_whole" 1 ["thing"] (spB1 (fun _ => True) mWhole)) : Ok P w K mg base "is_within" 2 ["thing", "least", "most"] spWi := by
 refine mkOk D sc_within (fun _ _ _ _ _ _ us hl => (match us, hl with | [_, _, _], _ => rfl)) (fun vs H Q E ⟨t, v, lo, hi, e, _⟩ => by rw [e]; rfl) fun f cdv A outer s H vs Q E hr h => ?_
 obtain ⟨t, v, lo, hi, rfl, ht, k⟩ := h
 refine ⟨_, zqe (zqh (zxp (zqp o1 hr (zqa (pv 0) zqc)) (zxj (pe_chain op_le op_le (pv 1) (pv 0) (pv 2))))), ?_⟩
 refine ⟨_, rfl, t, v, rfl, ht, trivial, fun H1 s1 => ⟨_, rfl, ?_⟩⟩
 cases t with
 | int i =>
   cases (show v = .int i from ht)
   refine iteT ?_
   refine ⟨_, rfl, _, rfl, lo, i, rfl, rfl, _, rfl, ?_⟩
   by_cases c : lo ≤ i
   · rw [decide_eq_true c]
     refine iteT ⟨_, rfl, i, hi, rfl, rfl, ?_⟩
     have kk : Q (.bl (decide (lo ≤ i) && decide (i ≤ hi))) H1 := k H1 s1
     rw [decide_eq_true c, Bool.true_and] at kk
     exact kk
   · rw [decide_eq_false c]
     refine iteF ?_
     have kk : Q (.bl (decide (lo ≤ i) && decide (i ≤ hi))) H1 := k H1 s1
     rw [decide_eq_false c, Bool.false_and] at kk
     exact kk
 | _ => exact iteF (k H1 s1)
theorem sc_tw : FnScope ["thing", "least", "most"] ["thing", "least", "most"] (defScope s_is_tuple_within) := ⟨rfl, rfl, rfl, by decide +kernel, rfl, by decide +kernel, by decide +kernel⟩
theorem ok_is_tuple_within (D : Def K mg "is_tuple_within" s_is_tuple_within) (T : Txt K mg) : Ok P w K mg base "is_tuple_within" 1 ["thing", "least", "most"] spTw := by
 refine mkOk D sc_tw (fun _ _ _ _ _ _ us hl => (match us, hl with | [_, _, _], _ => rfl)) (fun vs H Q E ⟨t, v, lo, hi, e, _⟩ => by rw [e]; rfl) fun f cdv A outer s H vs Q E hr h => ?_
 obtain ⟨t, v, lo, hi, rfl, ht, k⟩ := h
 refine ⟨_, zqe (zqh (zxp (zxw T.isi T.tuple zxb (pv 0)) (zxj (pe_chain op_le op_le (pv 1) (zqk zqj rfl T.len zqz (zqa (pv 0) zqc)) (pv 2))))), ?_⟩
 refine ⟨_, rfl, v, "tuple", _, _, rfl, ht.ty, kit_tuple K t, _, rfl, ?_⟩
 cases t with
 | tup ts =>
   refine iteT ?_
   obtain ⟨a, xs, rfl, ha, hl⟩ := ht
   have e := hl.length
   refine ⟨_, rfl, _, rfl, a, xs, rfl, .inr (SqT.of ha), lo, _, rfl, rfl, _, rfl, ?_⟩
   have kk : Q (.bl (decide (lo ≤ (ts.length : Int)) && decide ((ts.length : Int) ≤ hi))) H := k H (Same.refl H)
   rw [← e] at kk
   by_cases c : lo ≤ (xs.length : Int)
   · rw [decide_eq_true c]
     rw [decide_eq_true c, Bool.true_and] at kk
     exact iteT ⟨_, rfl, _, hi, rfl, rfl, kk⟩
   · rw [decide_eq_false c]
     rw [decide_eq_false c, Bool.false_and] at kk
     exact iteF kk
 | _ => exact iteF (k H (Same.refl H))
abbrev s_mixed : Stmt := top 55
abbrev s_pick : Stmt := top 56
noncomputable def spSp : Sp := fun vs H Q _ => ∃ c p : Int, vs = [.int c, .int p] ∧ 0 ≤ p ∧ ∀ r, 0 ≤ r → Q (.int r) H
noncomputable def But (a : Addr) (H H' : Hp) : Prop := ∀ b o, b ≠ a → H b = some o → H' b = some o
theorem But.refl (a : Addr) (H : Hp) : But a H H := fun _ _ _ e => e
theorem But.trans {a : Addr} {H H1 H2 : Hp} (x : But a H H1) (y : But a H1 H2) : But a H H2 := fun b o n e => y b o n (x b o n e)
theorem But.upd {a : Addr} {H : Hp} {o : HO} : But a H (upd H a o) := fun b u n e => by rw [zqf n]; exact e
theorem But.seq {K : PySem.W.Frag} {a s : Addr} {H H' : Hp} {xs : List V} (x : But a H H') (n : s ≠ a) (h : SqL K H s xs) : SqL K H' s xs := by
 rcases h with (h | ⟨o, h⟩) | h
 · exact .inl (.inl (x _ _ n h))
 · exact .inl (.inr ⟨o, x _ _ n h⟩)
 · exact .inr h
structure Tape (K : PySem.W.Frag) (H : Hp) (a s : Addr) (ns : List Int) : Prop where
 at' : ∃ p r : Int, H a = some (.lst [.ref s, .int p, .int r]) ∧ 0 ≤ p ∧ 0 ≤ r
 seq : SqL K H s (ns.map V.int)
 ne : s ≠ a
 len : ns.length ≤ 63
theorem Tape.same {K : PySem.W.Frag} {H H' : Hp} {a s : Addr} {ns : List Int} (t : Tape K H a s ns) (h : Same H H') : Tape K H' a s ns := by
 obtain ⟨⟨p, r, e, h1, h2⟩, q, n, l⟩ := t
 exact ⟨⟨p, r, h _ _ e, h1, h2⟩, h.seq q, n, l⟩
theorem log_small {j : Int} (h0 : 0 < j) (h : j < 2 ^ 70) : j.natAbs.log2 < 9000 := by
 have h1 : j.natAbs < 2 ^ 70 := by omega
 have h2 : j.natAbs ≠ 0 := by omega
 have h3 : j.natAbs.log2 < 70 := (Nat.log2_lt h2).mpr h1
 omega
theorem op_fdivW {X : Cx} : OpR X (binaryOp .FloorDiv) (rI (fun _ j => 0 < j ∧ j < 2 ^ 70) fun i j => .int (i / j)) := opI fun i j _ _ _ _ _ hc q => by
 have h1 : (0 : Int) < j := hc.1
 exact floordiv_int (by omega) (by rw [Int.fdiv_eq_ediv_of_nonneg i (by omega)]; exact q) (.inl (PyProof.noPylong_of_log2 (log_small hc.1 hc.2)))
noncomputable def spPk (K : PySem.W.Frag) : Sp := fun vs H Q _ => ∃ (a s : Addr) (ns : List Int) (many : Int), vs = [.ref a, .int many] ∧ Tape K H a s ns ∧ 0 < many ∧ many < 2 ^ 70 ∧ ∀ d H', 0 ≤ d → d < many → But a H H' → Tape K H' a s ns → Q (.int d) H'
theorem cm_r {i j : Int} (h : -(2 ^ 64) < j ∧ j < 2 ^ 64) : CMul i j := .inr h
theorem cm_l {i j : Int} (h : -(2 ^ 64) < i ∧ i < 2 ^ 64) : CMul i j := .inl h
theorem sc_mixed : FnScope ["cell", "place", "one", "two", "more"] ["cell", "place"] (defScope s_mixed) := ⟨rfl, rfl, rfl, by decide +kernel, rfl, by decide +kernel, by decide +kernel⟩
theorem ok_mixed (D : Def K mg "_law_e_mixed" s_mixed) : Ok P w K mg base "_law_e_mixed" 1 ["cell", "place"] spSp := by
 refine mkOk D sc_mixed (fun _ _ _ _ _ _ us hl => (match us, hl with | [_, _], _ => rfl)) (fun vs H Q E ⟨_, _, e, _⟩ => by rw [e]; rfl) fun f cdv A outer s H vs Q E hr h => ?_
 obtain ⟨c, p, rfl, hp, k⟩ := h
 have nd := sc_mixed.nd
 refine ⟨_, zqb (zqv (zql op_ge (pv 0) (zqt op_pow zqd zqd) (nomark _)) (zqe (zqh (pv 0))) zqi)
  (zqb (zqq (i := 2) nd rfl (Or.inl rfl) (zqt zxk (zqt zq7 (zqt zq7 (zqt zxa (zqt zxk (pv 0) zqd) zqd) (zqt zxa (pv 1) zqd)) zqd) zqd))
  (zqb (zqq (i := 3) nd rfl (Or.inl rfl) (zqt zxk (zqt zq7 (zqt zq7 (zqt zq7 (zqt zxa (pv 2) (pv 2)) (zqt zxa zqd (pv 2))) (zqt zxa zqd (pv 1))) zqd) zqd))
  (zqb (zqq (i := 4) nd rfl (Or.inl rfl) (zqt zxk (zqt zq7 (zqt zq7 (zqt zxa (pv 3) (pv 3)) (zqt zxa zqd (pv 1))) (pv 2)) zqd))
  (zqe (zqh (zqt zq7 (zqt zxa (pv 3) zqd) (pv 4))))))), ?_⟩
 refine ⟨_, rfl, 10, 18, rfl, rfl, ⟨by decide, by decide, by decide⟩, _, _, rfl, rfl, _, rfl, ?_⟩
 refine ite2 (fun d => ?_) (fun _ => ?_)
 · have d := of_decide_eq_true d
   refine ⟨_, rfl, k c ?_⟩
   have : (0 : Int) ≤ (10 : Int) ^ (18 : Int).toNat := by decide
   omega
 · refine ⟨_, rfl, _, _, rfl, rfl, (by show (0 : Int) < 1000000009; decide), _, _, rfl, rfl, cm_r (by decide), _, rfl, _, _, rfl, rfl, cm_r (by decide), _, _, rfl, rfl, _, _, rfl, rfl, _, _, rfl, rfl, (by show (0 : Int) < 1999999973; decide), ?_⟩
   have m1 := Int.emod_nonneg (c % 1000000009 * 75353 + p * 4099 + 17) (show (1999999973 : Int) ≠ 0 by decide)
   have m2 := Int.emod_lt_of_pos (c % 1000000009 * 75353 + p * 4099 + 17) (show (0 : Int) < 1999999973 by decide)
   generalize (c % 1000000009 * 75353 + p * 4099 + 17) % 1999999973 = x1 at m1 m2 ⊢
   refine ⟨_, rfl, _, rfl, _, _, rfl, rfl, cm_l (by omega), _, rfl, _, _, rfl, rfl, cm_l (by decide), _, _, rfl, rfl, _, rfl, _, _, rfl, rfl, cm_l (by decide), _, _, rfl, rfl, _, _, rfl, rfl, _, _, rfl, rfl, (by show (0 : Int) < 2147483549; decide), ?_⟩
   have m3 := Int.emod_nonneg (x1 * x1 + 8191 * x1 + 3 * p + 1) (show (2147483549 : Int) ≠ 0 by decide)
   have m4 := Int.emod_lt_of_pos (x1 * x1 + 8191 * x1 + 3 * p + 1) (show (0 : Int) < 2147483549 by decide)
   generalize (x1 * x1 + 8191 * x1 + 3 * p + 1) % 2147483549 = x2 at m3 m4 ⊢
   refine ⟨_, rfl, _, rfl, _, _, rfl, rfl, cm_l (by omega), _, rfl, _, _, rfl, rfl, cm_l (by decide), _, _, rfl, rfl, _, rfl, _, _, rfl, rfl, _, _, rfl, rfl, (by show (0 : Int) < 2147483497; decide), ?_⟩
   have m5 := Int.emod_nonneg (x2 * x2 + 127 * p + x1) (show (2147483497 : Int) ≠ 0 by decide)
   generalize (x2 * x2 + 127 * p + x1) % 2147483497 = x3 at m5 ⊢
   exact ⟨_, rfl, _, _, rfl, rfl, cm_r (by decide), _, rfl, _, _, rfl, rfl, k _ (by omega)⟩
theorem sc_pick : FnScope ["deck", "many", "place", "cell", "picked"] ["deck", "many"] (defScope s_pick) := ⟨rfl, rfl, rfl, by decide +kernel, rfl, by decide +kernel, by decide +kernel⟩
theorem ok_pick (D : Def K mg "_law_e_pick" s_pick) (T : Txt K mg) (o1 : Ok P w K mg base "_law_e_mixed" 1 ["cell", "place"] spSp) : Ok P w K mg base "_law_e_pick" 2 ["deck", "many"] (spPk K) := by
 refine mkOk D sc_pick (fun _ _ _ _ _ _ us hl => (match us, hl with | [_, _], _ => rfl)) (fun vs H Q E ⟨_, _, _, _, e, _⟩ => by rw [e]; rfl) fun f cdv A outer sh H vs Q E hr h => ?_
 obtain ⟨a, s, ns, many, rfl, hT, hm0, hm1, k⟩ := h
 obtain ⟨p, r, ha, hp0, hr0⟩ := hT.at'
 have nd := sc_pick.nd
 refine ⟨_, zqb (zqv (zql op_lt (zqn zqu (pv 0) zqd (fun _ _ => rfl)) (pv 1) (nomark _))
   (zqb (zqq (i := 2) nd rfl (Or.inl rfl) (zqn zqu (pv 0) zqd (fun _ _ => rfl)))
   (zqb (zqq (i := 3) nd rfl (Or.inl rfl) (zqt zxa zqd (pv 2)))
   (zqb (zqv (zql op_lt (pv 2) (zqk zqj (by rfl) T.len zqz (zqa (zqn zqu (pv 0) zqd (fun _ _ => rfl)) zqc)) (nomark _))
    (zqe (zqq (i := 3) nd rfl (Or.inl rfl) (zqn zqu (zqn zqu (pv 0) zqd (fun _ _ => rfl)) (pv 2) (fun _ _ => rfl))))
    (zqe (zqv (zql op_gt (zqk zqj (by rfl) T.len zqz (zqa (zqn zqu (pv 0) zqd (fun _ _ => rfl)) zqc)) zqd (nomark _))
     (zqe (zqq (i := 3) nd rfl (Or.inl rfl) (zqt zq7 (zqt zxk (zqn zqu (zqn zqu (pv 0) zqd (fun _ _ => rfl)) (zqt zxk (zqt zxa (pv 2) zqd) (zqk zqj (by rfl) T.len zqz (zqa (zqn zqu (pv 0) zqd (fun _ _ => rfl)) zqc))) (fun _ _ => rfl)) zqd) (zqt zxa (pv 2) zqd)))) zqi)))
   (zqb (ps_asg (zqt zq7 (pv 2) zqd) (pg_sub (pv 0) zqd zxi))
   (zqe (ps_asg (zqp o1 hr (zqa (pv 3) (zqa (pv 2) zqc))) (pg_sub (pv 0) zqd zxi))))))) zqi)
  (zqb (zqq (i := 4) nd rfl (Or.inl rfl) (zqt zxk (zqn zqu (pv 0) zqd (fun _ _ => rfl)) (pv 1)))
  (zqb (ps_asg (zqt op_fdivW (zqn zqu (pv 0) zqd (fun _ _ => rfl)) (pv 1)) (pg_sub (pv 0) zqd zxi))
  (zqe (zqh (pv 4))))), ?_⟩
 refine ⟨_, rfl, a, _, _, _, rfl, rfl, SqL.of ha, rfl, _, rfl, _, _, rfl, rfl, _, rfl, ?_⟩
 refine ite2 (fun _ => ?_) (fun _ => ?_)
 · have hl : (ns.map V.int).length = ns.length := List.length_map _
   refine ⟨_, rfl, a, _, _, _, rfl, rfl, SqL.of ha, rfl, _, rfl, _, _, rfl, rfl, cm_l (by decide), ?_⟩
   refine ⟨_, rfl, _, rfl, a, _, _, _, rfl, rfl, SqL.of ha, rfl, s, _, rfl, .inl hT.seq, _, _, rfl, rfl, _, rfl, ?_⟩
   refine ite2 (fun c1 => ?_) (fun c1 => ?_)
   · have c1 := of_decide_eq_true c1
     rw [hl] at c1
     have hi : p.toNat < ns.length := by omega
     have ep : p = ((p.toNat : Nat) : Int) := by omega
     have hat : atI (ns.map V.int) p = some (.int ns[p.toNat]) := by
      have q : atI (ns.map V.int) ((p.toNat : Nat) : Int) = some (.int ns[p.toNat]) := atI_nat (by rw [List.getElem?_map, List.getElem?_eq_getElem hi]; rfl)
      rw [← ep] at q
      exact q
     refine ⟨_, rfl, a, _, _, _, rfl, rfl, SqL.of ha, rfl, _, rfl, s, _, _, _, rfl, rfl, hT.seq, hat, ?_⟩
     refine ⟨_, rfl, _, _, rfl, rfl, _, rfl, a, _, _, _, rfl, rfl, ha, rfl, ?_⟩
     refine ⟨_, rfl, _, rfl, _, p, rfl, hp0, fun r2 hr2 => ⟨_, rfl, a, _, _, _, rfl, rfl, upd_same, rfl, ?_⟩⟩
     have e2 : (upd (upd H a (.lst (([.ref s, .int p, .int r] : List V).set 1 (.int (p + 1))))) a (.lst ((([.ref s, .int p, .int r] : List V).set 1 (.int (p + 1))).set 2 (.int r2)))) a = some (.lst [.ref s, .int (p + 1), .int r2]) := upd_same
     refine ⟨_, rfl, a, _, _, _, rfl, rfl, SqL.of e2, rfl, _, rfl, _, _, rfl, rfl, hm0, ?_⟩
     refine ⟨_, rfl, a, _, _, _, rfl, rfl, SqL.of e2, rfl, _, rfl, _, _, rfl, rfl, ⟨hm0, hm1⟩, _, rfl, a, _, _, _, rfl, rfl, e2, rfl, ?_⟩
     refine ⟨_, rfl, k _ _ (Int.emod_nonneg _ (by omega)) (Int.emod_lt_of_pos _ hm0) ((But.refl a H).trans (But.upd.trans (But.upd.trans But.upd))) ⟨⟨_, _, upd_same, (by omega), Int.ediv_nonneg hr2 (by omega)⟩, But.seq ((But.refl a H).trans (But.upd.trans (But.upd.trans But.upd))) hT.ne hT.seq, hT.ne, hT.len⟩⟩
   · refine ⟨_, rfl, a, _, _, _, rfl, rfl, SqL.of ha, rfl, s, _, rfl, .inl hT.seq, _, _, rfl, rfl, _, rfl, ?_⟩
     refine ite2 (fun c2 => ?_) (fun c2 => ?_)
     · have c2 := of_decide_eq_true c2
       rw [hl] at c2
       have hpos : (0 : Int) < (ns.length : Int) := c2
       have hj1 := Int.emod_nonneg (p * 11) (show (ns.length : Int) ≠ 0 by omega)
       have hj2 := Int.emod_lt_of_pos (p * 11) hpos
       have hi : (p * 11 % (ns.length : Int)).toNat < ns.length := by omega
       have ep : p * 11 % (ns.length : Int) = (((p * 11 % (ns.length : Int)).toNat : Nat) : Int) := by omega
       have hat : atI (ns.map V.int) (p * 11 % (ns.length : Int)) = some (.int ns[(p * 11 % (ns.length : Int)).toNat]) := by
        have q : atI (ns.map V.int) (((p * 11 % (ns.length : Int)).toNat : Nat) : Int) = some (.int ns[(p * 11 % (ns.length : Int)).toNat]) := atI_nat (by rw [List.getElem?_map, List.getElem?_eq_getElem hi]; rfl)
        rw [← ep] at q
        exact q
       refine ⟨_, rfl, a, _, _, _, rfl, rfl, SqL.of ha, rfl, _, rfl, _, _, rfl, rfl, cm_r (by decide), _, rfl, a, _, _, _, rfl, rfl, SqL.of ha, rfl, s, _, rfl, .inl hT.seq, _, _, rfl, rfl, ?_, s, _, _, _, rfl, rfl, hT.seq, (by rw [hl]; exact hat), _, _, rfl, rfl, (by show (0 : Int) < 999999937; decide), _, rfl, _, _, rfl, rfl, cm_r (by decide), _, _, rfl, rfl, ?_⟩
       · show (0 : Int) < (((ns.map V.int).length : Nat) : Int)
         rw [hl]; exact hpos
       refine ⟨_, rfl, _, _, rfl, rfl, _, rfl, a, _, _, _, rfl, rfl, ha, rfl, ?_⟩
       refine ⟨_, rfl, _, rfl, _, p, rfl, hp0, fun r2 hr2 => ⟨_, rfl, a, _, _, _, rfl, rfl, upd_same, rfl, ?_⟩⟩
       have e2 : (upd (upd H a (.lst (([.ref s, .int p, .int r] : List V).set 1 (.int (p + 1))))) a (.lst ((([.ref s, .int p, .int r] : List V).set 1 (.int (p + 1))).set 2 (.int r2)))) a = some (.lst [.ref s, .int (p + 1), .int r2]) := upd_same
       refine ⟨_, rfl, a, _, _, _, rfl, rfl, SqL.of e2, rfl, _, rfl, _, _, rfl, rfl, hm0, ?_⟩
       refine ⟨_, rfl, a, _, _, _, rfl, rfl, SqL.of e2, rfl, _, rfl, _, _, rfl, rfl, ⟨hm0, hm1⟩, _, rfl, a, _, _, _, rfl, rfl, e2, rfl, ?_⟩
       refine ⟨_, rfl, k _ _ (Int.emod_nonneg _ (by omega)) (Int.emod_lt_of_pos _ hm0) ((But.refl a H).trans (But.upd.trans (But.upd.trans But.upd))) ⟨⟨_, _, upd_same, (by omega), Int.ediv_nonneg hr2 (by omega)⟩, But.seq ((But.refl a H).trans (But.upd.trans (But.upd.trans But.upd))) hT.ne hT.seq, hT.ne, hT.len⟩⟩
     · skip
       refine ⟨_, rfl, _, _, rfl, rfl, _, rfl, a, _, _, _, rfl, rfl, ha, rfl, ?_⟩
       refine ⟨_, rfl, _, rfl, _, p, rfl, hp0, fun r2 hr2 => ⟨_, rfl, a, _, _, _, rfl, rfl, upd_same, rfl, ?_⟩⟩
       have e2 : (upd (upd H a (.lst (([.ref s, .int p, .int r] : List V).set 1 (.int (p + 1))))) a (.lst ((([.ref s, .int p, .int r] : List V).set 1 (.int (p + 1))).set 2 (.int r2)))) a = some (.lst [.ref s, .int (p + 1), .int r2]) := upd_same
       refine ⟨_, rfl, a, _, _, _, rfl, rfl, SqL.of e2, rfl, _, rfl, _, _, rfl, rfl, hm0, ?_⟩
       refine ⟨_, rfl, a, _, _, _, rfl, rfl, SqL.of e2, rfl, _, rfl, _, _, rfl, rfl, ⟨hm0, hm1⟩, _, rfl, a, _, _, _, rfl, rfl, e2, rfl, ?_⟩
       refine ⟨_, rfl, k _ _ (Int.emod_nonneg _ (by omega)) (Int.emod_lt_of_pos _ hm0) ((But.refl a H).trans (But.upd.trans (But.upd.trans But.upd))) ⟨⟨_, _, upd_same, (by omega), Int.ediv_nonneg hr2 (by omega)⟩, But.seq ((But.refl a H).trans (But.upd.trans (But.upd.trans But.upd))) hT.ne hT.seq, hT.ne, hT.len⟩⟩
 · refine ⟨_, rfl, a, _, _, _, rfl, rfl, SqL.of ha, rfl, _, rfl, _, _, rfl, rfl, hm0, ?_⟩
   refine ⟨_, rfl, a, _, _, _, rfl, rfl, SqL.of ha, rfl, _, rfl, _, _, rfl, rfl, ⟨hm0, hm1⟩, _, rfl, a, _, _, _, rfl, rfl, ha, rfl, ?_⟩
   refine ⟨_, rfl, k _ _ (Int.emod_nonneg _ (by omega)) (Int.emod_lt_of_pos _ hm0) But.upd ⟨⟨_, _, upd_same, hp0, Int.ediv_nonneg hr0 (by omega)⟩, But.seq But.upd hT.ne hT.seq, hT.ne, hT.len⟩⟩
theorem lcScope {X : Cx} {own : List Str} {cap : List Nat} {scope : Scope} (sc : Scope) (hsc : X.env.scope = sc) (h1 : scope.kind = .function) (h2 : ∀ x ∈ scope.names, x.2 = .free → sc.names.lookup x.1 = some .cell ∨ sc.names.lookup x.1 = some .free)
  (h3 : ∀ x ∈ scope.names, x.2 ≠ .cell) (h4 : ∀ x ∈ scope.names, x.2 = .local → scope.names.lookup x.1 = some .local) (h5 : CapOk X scope cap) : LcScope X own cap scope := by
 subst hsc
 exact ⟨h1, h2, h3, h4, h5⟩
theorem gIf0 {i : Nat} {v : V} {σ : L2.St} {H : Hp} {A B : L2.St → Hp → Prop} (h : A (σ.set i (some v)) H) : gName i v σ H (fun σ2 H2 => tIf0 σ2 H2 fun b H3 => if b = true then A σ2 H3 else B σ2 H3) := by
 show if true = true then A (σ.set i (some v)) H else B (σ.set i (some v)) H
 exact iteT h
theorem noLoc {o : Option NameKind} (h : o = some .cell) : o ≠ some .local := fun z => by rw [h] at z; cases z
theorem with_nx {t : TS} {D : Ends} {σ : L2.St} {H : Hp} (R : L2.St → Hp → Prop) (hR : ∀ σ' H', R σ' H' → D.nx σ' H') (g : (∀ σ' H', R σ' H' → D.nx σ' H') → t D σ H) : t D σ H := g hR
abbrev s_is_letters : Stmt := top 10
abbrev s_is_word : Stmt := top 11
noncomputable def mLet (c : Nat) : Bool := !decide ((⟨#[c]⟩ : Str).cps.toList < ("a" : Str).cps.toList) && !decide (("z" : Str).cps.toList < (⟨#[c]⟩ : Str).cps.toList)
noncomputable def mWord (t : T) : Bool := match t with | .str x => decide ((1 : Int) ≤ (x.length : Int)) && decide ((x.length : Int) ≤ 8) && x.cps.toList.all mLet | _ => false
noncomputable def Wl (t : T) : Prop := ∀ x, t = .str x → x.length ≤ sizeLine
noncomputable def mLetters (t : T) : Bool := match t with | .str x => decide ((1 : Int) ≤ (x.length : Int)) && x.cps.toList.all mLet | _ => false
theorem sc_letters : FnScope ["thing"] ["thing"] (defScope s_is_letters) := ⟨rfl, rfl, rfl, by decide +kernel, rfl, by decide +kernel, by decide +kernel⟩
theorem ok_is_letters (D : Def K mg "is_letters" s_is_letters) (T : Txt K mg) : Ok P w K mg base "is_letters" 1 ["thing"] (spB1 Wl mLetters) := by
 refine mkOk D sc_letters (fun _ _ _ _ _ _ us hl => (match us, hl with | [_], _ => rfl)) (fun vs H Q E ⟨t, v, e, _⟩ => by rw [e]; rfl) fun f cdv A outer s H vs Q E hr h => ?_
 obtain ⟨t, v, rfl, ht, hz, k⟩ := h
 refine ⟨_, zqb (zqv (PW.pt (pw_or (zq3 (zqy (zxw T.isi T.str bt_str (pv 0)))) (zxh (zql zq4 (zqk call_len_str (by rfl) T.len zqz (zqa (pv 0) zqc)) zqd (nomark _))))) (zqe (zqh zq9)) zqi)
  (zqe (zqh (zqk (zq8 rfl) rfl T.all bt_all (zqa (zxl (own := ["letter"]) (cap := []) rfl (lcScope (defScope s_is_letters) rfl rfl (by decide +kernel) (by decide +kernel) (by decide +kernel) trivial) (pi_str (pv 0)) (fun _ _ _ _ => pg_name (i := 0) (by show (["letter"] : List Str).Nodup; decide +kernel) rfl (Or.inl rfl))
   (fun _ _ _ _ => zq2) (fun _ _ _ _ => pe_chain op_le_str op_le_str zqm (pv 0) zqm)) zqc)))), ?_⟩
 refine ⟨_, rfl, v, "str", _, _, rfl, ht.ty, kit_str K t, _, rfl, ?_⟩
 cases t with
 | str x =>
   refine iteF ?_
   cases (show v = .str x from ht)
   have kk : ∀ H', Same H H' → Q (.bl (decide ((1 : Int) ≤ (x.length : Int)) && x.cps.toList.all mLet)) H' := k
   refine ⟨_, rfl, x, rfl, hz x rfl, rfl, _, rfl, ?_⟩
   rw [dec_int]
   refine ite2 (fun c => ?_) (fun c => ?_)
   · have c : (x.length : Int) = 0 := by simpa using c
     rw [decide_eq_false (by omega), Bool.false_and] at kk
     exact kk H (Same.refl H)
   · have c : (1 : Int) ≤ (x.length : Int) := by
      have : (x.length : Int) ≠ 0 := fun z => c (by simpa using z)
      omega
     rw [decide_eq_true c, Bool.true_and] at kk
     refine ⟨_, rfl, x, rfl, ?_⟩
     have hsz : x.cps.size ≤ sizeLine := hz x rfl
     refine lc_str (x := x) (fun i ys H' => H' = H ∧ ys = (x.cps.toList.take i).map fun c => V.bl (mLet c)) ⟨rfl, rfl⟩ (fun i ys H' hi ⟨_, e⟩ => by rw [e, List.length_map, List.length_take]; omega) ?_ ?_
     · rintro i c ys H' hc ⟨rfl, rfl⟩
       refine gIf0 ?_
       have hnext : (x.cps.toList.take (i + 1)).map (fun c => V.bl (mLet c)) = (x.cps.toList.take i).map (fun c => V.bl (mLet c)) ++ [V.bl (mLet c)] := by
        have : x.cps.toList[i]? = some c := by rw [Array.getElem?_toList]; exact hc
        rw [List.take_add_one, this, List.map_append]
        rfl
       refine ⟨_, rfl, "a", _, rfl, rfl, _, rfl, ?_⟩
       refine ite2 (fun d => ?_) (fun d => ?_)
       · refine ⟨_, "z", rfl, rfl, rfl, ?_⟩
         rw [hnext]
         congr 3
         unfold mLet
         rw [d, Bool.true_and]
       · refine ⟨rfl, ?_⟩
         rw [hnext]
         congr 3
         unfold mLet
         rw [Bool.eq_false_iff.mpr d, Bool.false_and]
     · rintro ys H' ⟨rfl, rfl⟩ p hp
       refine ⟨p, x.cps.toList.map mLet, rfl, SqL.of ?_, ?_⟩
       · rw [upd_same, List.map_map]
         have e : x.cps.toList.take x.cps.size = x.cps.toList := by
          rw [← Array.length_toList, List.take_length]
         rw [e]
         rfl
       · have e : (x.cps.toList.map mLet).all id = x.cps.toList.all mLet := by rw [List.all_map]; rfl
         rw [e]
         exact kk _ (Same.new hp _)
 | _ => exact iteT (iteT (k H (Same.refl H)))
theorem sc_word : FnScope ["thing"] ["thing"] (defScope s_is_word) := ⟨rfl, rfl, rfl, by decide +kernel, rfl, by decide +kernel, by decide +kernel⟩
theorem ok_is_word (D : Def K mg "is_word" s_is_word) (T : Txt K mg) (o1 : Ok P w K mg base "is_letters" 1 ["thing"] (spB1 Wl mLetters)) : Ok P w K mg base "is_word" 2 ["thing"] (spB1 Wl mWord) := by
 refine mkOk D sc_word (fun _ _ _ _ _ _ us hl => (match us, hl with | [_], _ => rfl)) (fun vs H Q E ⟨t, v, e, _⟩ => by rw [e]; rfl) fun f cdv A outer s H vs Q E hr h => ?_
 obtain ⟨t, v, rfl, ht, hz, k⟩ := h
 refine ⟨_, zqe (zqh (zxp (zqp o1 hr (zqa (pv 0) zqc)) (zxj (zq0 op_le (zqk call_len_str (by rfl) T.len zqz (zqa (pv 0) zqc)) (zqx T.MOST_LETTERS) (nomark _))))), ?_⟩
 refine ⟨_, rfl, t, v, rfl, ht, hz, fun H1 s1 => ⟨_, rfl, ?_⟩⟩
 cases t with
 | str x =>
   cases (show v = .str x from ht)
   have kk : ∀ H', Same H H' → Q (.bl (decide ((1 : Int) ≤ (x.length : Int)) && decide ((x.length : Int) ≤ 8) && x.cps.toList.all mLet)) H' := k
   show if (decide ((1 : Int) ≤ (x.length : Int)) && x.cps.toList.all mLet) = true then _ else _
   cases c1 : (decide ((1 : Int) ≤ (x.length : Int)) && x.cps.toList.all mLet) with
   | false =>
     refine iteF ?_
     have e : (decide ((1 : Int) ≤ (x.length : Int)) && decide ((x.length : Int) ≤ 8) && x.cps.toList.all mLet) = false := by
      rw [Bool.and_right_comm, c1, Bool.false_and]
     have := kk H1 s1
     rw [e] at this
     exact this
   | true =>
     refine iteT ⟨_, rfl, x, rfl, hz x rfl, _, 8, rfl, rfl, ?_⟩
     have := kk H1 s1
     rw [Bool.and_right_comm, c1, Bool.true_and] at this
     exact this
 | _ => exact iteF (k H1 s1)
abbrev s_loose_deed : Stmt := top 22
abbrev wEq (x : Str) (y : Str) : Bool := decide (V.str x = V.str y)
noncomputable def g0 (r : List T) : T := r.getD 0 .non
noncomputable def g1 (r : List T) : T := r.getD 1 .non
noncomputable def g2 (r : List T) : T := r.getD 2 .non
noncomputable def gt0 : T → Bool | .int i => decide (i > 0) | _ => false
noncomputable def mLDW (x : Str) (r : List T) (b beh : Int) : Bool :=
 if wEq x "say" = true then decide (r.length = 1) && mWord (g0 r)
 else if r.length < 2 then false
 else mWithin (g0 r) 0 (b - 1) && (mWithin (g1 r) 0 9 &&
  (if wEq x "skip" = true then decide (r.length = 3) && mWithin (g2 r) 1 beh
   else if wEq x "raise" = true then decide (r.length = 2) && gt0 (g1 r)
   else inV (.str x) [.str "put", .str "same"] && decide (r.length = 2)))
noncomputable def mLD (t : T) (b beh : Int) : Bool := match t with
 | .tup (.str x :: r) => (decide (1 ≤ r.length) && decide (r.length ≤ 3)) && mLDW x r b beh
 | _ => false
noncomputable def Wd (t : T) : Prop := ∀ ts, t = .tup ts → ∀ u ∈ ts, Wl u
noncomputable def spLD : Sp := fun vs H Q _ => ∃ t v b beh, vs = [v, .int b, .int beh] ∧ Is H t v ∧ Wd t ∧ ∀ H', Same H H' → Q (.bl (mLD t b beh)) H'
theorem tw24 {ts : List T} : mTupW (.tup ts) 2 4 = (decide (2 ≤ ts.length) && decide (ts.length ≤ 4)) := by
 show (decide ((2 : Int) ≤ (ts.length : Int)) && decide ((ts.length : Int) ≤ 4)) = _
 rw [Bool.eq_iff_iff]
 simp only [Bool.and_eq_true, decide_eq_true_eq]
 omega
theorem sc_ldeed : FnScope ["thing", "boxes", "many_behind", "word"] ["thing", "boxes", "many_behind"] (defScope s_loose_deed) := ⟨rfl, rfl, rfl, by decide +kernel, rfl, by decide +kernel, by decide +kernel⟩
theorem ok_loose_deed (D : Def K mg "is_loose_deed" s_loose_deed) (T : Txt K mg) (o1 : Ok P w K mg base "is_tuple_within" 1 ["thing", "least", "most"] spTw) (o2 : Ok P w K mg base "is_within" 2 ["thing", "least", "most"] spWi)
  (o6 : Ok P w K mg base "is_word" 2 ["thing"] (spB1 Wl mWord)) : Ok P w K mg base "is_loose_deed" 3 ["thing", "boxes", "many_behind"] spLD := by
 refine mkOk D sc_ldeed (fun _ _ _ _ _ _ us hl => (match us, hl with | [_, _, _], _ => rfl)) (fun vs H Q E ⟨t, v, b, beh, e, _⟩ => by rw [e]; rfl) fun f cdv A outer s H vs Q E hr h => ?_
 obtain ⟨t, v, b, beh, rfl, ht, hW, k⟩ := h
 have r1 := hr.mono (show 1 ≤ 2 by decide)
 have nd := sc_ldeed.nd
 refine ⟨_, zqb (zqv (PW.pt (pw_or (zq3 (zqy (zqp o1 r1 (zqa (pv 0) (zqa zqd (zqa zqd zqc)))))) (zxh (zq3 (zqy (zxw T.isi T.str bt_str (zqn zqo (pv 0) zqd (fun _ _ => rfl)))))))) (zqe (zqh zq9)) zqi)
  (zqb (zqq (i := 3) nd rfl (Or.inl rfl) (zqn zqo (pv 0) zqd (fun _ _ => rfl)))
  (zqb (zqv (zql zq4 (pv 3) zqm (nomark _)) (zqe (zqh (zxp (zq0 zq4 (zqk zqj (by rfl) T.len zqz (zqa (pv 0) zqc)) zqd (nomark _)) (zxj (zqp o6 hr (zqa (zqn zqo (pv 0) zqd (fun _ _ => rfl)) zqc)))))) zqi)
  (zqb (zqv (PW.pt (pw_or (zql op_lt (zqk zqj (by rfl) T.len zqz (zqa (pv 0) zqc)) zqd (nomark _)) (pw_or (zq3 (zqy (zqp o2 hr (zqa (zqn zqo (pv 0) zqd (fun _ _ => rfl)) (zqa zqd (zqa (zqt op_sub (pv 1) zqd) zqc)))))) (zxh (zq3 (zqy (zqp o2 hr (zqa (zqn zqo (pv 0) zqd (fun _ _ => rfl)) (zqa zqd (zqa (zqx T.MOST_NUMBER) zqc)))))))))) (zqe (zqh zq9)) zqi)
  (zqb (zqv (zql zq4 (pv 3) zqm (nomark _)) (zqe (zqh (zxp (zq0 zq4 (zqk zqj (by rfl) T.len zqz (zqa (pv 0) zqc)) zqd (nomark _)) (zxj (zqp o2 hr (zqa (zqn zqo (pv 0) zqd (fun _ _ => rfl)) (zqa zqd (zqa (pv 2) zqc)))))))) zqi)
  (zqb (zqv (zql zq4 (pv 3) zqm (nomark _)) (zqe (zqh (zxp (zq0 zq4 (zqk zqj (by rfl) T.len zqz (zqa (pv 0) zqc)) zqd (nomark _)) (zxj (zq0 op_gt (zqn zqo (pv 0) zqd (fun _ _ => rfl)) zqd (nomark _)))))) zqi)
  (zqe (zqh (zxp (zq0 op_in_seq (pv 3) (pe_tup (zqa zqm (zqa zqm zqc))) rfl) (zxj (zq0 zq4 (zqk zqj (by rfl) T.len zqz (zqa (pv 0) zqc)) zqd (nomark _))))))))))), ?_⟩
 refine ⟨_, rfl, t, v, 2, 4, rfl, ht, fun H1 s1 => ⟨_, rfl, ?_⟩⟩
 cases t with
 | tup ts =>
   rw [tw24]
   by_cases hl : 2 ≤ ts.length ∧ ts.length ≤ 4
   · have hb : (decide (2 ≤ ts.length) && decide (ts.length ≤ 4)) = true := by simpa using hl
     rw [hb]
     refine iteF ?_
     obtain ⟨x0, r, rfl⟩ : ∃ x0 r, ts = x0 :: r := by
      cases ts with
      | nil => simp at hl
      | cons a b => exact ⟨a, b, rfl⟩
     have hr1 : 1 ≤ r.length ∧ r.length ≤ 3 := by simpa using hl
     have hrb : (decide (1 ≤ r.length) && decide (r.length ≤ 3)) = true := by simpa using hr1
     have ht1 := ht.mono s1
     obtain ⟨a, xs, u0, rfl, sq, ea, hu0⟩ := Is.at (K := K) (i := 0) ht1 rfl
     refine ⟨_, rfl, a, xs, _, u0, rfl, rfl, sq, ea, u0, "str", _, _, rfl, hu0.ty, kit_str K x0, _, rfl, ?_⟩
     cases x0 with
     | str x =>
       refine iteF ?_
       cases (show u0 = .str x from hu0)
       have kk : ∀ H', Same H1 H' → Q (.bl (mLDW x r b beh)) H' := fun H' s' => by
        have q : Q (.bl ((decide (1 ≤ r.length) && decide (r.length ≤ 3)) && mLDW x r b beh)) H' := k H' (s1.trans s')
        rw [hrb, Bool.true_and] at q
        exact q
       have item : ∀ {H' : Hp} (i : Nat), Same H1 H' → i < r.length → ∃ xs' u, SqT K H' a xs' ∧ atI xs' ((i + 1 : Nat) : Int) = some u ∧ Is H' (r.getD i .non) u := fun {H'} i s' hi => by
        have e : (L2.T.str x :: r)[i + 1]? = some (r.getD i .non) := by
         show r[i]? = _
         rw [List.getD_eq_getElem?_getD, List.getElem?_eq_getElem hi]
         rfl
        obtain ⟨a', xs', u, e', sq', ea', hu⟩ := Is.at (K := K) (ht1.mono s') e
        cases e'
        exact ⟨xs', u, sq', ea', hu⟩
       obtain ⟨a1, ys, q1, hya, hyl⟩ := id ht1
       cases q1
       have hyn : ys.length = r.length + 1 := by simpa using hyl.length
       have lenIs : ∀ n : Nat, decide (V.int (ys.length : Int) = V.int ((n + 1 : Nat) : Int)) = decide (r.length = n) := fun n => by
        rw [Bool.eq_iff_iff, decide_eq_true_eq, decide_eq_true_eq]
        refine ⟨fun z => ?_, fun z => congrArg V.int (by omega)⟩
        have := V.int.inj z
        omega
       refine ⟨_, rfl, a, xs, _, _, rfl, rfl, sq, ea, ?_⟩
       refine ⟨_, rfl, rfl, _, rfl, ?_⟩
       refine ite2 (fun c => ?_) (fun c => ?_)
       · have k1 := kk
         unfold mLDW at k1
         rw [if_pos c] at k1
         refine ⟨_, rfl, a, ys, rfl, .inr (SqT.of hya), rfl, _, rfl, ?_⟩
         have e2 := lenIs 1
         refine ite2 (fun d => ?_) (fun d => ?_)
         · have d : decide (V.int (ys.length : Int) = V.int ((1 + 1 : Nat) : Int)) = true := d
           rw [e2] at d
           rw [d, Bool.true_and] at k1
           have h1 : r.length = 1 := of_decide_eq_true d
           obtain ⟨xs', u, sq', ea', hu⟩ := item 0 (Same.refl H1) (by omega)
           refine ⟨_, rfl, a, xs', _, u, rfl, rfl, sq', ea', g0 r, u, rfl, hu, ?_, fun H3 s3 => k1 H3 s3⟩
           refine hW _ rfl _ (List.mem_cons_of_mem _ ?_)
           unfold g0
           rw [List.getD_eq_getElem?_getD, List.getElem?_eq_getElem (by omega : 0 < r.length)]
           exact List.getElem_mem _
         · have d : ¬ decide (V.int (ys.length : Int) = V.int ((1 + 1 : Nat) : Int)) = true := d
           rw [e2] at d
           rw [Bool.eq_false_iff.mpr d, Bool.false_and] at k1
           exact k1 H1 (Same.refl H1)
       have k1 := kk
       unfold mLDW at k1
       rw [if_neg c] at k1
       refine ⟨_, rfl, a, ys, rfl, .inr (SqT.of hya), _, _, rfl, rfl, _, rfl, ?_⟩
       refine ite2 (fun d => ?_) (fun d => ?_)
       · have d := of_decide_eq_true d
         rw [if_pos (by omega)] at k1
         exact iteT (k1 H1 (Same.refl H1))
       have h2 : 2 ≤ r.length := by
        have : ¬ ((ys.length : Int) < 3) := fun z => d (decide_eq_true z)
        omega
       rw [if_neg (by omega)] at k1
       obtain ⟨xs1, u1, sq1, ea1, hu1⟩ := item 0 (Same.refl H1) (by omega)
       refine ⟨_, rfl, a, xs1, _, u1, rfl, rfl, sq1, ea1, _, rfl, _, _, rfl, rfl, g0 r, u1, 0, b - 1, rfl, hu1, fun H2 s2 => ⟨_, rfl, ?_⟩⟩
       cases e1 : mWithin (g0 r) 0 (b - 1) with
       | false =>
         rw [e1] at k1
         exact iteT (iteT (k1 H2 s2))
       | true =>
         rw [e1, Bool.true_and] at k1
         refine iteF ?_
         obtain ⟨xs2, u2, sq2, ea2, hu2⟩ := item 1 s2 (by omega)
         refine ⟨_, rfl, a, xs2, _, u2, rfl, rfl, sq2, ea2, g1 r, u2, 0, 9, rfl, hu2, fun H3 s3 => ⟨_, rfl, ?_⟩⟩
         have s23 := s2.trans s3
         cases e2 : mWithin (g1 r) 0 9 with
         | false =>
           rw [e2] at k1
           exact iteT (k1 H3 s23)
         | true =>
           rw [e2, Bool.true_and] at k1
           refine iteF ?_
           have hya3 := s23 _ _ hya
           refine ⟨_, rfl, rfl, _, rfl, ?_⟩
           refine ite2 (fun c2 => ?_) (fun c2 => ?_)
           · rw [if_pos c2] at k1
             refine ⟨_, rfl, a, ys, rfl, .inr (SqT.of hya3), rfl, _, rfl, ?_⟩
             have e3 := lenIs 3
             refine ite2 (fun d3 => ?_) (fun d3 => ?_)
             · have d3 : decide (V.int (ys.length : Int) = V.int ((3 + 1 : Nat) : Int)) = true := d3
               rw [e3] at d3
               rw [d3, Bool.true_and] at k1
               have h3 : r.length = 3 := of_decide_eq_true d3
               obtain ⟨xs3, u3, sq3, ea3, hu3⟩ := item 2 s23 (by omega)
               exact ⟨_, rfl, a, xs3, _, u3, rfl, rfl, sq3, ea3, _, rfl, g2 r, u3, 1, beh, rfl, hu3, fun H4 s4 => k1 H4 (s23.trans s4)⟩
             · have d3 : ¬ decide (V.int (ys.length : Int) = V.int ((3 + 1 : Nat) : Int)) = true := d3
               rw [e3] at d3
               rw [Bool.eq_false_iff.mpr d3, Bool.false_and] at k1
               exact k1 H3 s23
           rw [if_neg c2] at k1
           refine ⟨_, rfl, rfl, _, rfl, ?_⟩
           have e3 := lenIs 2
           refine ite2 (fun c3 => ?_) (fun c3 => ?_)
           · rw [if_pos c3] at k1
             refine ⟨_, rfl, a, ys, rfl, .inr (SqT.of hya3), rfl, _, rfl, ?_⟩
             refine ite2 (fun d3 => ?_) (fun d3 => ?_)
             · have d3 : decide (V.int (ys.length : Int) = V.int ((2 + 1 : Nat) : Int)) = true := d3
               rw [e3] at d3
               rw [d3, Bool.true_and] at k1
               obtain ⟨xs3, u3, sq3, ea3, hu3⟩ := item 1 s23 (by omega)
               have hu3 : Is H3 (g1 r) u3 := hu3
               cases eg : g1 r with
               | int i =>
                 rw [eg] at hu3 k1
                 cases (show u3 = .int i from hu3)
                 exact ⟨_, rfl, a, xs3, _, _, rfl, rfl, sq3, ea3, i, 0, rfl, rfl, k1 H3 s23⟩
               | _ => rw [eg] at e2; cases e2
             · have d3 : ¬ decide (V.int (ys.length : Int) = V.int ((2 + 1 : Nat) : Int)) = true := d3
               rw [e3] at d3
               rw [Bool.eq_false_iff.mpr d3, Bool.false_and] at k1
               exact k1 H3 s23
           rw [if_neg c3] at k1
           refine ⟨_, rfl, (by show 2 ≤ sizeLine; decide), fun p hp => ⟨p, _, rfl, .inr (SqT.of upd_same), rfl, rfl, _, rfl, ?_⟩⟩
           have sp := Same.new hp (.tup [.str "put", .str "same"])
           refine ite2 (fun c4 => ?_) (fun c4 => ?_)
           · have c4 : inV (.str x) [.str "put", .str "same"] = true := c4
             rw [c4, Bool.true_and] at k1
             refine ⟨_, rfl, a, ys, rfl, .inr (SqT.of (sp _ _ hya3)), rfl, ?_⟩
             have q := k1 _ (s23.trans sp)
             rw [← e3] at q
             exact q
           · have c4 : ¬ inV (.str x) [.str "put", .str "same"] = true := c4
             rw [Bool.eq_false_iff.mpr c4, Bool.false_and] at k1
             exact k1 _ (s23.trans sp)
     | _ =>
       refine iteT ?_
       exact k H1 s1
   · have hb : (decide (2 ≤ ts.length) && decide (ts.length ≤ 4)) = false := by
      rw [Bool.eq_false_iff]
      intro z
      simp only [Bool.and_eq_true, decide_eq_true_eq] at z
      exact hl z
     rw [hb]
     refine iteT (iteT ?_)
     have e : mLD (.tup ts) b beh = false := by
      unfold mLD
      split
      · rename_i x r heq
        have heq : ts = .str x :: r := by injection heq
        rw [heq] at hl
        have : (decide (1 ≤ r.length) && decide (r.length ≤ 3)) = false := by
         rw [Bool.eq_false_iff]
         intro z
         simp only [Bool.and_eq_true, decide_eq_true_eq] at z
         exact hl (by rw [List.length_cons]; omega)
        rw [this, Bool.false_and]
      · rfl
     have kk := k H1 s1
     rw [e] at kk
     exact kk
 | _ => exact iteT (iteT (k H1 s1))
end
end My
namespace L2
open PySem PySem.Spec PyProof.Rows
section
variable {K : PySem.W.Frag} {a : Addr} {xs : List V} {g : TG} {tc : TT} {te : TE} {k : Nat} {cap : List Nat} {σ : St} {H : Hp} {Q : VK}
theorem lc_enum (Pv : Nat → List V → Hp → Prop) (h0 : Pv 0 [] H) (hl : ∀ i ys H, i ≤ xs.length → Pv i ys H → SqT K H a xs ∧ ys.length ≤ sizeLine)
  (hs : ∀ i x ys H p, xs[i]? = some x → Pv i ys H → H p = none → g (.ref p) (capσ k cap σ) (upd H p (.tup [.int i, x])) fun σ2 H2 => tc σ2 H2 fun b H3 => if b = true then te σ2 H3 fun y H4 => Pv (i + 1) (ys ++ [y]) H4 else Pv (i + 1) ys H3)
  (hd : ∀ ys H, Pv xs.length ys H → ∀ p, H p = none → Q (.ref p) (upd H p (.lst ys))) : LcEnd (Ite K a) g tc te k cap σ H Q := by
 refine ⟨fun i m ys H => m = xs.length - i ∧ i ≤ xs.length ∧ Pv i ys H, ⟨xs.length, by simp, Nat.zero_le _, h0⟩, ?_⟩
 rintro i m ys H ⟨rfl, hi, p⟩
 obtain ⟨q, hz⟩ := hl i ys H hi p
 by_cases hlt : i < xs.length
 · refine .inr ⟨⟨xs, xs[i], q, by simp [hlt]⟩, hz, Pv (i + 1), fun ys' H' p' => ⟨xs.length - (i + 1), by omega, rfl, hlt, p'⟩, fun x H' y => ?_⟩
   obtain ⟨p', y', rfl, hn, rfl, hy⟩ := y
   exact hs i y' ys H p' (hy xs q) p hn
 · have e : i = xs.length := by omega
   subst e
   exact .inl ⟨⟨xs, q, Nat.le_refl _⟩, hz, hd ys H p⟩
end
section
variable {X : Cx}
end
end L2
namespace My
open PySem PySem.Spec PyProof.Rows L2
abbrev s_loose_script : Stmt := top 23
abbrev s_is_loose : Stmt := top 24
theorem if0 {σ : L2.St} {H : Hp} {A B : Hp → Prop} (h : A H) : tIf0 σ H (fun b H3 => if b = true then A H3 else B H3) := by
 show if true = true then A H else B H
 exact iteT h
noncomputable def mLDs (ts : List T) (b : Int) : Bool := (List.range ts.length).all fun i => mLD (ts.getD i .non) b ((ts.length : Int) - (i : Int) - 1)
noncomputable def mLDt (t : T) (b : Int) : Bool := match t with | .tup ts => mLDs ts b | _ => false
noncomputable def mLS (t : T) (b : Int) : Bool := mTupW t 0 30 && mLDt t b
noncomputable def mLSs (t : T) (b : Int) : Bool := match t with | .tup ss => ss.all fun s => mLS s b | _ => false
noncomputable def bOf : T → Int | .int i => i | _ => 0
noncomputable def mLoose (t : T) : Bool := match t with | .tup [b, s] => mWithin b 0 6 && (mTupW s 1 4 && mLSs s (bOf b)) | _ => false
noncomputable def Ws (t : T) : Prop := ∀ ts, t = .tup ts → ∀ d ∈ ts, Wd d
noncomputable def Wss (t : T) : Prop := ∀ ts, t = .tup ts → ∀ d ∈ ts, Ws d
noncomputable def Wh (t : T) : Prop := ∀ ts, t = .tup ts → ∀ d ∈ ts, Wss d
noncomputable def spLS : Sp := fun vs H Q _ => ∃ t v b, vs = [v, .int b] ∧ Is H t v ∧ Ws t ∧ ∀ H', Same H H' → Q (.bl (mLS t b)) H'
theorem tup2 {t : T} (h : mTupW t 2 2 = true) : ∃ x y, t = .tup [x, y] := by
 cases t with
 | tup ts =>
   have h : (decide ((2 : Int) ≤ (ts.length : Int)) && decide ((ts.length : Int) ≤ 2)) = true := h
   simp only [Bool.and_eq_true, decide_eq_true_eq] at h
   have : ts.length = 2 := by omega
   match ts, this with
   | [x, y], _ => exact ⟨x, y, rfl⟩
 | _ => cases h
theorem tup2' {x y : T} : mTupW (.tup [x, y]) 2 2 = true := by simp [mTupW]
noncomputable def rLen (K : PySem.W.Frag) : List V → Hp → VK → Prop := fun xs H Q => ∃ p ys, xs = [.ref p] ∧ (SqL K H p ys ∨ SqT K H p ys) ∧ Q (.int ys.length) H
section
variable {P : Program} {w : World} {K : PySem.W.Frag} {mg : Str → Option Value} {base : Heap}
theorem sc_lscript : FnScope ["thing", "boxes"] ["thing", "boxes"] (defScope s_loose_script) := ⟨rfl, rfl, rfl, by decide +kernel, rfl, by decide +kernel, by decide +kernel⟩
theorem ok_loose_script (D : Def K mg "is_loose_script" s_loose_script) (T : Txt K mg) (o1 : Ok P w K mg base "is_tuple_within" 1 ["thing", "least", "most"] spTw) (o2 : Ok P w K mg base "is_loose_deed" 3 ["thing", "boxes", "many_behind"] spLD) :
  Ok P w K mg base "is_loose_script" 4 ["thing", "boxes"] spLS := by
 refine mkOk D sc_lscript (fun _ _ _ _ _ _ us hl => (match us, hl with | [_, _], _ => rfl)) (fun vs H Q E ⟨t, v, b, e, _⟩ => by rw [e]; rfl) fun f cdv A outer s H vs Q E hr h => ?_
 obtain ⟨t, v, b, rfl, ht, hW, k⟩ := h
 have r1 := hr.mono (show 1 ≤ 3 by decide)
 have ndc : (["place", "deed", "boxes", "thing"] : List Str).Nodup := by decide +kernel
 refine ⟨_, zqb (zqv (zq3 (zqy (zqp o1 r1 (zqa (pv 0) (zqa zqd (zqa (zqx T.MOST_DEEDS) zqc)))))) (zqe (zqh zq9)) zqi)
  (zqe (zqh (zqk (zq8 rfl) rfl T.all bt_all (zqa (zxl (own := ["place", "deed"]) (cap := [1, 0]) (g := gTup K 2 (gCons (gName 0) (gCons (gName 1) gNil))) rfl (lcScope (defScope s_loose_script) rfl rfl (by decide +kernel) (by decide +kernel) (by decide +kernel) ⟨⟨_, rfl, .inl rfl, noLoc rfl⟩, ⟨_, rfl, .inl rfl, noLoc rfl⟩, trivial⟩) (pi_enum rfl T.enumerate (zqa (pv 0) zqc))
   (fun _ _ _ _ => pg_tup rfl (pgs_cons (pg_name (i := 0) ndc rfl (Or.inl rfl)) (pgs_cons (pg_name (i := 1) ndc rfl (Or.inl rfl)) zxn))) (fun _ _ _ _ => zq2)
   (fun _ _ _ _ => zqp o2 hr (zqa (pv 1) (zqa (pv 2) (zqa (zqt op_sub (zqt op_sub (zqk (r := rLen K) zqj (by rfl) T.len zqz (zqa (pv 3) zqc)) (pv 0)) zqd) zqc))))) zqc)))), ?_⟩
 refine ⟨_, rfl, t, v, 0, 30, rfl, ht, fun H1 s1 => ⟨_, rfl, ?_⟩⟩
 have kk : ∀ H', Same H H' → Q (.bl (mTupW t 0 30 && mLDt t b)) H' := k
 cases c : mTupW t 0 30 with
 | false =>
   rw [c] at kk
   exact iteT (kk H1 s1)
 | true =>
   rw [c, Bool.true_and] at kk
   refine iteF ?_
   cases t with
   | tup ts =>
     have hlen : ts.length ≤ 30 := by
      have c : (decide ((0 : Int) ≤ (ts.length : Int)) && decide ((ts.length : Int) ≤ 30)) = true := c
      simp only [Bool.and_eq_true, decide_eq_true_eq] at c
      omega
     obtain ⟨a, xs, rfl, ha, hl⟩ := ht.mono s1
     have hxl := hl.length
     refine ⟨_, rfl, a, xs, rfl, SqT.of ha, ?_⟩
     refine lc_enum (xs := xs) (fun i ys H' => Same H1 H' ∧ ys = (List.range i).map fun j => V.bl (mLD (ts.getD j .non) b ((ts.length : Int) - (j : Int) - 1))) ⟨Same.refl H1, rfl⟩ (fun i ys H' hi ⟨s2, e⟩ => ⟨SqT.of (s2 _ _ ha), by rw [e, List.length_map, List.length_range]; exact zqr (by omega)⟩) ?_ ?_
     · rintro i x ys H' p hx ⟨s2, rfl⟩ hp
       obtain ⟨d, hd, hxd⟩ := hl.get' hx
       have s3 := Same.new hp (.tup [.int (i : Int), x])
       have hp3 : upd H' p (.tup [.int (i : Int), x]) p = some (.tup [.int (i : Int), x]) := upd_same
       generalize upd H' p (.tup [.int (i : Int), x]) = H3 at s3 hp3 ⊢
       refine ⟨p, _, rfl, SqT.of hp3, rfl, _, _, rfl, _, _, rfl, rfl, ?_⟩
       refine if0 ?_
       have eg : ts.getD i .non = d := by rw [List.getD_eq_getElem?_getD, hd]; rfl
       refine ⟨_, rfl, _, rfl, _, rfl, a, xs, rfl, .inr (SqT.of (s3 _ _ (s2 _ _ ha))), _, rfl, _, _, rfl, rfl, _, _, rfl, rfl, d, x, b, _, rfl, hxd.mono (s2.trans s3), hW ts rfl d (List.mem_of_getElem? hd), fun H4 s4 => ⟨s2.trans (s3.trans s4), ?_⟩⟩
       rw [List.range_succ, List.map_append, List.map_singleton, eg, hxl]
     · rintro ys H' ⟨s2, rfl⟩ p hp
       refine ⟨p, (List.range ts.length).map fun j => mLD (ts.getD j .non) b ((ts.length : Int) - (j : Int) - 1), rfl, SqL.of ?_, ?_⟩
       · rw [upd_same, List.map_map, hxl]
         rfl
       · have e : ((List.range ts.length).map fun j => mLD (ts.getD j .non) b ((ts.length : Int) - (j : Int) - 1)).all id = mLDs ts b := by rw [List.all_map]; rfl
         rw [e]
         exact kk _ (s1.trans (s2.trans (Same.new hp _)))
   | _ => cases c
theorem sc_isloose : FnScope ["thing"] ["thing"] (defScope s_is_loose) := ⟨rfl, rfl, rfl, by decide +kernel, rfl, by decide +kernel, by decide +kernel⟩
theorem ok_is_loose (D : Def K mg "is_loose" s_is_loose) (T : Txt K mg) (o1 : Ok P w K mg base "is_tuple_within" 1 ["thing", "least", "most"] spTw) (o2 : Ok P w K mg base "is_within" 2 ["thing", "least", "most"] spWi)
  (o3 : Ok P w K mg base "is_loose_script" 4 ["thing", "boxes"] spLS) : Ok P w K mg base "is_loose" 5 ["thing"] (spB1 Wh mLoose) := by
 refine mkOk D sc_isloose (fun _ _ _ _ _ _ us hl => (match us, hl with | [_], _ => rfl)) (fun vs H Q E ⟨t, v, e, _⟩ => by rw [e]; rfl) fun f cdv A outer s H vs Q E hr h => ?_
 obtain ⟨t, v, rfl, ht, hW, k⟩ := h
 have r1 := hr.mono (show 1 ≤ 4 by decide)
 have r2 := hr.mono (show 2 ≤ 4 by decide)
 refine ⟨_, zqb (zqv (PW.pt (pw_or (zq3 (zqy (zqp o1 r1 (zqa (pv 0) (zqa zqd (zqa zqd zqc)))))) (zxh (zq3 (zqy (zqp o2 r2 (zqa (zqn zqo (pv 0) (zqx T.BOXES) (fun _ _ => rfl)) (zqa zqd (zqa (zqx T.MOST_BOXES) zqc)))))))))
   (zqe (zqh zq9)) zqi)
  (zqb (zqv (zq3 (zqy (zqp o1 r1 (zqa (zqn zqo (pv 0) (zqx T.SCRIPTS) (fun _ _ => rfl)) (zqa zqd (zqa (zqx T.MOST_SCRIPTS) zqc)))))) (zqe (zqh zq9)) zqi)
  (zqe (zqh (zqk (zq8 rfl) rfl T.all bt_all (zqa (zxl (own := ["script"]) (cap := [0]) rfl (lcScope (defScope s_is_loose) rfl rfl (by decide +kernel) (by decide +kernel) (by decide +kernel) ⟨⟨_, rfl, .inl rfl, noLoc rfl⟩, trivial⟩) (pi_tup (zqn zqo (pv 0) (zqx T.SCRIPTS) (fun _ _ => rfl)))
   (fun _ _ _ _ => pg_name (i := 0) (by show (["script", "thing"] : List Str).Nodup; decide +kernel) rfl (Or.inl rfl)) (fun _ _ _ _ => zq2)
   (fun _ _ _ _ => zqp o3 hr (zqa (pv 0) (zqa (zqn (r := rIxT K) zqo (pv 1) (zqx T.BOXES) (fun _ _ => rfl)) zqc)))) zqc))))), ?_⟩
 refine ⟨_, rfl, t, v, 2, 2, rfl, ht, fun H1 s1 => ⟨_, rfl, ?_⟩⟩
 cases c : mTupW t 2 2 with
 | false =>
   refine iteT (iteT ?_)
   have e : mLoose t = false := by
    unfold mLoose
    split
    · rw [tup2'] at c; cases c
    · rfl
   have kk := k H1 s1
   rw [e] at kk
   exact kk
 | true =>
   obtain ⟨x, y, rfl⟩ := tup2 c
   refine iteF ?_
   obtain ⟨a, xs, u0, rfl, sq, e0, i0⟩ := Is.at (K := K) (i := 0) (t := x) (ht.mono s1) rfl
   refine ⟨_, rfl, a, xs, _, _, rfl, rfl, sq, e0, x, u0, 0, 6, rfl, i0, fun H2 s2 => ⟨_, rfl, ?_⟩⟩
   have kk : ∀ H', Same H H' → Q (.bl (mWithin x 0 6 && (mTupW y 1 4 && mLSs y (bOf x)))) H' := k
   cases c1 : mWithin x 0 6 with
   | false =>
     rw [c1] at kk
     exact iteT (kk H2 (s1.trans s2))
   | true =>
     rw [c1, Bool.true_and] at kk
     refine iteF ?_
     obtain ⟨a', xs', u1, e', sq', e1, i1⟩ := Is.at (K := K) (i := 1) (t := y) (ht.mono (s1.trans s2)) rfl
     cases e'
     refine ⟨_, rfl, a, xs', _, _, rfl, rfl, sq', e1, y, u1, 1, 4, rfl, i1, fun H3 s3 => ⟨_, rfl, ?_⟩⟩
     have s13 := s1.trans (s2.trans s3)
     cases c2 : mTupW y 1 4 with
     | false =>
       rw [c2] at kk
       exact iteT (kk H3 s13)
     | true =>
       rw [c2, Bool.true_and] at kk
       refine iteF ?_
       obtain ⟨b, rfl⟩ : ∃ b, x = .int b := by
        cases x with
        | int b => exact ⟨b, rfl⟩
        | _ => cases c1
       obtain ⟨ss, rfl⟩ : ∃ ss, y = .tup ss := by
        cases y with
        | tup ss => exact ⟨ss, rfl⟩
        | _ => cases c2
       have hlen : ss.length ≤ 4 := by
        have c : (decide ((1 : Int) ≤ (ss.length : Int)) && decide ((ss.length : Int) ≤ 4)) = true := c2
        simp only [Bool.and_eq_true, decide_eq_true_eq] at c
        omega
       obtain ⟨a', xs3, u3, e', sq3, e3, i3⟩ := Is.at (K := K) (i := 1) (t := .tup ss) (ht.mono s13) rfl
       cases e'
       obtain ⟨as, zs, rfl, has, hzs⟩ := i3
       have hzl := hzs.length
       refine ⟨_, rfl, a, xs3, _, _, rfl, rfl, sq3, e3, as, rfl, ⟨zs, SqT.of has⟩, ?_⟩
       refine lc_tup (xs := zs) (fun i ys H' => Same H3 H' ∧ ys = (ss.take i).map fun d => V.bl (mLS d b)) ⟨Same.refl H3, rfl⟩ (fun i ys H' hi ⟨s4, e⟩ => ⟨SqT.of (s4 _ _ has), by rw [e, List.length_map, List.length_take]; exact zqr (by omega)⟩) ?_ ?_
       · rintro i z ys H' hx ⟨s4, rfl⟩
         refine gIf0 ?_
         obtain ⟨d, hd, hxd⟩ := hzs.get' hx
         obtain ⟨a', xs5, u5, e', sq5, e5, i5⟩ := Is.at (K := K) (i := 0) (t := .int b) (ht.mono (s13.trans s4)) rfl
         cases e'
         cases (show u5 = .int b from i5)
         refine ⟨_, rfl, _, rfl, a, xs5, _, _, rfl, rfl, sq5, e5, d, z, b, rfl, hxd.mono s4, hW _ rfl (.tup ss) (by simp) ss rfl d (List.mem_of_getElem? hd), fun H6 s6 => ⟨s4.trans s6, ?_⟩⟩
         rw [List.take_add_one, hd, List.map_append]
         rfl
       · rintro ys H' ⟨s4, rfl⟩ p hp
         refine ⟨p, ss.map fun d => mLS d b, rfl, SqL.of ?_, ?_⟩
         · rw [upd_same, List.map_map, hzl, List.take_length]
           rfl
         · have e : (ss.map fun d => mLS d b).all id = mLSs (.tup ss) (bOf (.int b)) := by rw [List.all_map]; rfl
           rw [e]
           exact kk _ (s13.trans (s4.trans (Same.new hp _)))
noncomputable def sayOf : T → Option Str
 | .tup [_, .str x] => some x
 | _ => none
noncomputable def skM : T → Nat
 | .tup [_, _, _, .int m] => m.toNat
 | _ => 0
noncomputable def layI : T → Bool
 | .str x => (PyData.str x).canLay0
 | .int _ => true
 | _ => false
theorem lay_d {ts : List T} (h : ts.all layI = true) : (toD (.tup ts)).canLay0 = true := by
 have e : ∀ us : List T, (∀ t ∈ us, layI t = true) → PyData.canLayAll0 (toDs us) = true := by
  intro us
  induction us with
  | nil => intro _; unfold toDs; rfl
  | cons t us ih =>
    intro h
    unfold toDs
    simp only [PyData.canLayAll0, Bool.and_eq_true]
    refine ⟨?_, ih fun u hu => h u (List.mem_cons_of_mem _ hu)⟩
    have ht := h t List.mem_cons_self
    cases t with
    | str x => unfold toD; exact ht
    | int i => unfold toD; rfl
    | _ => cases ht
 unfold toD PyData.canLay0
 exact e ts (List.all_eq_true.mp h)
structure Gd (bx beh : Int) (t : T) : Prop where
 fro : Fro t
 wd : Wd t
 ok : ∀ bx' beh', bx ≤ bx' → beh ≤ beh' → mLD t bx' beh' = true
 lay : (toD t).canLay0 = true
 sk : (skM t : Int) ≤ beh
theorem Gd.mono {bx b1 b2 : Int} {t : T} (g : Gd bx b1 t) (h : b1 ≤ b2) : Gd bx b2 t := ⟨g.fro, g.wd, fun bx' beh' h1 h2 => g.ok bx' beh' h1 (by omega), g.lay, by have := g.sk; omega⟩
noncomputable def Gds (bx : Int) (ts : List T) : Prop := ∀ (i : Nat) t, ts[i]? = some t → Gd bx ((ts.length : Int) - (i : Int) - 1) t
theorem Gds.fro {bx : Int} {ts : List T} (g : Gds bx ts) : FroL ts := FroL.all.mpr fun t ht => by
 obtain ⟨i, hi, rfl⟩ := List.getElem_of_mem ht
 exact (g i _ (List.getElem?_eq_getElem hi)).fro
theorem zq6 {i lo hi : Int} (h1 : lo ≤ i) (h2 : i ≤ hi) : mWithin (.int i) lo hi = true := by
 show (decide (lo ≤ i) && decide (i ≤ hi)) = true
 rw [decide_eq_true h1, decide_eq_true h2]; rfl
theorem wl_int {i : Int} : Wl (.int i) := fun x e => by cases e
theorem wl_short {x : Str} (h : x.length ≤ 1000) : Wl (.str x) := fun y e => by cases e; exact zqr h
theorem wd_of {ts : List T} (h : ∀ u ∈ ts, Wl u) : Wd (.tup ts) := fun us e => by cases e; exact h
theorem wd3 {x : Str} {i j : Int} (h : x.length ≤ 1000) : Wd (.tup [.str x, .int i, .int j]) := wd_of fun u hu => by
 simp only [List.mem_cons, List.not_mem_nil, or_false] at hu
 rcases hu with rfl | rfl | rfl
 · exact wl_short h
 · exact wl_int
 · exact wl_int
theorem ld_same {x y : T} {bx beh : Int} : mLD (.tup [.str "same", x, y]) bx beh = (mWithin x 0 (bx - 1) && (mWithin y 0 9 && true)) := by kernel_rfl
theorem ld_raise {x y : T} {bx beh : Int} : mLD (.tup [.str "raise", x, y]) bx beh = (mWithin x 0 (bx - 1) && (mWithin y 0 9 && gt0 y)) := by kernel_rfl
theorem g_same {b n bx : Int} (b0 : 0 ≤ b) (b1 : b < bx) (n0 : 0 ≤ n) (n1 : n ≤ 9) : Gd bx 0 (.tup [.str "same", .int b, .int n]) :=
 ⟨⟨trivial, trivial, trivial, trivial⟩, wd3 (by decide), fun bx' beh' h1 _ => by rw [ld_same, zq6 b0 (by omega), zq6 n0 n1]; rfl, lay_d (by kernel_rfl), Int.le_refl 0⟩
theorem g_raise {b n bx : Int} (b0 : 0 ≤ b) (b1 : b < bx) (n0 : 1 ≤ n) (n1 : n ≤ 9) : Gd bx 0 (.tup [.str "raise", .int b, .int n]) :=
 ⟨⟨trivial, trivial, trivial, trivial⟩, wd3 (by decide), fun bx' beh' h1 _ => by rw [ld_raise, zq6 b0 (by omega), zq6 (by omega) n1, show gt0 (.int n) = true from decide_eq_true (by omega)]; rfl, lay_d (by kernel_rfl), Int.le_refl 0⟩
noncomputable def saysT (ts : List T) : List Str := ts.filterMap sayOf
noncomputable def Nsk (ts : List T) : Prop := ∀ (i : Nat) t, ts[i]? = some t → saysT ((ts.drop (i + 1)).take (skM t)) = []
theorem saysT_append {ts us : List T} : saysT (ts ++ us) = saysT ts ++ saysT us := List.filterMap_append ..
noncomputable def cg1 (j : Nat) : Str := if j % 2 = 0 then "come" else "go"
noncomputable def cgo (i : Nat) : List Str := (List.range i).map cg1
theorem g_say {bx : Int} {x : Str} (h : x = "come" ∨ x = "go") : Gd bx 0 (.tup [.str "say", .str x]) := by
 refine ⟨⟨trivial, trivial, trivial⟩, wd_of fun u hu => ?_, fun bx' beh' _ _ => ?_, (by rcases h with rfl | rfl <;> exact lay_d (by kernel_rfl)), Int.le_refl 0⟩
 · simp only [List.mem_cons, List.not_mem_nil, or_false] at hu
   rcases hu with rfl | rfl
   · exact wl_short (by decide)
   · rcases h with rfl | rfl
     · exact wl_short (by decide)
     · exact wl_short (by decide)
 · rcases h with rfl | rfl
   · kernel_rfl
   · kernel_rfl
structure LH (bx p : Int) (ss : List T) : Prop where
 b0 : 0 ≤ bx
 b2 : bx ≤ 3
 p0 : 0 ≤ p
 p2 : p ≤ 3
 n1 : 1 ≤ ss.length
 n4 : ss.length ≤ 4
 each : ∀ s ∈ ss, ∃ ts, s = L2.T.tup ts ∧ Gds bx ts ∧ ts.length ≤ 30 ∧ saysT ts = cgo (2 * p).toNat ∧ Nsk ts
theorem LH.fro {bx p : Int} {ss : List T} (h : ∀ s ∈ ss, ∃ ts, s = L2.T.tup ts ∧ Gds bx ts ∧ ts.length ≤ 30 ∧ saysT ts = cgo (2 * p).toNat ∧ Nsk ts) : FroL ss := FroL.all.mpr fun s hs => by
 obtain ⟨ts, rfl, g, _⟩ := h s hs
 exact g.fro
inductive Dd where
 | say (x : Str)
 | act (w : Str) (b n : Int) (r : List T)
noncomputable def Dd.t : Dd → T
 | .say x => .tup [.str "say", .str x]
 | .act w b n r => .tup (.str w :: .int b :: .int n :: r)
noncomputable def Dd.In (bx : Int) : Dd → Prop
 | .say _ => True
 | .act w b _ r => 0 ≤ b ∧ b < bx ∧ (wEq w "skip" = true → ∃ m : Int, 1 ≤ m ∧ r = [.int m])
noncomputable def Dd.NS : Dd → Prop
 | .say _ => True
 | .act w _ _ _ => wEq w "say" = false
theorem within_int {t : T} {lo hi : Int} (h : mWithin t lo hi = true) : ∃ i, t = .int i ∧ lo ≤ i ∧ i ≤ hi := by
 cases t with
 | int i =>
   have h : (decide (lo ≤ i) && decide (i ≤ hi)) = true := h
   simp only [Bool.and_eq_true, decide_eq_true_eq] at h
   exact ⟨i, rfl, h.1, h.2⟩
 | _ => cases h
noncomputable def scT (ds : List Dd) : T := .tup (ds.map Dd.t)
noncomputable def hT (bx : Int) (dss : List (List Dd)) : T := .tup [.int bx, .tup (dss.map scT)]
structure HD (bx : Int) (dss : List (List Dd)) : Prop where
 b0 : 0 ≤ bx
 b6 : bx ≤ 6
 n1 : 1 ≤ dss.length
 n4 : dss.length ≤ 4
 few : ∀ ds ∈ dss, ds.length ≤ 30
 each : ∀ ds ∈ dss, ∀ d ∈ ds, d.In bx
 good : mLoose (hT bx dss) = true
 wh : Wh (hT bx dss)
 fro : Fro (hT bx dss)
 ns : ∀ ds ∈ dss, ∀ d ∈ ds, d.NS
 lay : ∀ ds ∈ dss, ∀ d ∈ ds, (toD d.t).canLay0 = true
 sk : ∀ ds ∈ dss, ∀ (i : Nat) d, ds[i]? = some d → skM d.t + i + 1 ≤ ds.length
structure WD (p : Int) (dss : List (List Dd)) : Prop where
 p0 : 0 ≤ p
 p2 : p ≤ 3
 says : ∀ ds ∈ dss, saysT (ds.map Dd.t) = cgo (2 * p).toNat
 nsk : ∀ ds ∈ dss, Nsk (ds.map Dd.t)
theorem wss_good {bx p : Int} {ss : List T} (h : ∀ s ∈ ss, ∃ ts, s = L2.T.tup ts ∧ Gds bx ts ∧ ts.length ≤ 30 ∧ saysT ts = cgo (2 * p).toNat ∧ Nsk ts) : ∀ s ∈ ss, Ws s := fun s hs => by
 obtain ⟨ts, rfl, g, _⟩ := h s hs
 exact fun us e d hd => by
  cases e
  obtain ⟨i, hi⟩ := List.mem_iff_getElem?.mp hd
  exact (g i d hi).wd
theorem wss_tup {ss : List T} (h : ∀ s ∈ ss, Ws s) : Wss (.tup ss) := fun us e d hd => by cases e; exact h d hd
theorem wss_int {i : Int} : Wss (.int i) := fun us e => by cases e
theorem wh_of {ts : List T} (h : ∀ d ∈ ts, Wss d) : Wh (.tup ts) := fun us e d hd => by cases e; exact h d hd
theorem wh_two {x y : T} (h1 : Wss x) (h2 : Wss y) : Wh (.tup [x, y]) := wh_of fun d hd => by
 simp only [List.mem_cons, List.not_mem_nil, or_false] at hd
 rcases hd with rfl | rfl
 · exact h1
 · exact h2
theorem lh_good {bx p : Int} {ss : List T} (L : LH bx p ss) : mLoose (.tup [.int bx, .tup ss]) = true ∧ Wh (.tup [.int bx, .tup ss]) := by
 have b0 := L.b0; have b2 := L.b2; have n1 := L.n1; have n4 := L.n4
 refine ⟨?_, wh_two wss_int (wss_tup (wss_good L.each))⟩
 show (mWithin (.int bx) 0 6 && (mTupW (.tup ss) 1 4 && ss.all fun s => mLS s bx)) = true
 rw [zq6 (by omega) (by omega)]
 have e : mTupW (.tup ss) 1 4 = true := by
  show (decide ((1 : Int) ≤ (ss.length : Int)) && decide ((ss.length : Int) ≤ 4)) = true
  rw [decide_eq_true (by omega), decide_eq_true (by omega)]; rfl
 rw [e, Bool.true_and, Bool.true_and, List.all_eq_true]
 intro s hs
 obtain ⟨ts, rfl, g, n, gy, gk⟩ := L.each s hs
 show (mTupW (.tup ts) 0 30 && mLDs ts bx) = true
 have e2 : mTupW (.tup ts) 0 30 = true := by
  show (decide ((0 : Int) ≤ (ts.length : Int)) && decide ((ts.length : Int) ≤ 30)) = true
  rw [decide_eq_true (by omega), decide_eq_true (by omega)]; rfl
 rw [e2, Bool.true_and]
 unfold mLDs
 rw [List.all_eq_true]
 intro i hi
 have hi := List.mem_range.mp hi
 rw [List.getD_eq_getElem?_getD, List.getElem?_eq_getElem hi]
 exact (g i ts[i] (List.getElem?_eq_getElem hi)).ok bx _ (Int.le_refl _) (Int.le_refl _)
structure SD (bx : Int) (dss : List (List Dd)) (ps ns : List Int) : Prop where
 lp : ps.length = dss.length
 ln : ns.length = bx.toNat
 p0 : ∀ p ∈ ps, 0 ≤ p
 pl : ∀ k, ps.getD k 0 ≤ ((dss.getD k []).length : Int)
abbrev iEq (x y : Int) : Bool := decide (V.int x = V.int y)
noncomputable def rM : List T → Int
 | .int m :: _ => m
 | _ => 0
noncomputable def cur (dss : List (List Dd)) (ps : List Int) (h : Nat) : Option Dd := (dss.getD h [])[(ps.getD h 0).toNat]?
noncomputable def stops (ns : List Int) : Dd → Bool
 | .say _ => false
 | .act w b n _ => wEq w "same" && !iEq (ns.getD b.toNat 0) n
noncomputable def nP (w : Str) (b n : Int) (ns : List Int) : List Int := if wEq w "put" = true then ns.set b.toNat n else ns
noncomputable def nR (w : Str) (b n : Int) (ns : List Int) : List Int := if wEq w "raise" = true then ns.set b.toNat ((ns.getD b.toNat 0 + n) % 10) else ns
noncomputable def pS (w : Str) (b n : Int) (r : List T) (ns : List Int) : Int := if (wEq w "skip" && iEq (ns.getD b.toNat 0) n) = true then rM r else 0
noncomputable def aftN : Dd → List Int → List Int
 | .say _, ns => ns
 | .act w b n _, ns => nR w b n (nP w b n ns)
noncomputable def aftP : Dd → List Int → Int
 | .say _, _ => 0
 | .act w b n r, ns => pS w b n r (nR w b n (nP w b n ns))
noncomputable def mStep (dss : List (List Dd)) (ps ns : List Int) (h : Int) : Option (List Int × List Int) :=
 if h < 0 ∨ (dss.length : Int) ≤ h then none
 else match cur dss ps h.toNat with
  | none => none
  | some d => if stops ns d = true then none else some (ps.set h.toNat (ps.getD h.toNat 0 + 1 + aftP d ns), aftN d ns)
theorem step_out {dss : List (List Dd)} {ps ns : List Int} {h : Int} (c : h < 0 ∨ (dss.length : Int) ≤ h) : mStep dss ps ns h = none := if_pos c
theorem step_in {dss : List (List Dd)} {ps ns : List Int} {h : Nat} (c : h < dss.length) : mStep dss ps ns (h : Int) = match cur dss ps h with
  | none => none
  | some d => if stops ns d = true then none else some (ps.set h (ps.getD h 0 + 1 + aftP d ns), aftN d ns) := by
 unfold mStep
 rw [if_neg (by omega)]
 rfl
theorem step_end {dss : List (List Dd)} {ps ns : List Int} {h : Nat} (c : h < dss.length) (e : cur dss ps h = none) : mStep dss ps ns (h : Int) = none := by rw [step_in c, e]
theorem step_at {dss : List (List Dd)} {ps ns : List Int} {h : Nat} {d : Dd} (c : h < dss.length) (e : cur dss ps h = some d) : mStep dss ps ns (h : Int) = if stops ns d = true then none else some (ps.set h (ps.getD h 0 + 1 + aftP d ns), aftN d ns) := by rw [step_in c, e]
theorem zxe {dss : List (List Dd)} {ps ns : List Int} {h : Int} {q : List Int × List Int} (e : mStep dss ps ns h = some q) : ∃ k : Nat, ∃ d, h = (k : Int) ∧ k < dss.length ∧ cur dss ps k = some d ∧ stops ns d = false ∧ q = (ps.set k (ps.getD k 0 + 1 + aftP d ns), aftN d ns) := by
 by_cases c : h < 0 ∨ (dss.length : Int) ≤ h
 · rw [step_out c] at e; cases e
 · obtain ⟨k, rfl⟩ := Int.eq_ofNat_of_zero_le (show 0 ≤ h by omega)
   have hk : k < dss.length := by omega
   refine ⟨k, ?_⟩
   cases e1 : cur dss ps k with
   | none => rw [step_end hk e1] at e; cases e
   | some d =>
     rw [step_at hk e1] at e
     cases e2 : stops ns d with
     | true => rw [e2] at e; cases e
     | false =>
       rw [e2] at e
       exact ⟨d, rfl, hk, rfl, e2, (Option.some.inj e).symm⟩
theorem cur_in {bx : Int} {dss : List (List Dd)} {ps : List Int} {k : Nat} {d : Dd} (h : HD bx dss) (e : cur dss ps k = some d) : d.In bx := by
 unfold cur at e
 cases e1 : dss[k]? with
 | none => rw [List.getD_eq_getElem?_getD, e1] at e; simp at e
 | some ds =>
   rw [List.getD_eq_getElem?_getD, e1] at e
   exact h.each ds (List.mem_of_getElem? e1) d (List.mem_of_getElem? e)
theorem aftN_length {d : Dd} {ns : List Int} : (aftN d ns).length = ns.length := by
 cases d with
 | say x => rfl
 | act w b n r =>
   show (nR w b n (nP w b n ns)).length = ns.length
   unfold nR nP
   split <;> split <;> simp
theorem aftP_nn {bx : Int} {d : Dd} {ns : List Int} (h : d.In bx) : 0 ≤ aftP d ns := by
 cases d with
 | say x => exact Int.le_refl 0
 | act w b n r =>
   show 0 ≤ pS w b n r (nR w b n (nP w b n ns))
   unfold pS
   split
   · rename_i c
     rw [Bool.and_eq_true] at c
     obtain ⟨m, hm, rfl⟩ := h.2.2 c.1
     show 0 ≤ m
     omega
   · exact Int.le_refl 0
theorem aftP_sk {bx : Int} {d : Dd} {ns : List Int} (h : d.In bx) : aftP d ns ≤ (skM d.t : Int) := by
 cases d with
 | say x => exact Int.le_refl 0
 | act w b n r =>
   show pS w b n r (nR w b n (nP w b n ns)) ≤ _
   unfold pS
   split
   · rename_i c
     rw [Bool.and_eq_true] at c
     obtain ⟨m, hm, rfl⟩ := h.2.2 c.1
     show m ≤ ((m.toNat : Nat) : Int)
     omega
   · exact Int.natCast_nonneg _
theorem getD_nn {ps : List Int} (h : ∀ p ∈ ps, 0 ≤ p) (k : Nat) : 0 ≤ ps.getD k 0 := by
 rw [List.getD_eq_getElem?_getD]
 cases e : ps[k]? with
 | none => exact Int.le_refl 0
 | some p => exact h p (List.mem_of_getElem? e)
theorem SD.step {bx : Int} {dss : List (List Dd)} {ps ns qs ms : List Int} {h : Int} (hd : HD bx dss) (sd : SD bx dss ps ns) (e : mStep dss ps ns h = some (qs, ms)) : SD bx dss qs ms := by
 obtain ⟨k, d, rfl, hk, e1, e2, e3⟩ := zxe e
 cases e3
 refine ⟨by rw [List.length_set]; exact sd.lp, by rw [aftN_length]; exact sd.ln, fun p hp => ?_, fun j => ?_⟩
 rotate_left
 · by_cases c : j = k
   · subst c
     have hkp : j < ps.length := by rw [sd.lp]; exact hk
     have eg : dss.getD j [] = dss[j] := by rw [List.getD_eq_getElem?_getD, List.getElem?_eq_getElem hk]; rfl
     have h1 := getD_nn sd.p0 j
     have h2 := aftP_sk (ns := ns) (cur_in hd e1)
     unfold cur at e1
     rw [eg] at e1
     have h3 := hd.sk _ (List.getElem_mem hk) _ _ e1
     rw [eg, List.getD_eq_getElem?_getD, List.getElem?_set_self hkp]
     show ps.getD j 0 + 1 + aftP d ns ≤ _
     omega
   · rw [List.getD_eq_getElem?_getD, List.getElem?_set_ne (Ne.symm c), ← List.getD_eq_getElem?_getD]
     exact sd.pl j
 have h1 := getD_nn sd.p0 k
 have h2 := aftP_nn (ns := ns) (cur_in hd e1)
 rcases List.mem_or_eq_of_mem_set hp with z | z
 · exact sd.p0 p z
 · rw [z]; omega
noncomputable def due (dss : List (List Dd)) (ps ns : List Int) : List Int := ((List.range dss.length).map fun (i : Nat) => (i : Int)).filter fun h => (mStep dss ps ns h).isSome
theorem mem_due {dss : List (List Dd)} {ps ns : List Int} {h : Int} : h ∈ due dss ps ns ↔ (mStep dss ps ns h).isSome = true := by
 unfold due
 rw [List.mem_filter]
 refine ⟨fun q => q.2, fun q => ⟨?_, q⟩⟩
 obtain ⟨r, hr⟩ := Option.isSome_iff_exists.mp q
 obtain ⟨k, d, rfl, hk, _⟩ := zxe hr
 exact List.mem_map.mpr ⟨k, List.mem_range.mpr hk, rfl⟩
noncomputable def zs (n : Nat) : List Int := List.replicate n 0
theorem SD.first {bx : Int} {dss : List (List Dd)} : SD bx dss (zs dss.length) (zs bx.toNat) := ⟨List.length_replicate, List.length_replicate, fun p hp => by rw [(List.mem_replicate.mp hp).2]; exact Int.le_refl 0, fun k => by
 have e : (zs dss.length).getD k 0 = 0 := by
  unfold zs
  rw [List.getD_eq_getElem?_getD, List.getElem?_replicate]
  split <;> rfl
 rw [e]; exact Int.natCast_nonneg _⟩
theorem zxt : ∀ ns : List Int, FroL (iT ns)
 | [] => by unfold iT FroL; trivial
 | n :: r => by show FroL (T.int n :: iT r); unfold FroL; exact ⟨by unfold Fro; trivial, zxt r⟩
theorem fro_tt {ps ns : List Int} : Fro (tt ps ns) := by
 unfold tt Fro FroL
 exact ⟨by unfold Fro; exact zxt ps, by unfold FroL; exact ⟨by unfold Fro; exact zxt ns, by unfold FroL; trivial⟩⟩
theorem h_open {H : Hp} {bx : Int} {dss : List (List Dd)} {v : V} (h : Is H (hT bx dss) v) : ∃ a as ss, v = .ref a ∧ H a = some (.tup [.int bx, .ref as]) ∧ H as = some (.tup ss) ∧ IsL H (dss.map scT) ss ∧ ss.length = dss.length := by
 obtain ⟨a, xs, rfl, ha, v1, r1, rfl, i1, v2, r2, rfl, i2, hn⟩ := h
 cases (show r2 = [] from hn)
 cases (show v1 = .int bx from i1)
 obtain ⟨as, ss, rfl, has, hl⟩ := i2
 exact ⟨a, as, ss, rfl, ha, has, hl, by rw [hl.length, List.length_map]⟩
theorem s_open {H : Hp} {ps ns : List Int} {v : V} (h : Is H (tt ps ns) v) : ∃ a p q, v = .ref a ∧ H a = some (.tup [.ref p, .ref q]) ∧ H p = some (.tup (ps.map V.int)) ∧ H q = some (.tup (ns.map V.int)) := by
 obtain ⟨a, xs, rfl, ha, v1, r1, rfl, i1, v2, r2, rfl, i2, hn⟩ := h
 cases (show r2 = [] from hn)
 obtain ⟨p, xp, rfl, hp, lp⟩ := i1
 obtain ⟨q, xq, rfl, hq, lq⟩ := i2
 rw [IsL.ints] at lp lq
 subst lp lq
 exact ⟨a, p, q, rfl, ha, hp, hq⟩
theorem s_close {H : Hp} {ps ns : List Int} {p q a : Addr} (hp : H p = some (.tup (ps.map V.int))) (hq : H q = some (.tup (ns.map V.int))) (ha : H a = none) : Is (upd H a (.tup [.ref p, .ref q])) (tt ps ns) (.ref a) :=
 Is.newTup ha (IsL.two ⟨p, _, rfl, hp, IsL.ints.mpr rfl⟩ ⟨q, _, rfl, hq, IsL.ints.mpr rfl⟩)
theorem sc_at {H : Hp} {dss : List (List Dd)} {ss : List V} {k : Nat} (h : IsL H (dss.map scT) ss) (hk : k < dss.length) : ∃ b xs, ss[k]? = some (.ref b) ∧ H b = some (.tup xs) ∧ IsL H ((dss.getD k []).map Dd.t) xs ∧ xs.length = (dss.getD k []).length := by
 obtain ⟨v, e, b, xs, rfl, hb, hl⟩ := h.get (i := k) (t := scT dss[k]) (by rw [List.getElem?_map, List.getElem?_eq_getElem hk]; rfl)
 have eg : dss.getD k [] = dss[k] := by rw [List.getD_eq_getElem?_getD, List.getElem?_eq_getElem hk]; rfl
 rw [eg]
 exact ⟨b, xs, e, hb, hl, by rw [hl.length, List.length_map]⟩
theorem zxx {ns : List Int} {k : Nat} (h : k < ns.length) : (ns.map V.int)[k]? = some (.int (ns.getD k 0)) := by
 rw [List.getElem?_map, List.getD_eq_getElem?_getD, List.getElem?_eq_getElem h]; rfl
theorem int_set {ns : List Int} {k : Nat} {n : Int} : (ns.map V.int).set k (.int n) = (ns.set k n).map V.int := by rw [List.map_set]
theorem d_say {H : Hp} {x : Str} {v : V} (h : Is H (Dd.say x).t v) : ∃ a, v = .ref a ∧ H a = some (.tup [.str "say", .str x]) := by
 obtain ⟨a, xs, rfl, ha, v1, r1, rfl, i1, v2, r2, rfl, i2, hn⟩ := h
 cases (show r2 = [] from hn)
 cases (show v1 = .str "say" from i1)
 cases (show v2 = .str x from i2)
 exact ⟨a, rfl, ha⟩
theorem d_act {H : Hp} {x : Str} {b n : Int} {r : List T} {v : V} (h : Is H (Dd.act x b n r).t v) : ∃ a vs, v = .ref a ∧ H a = some (.tup (.str x :: .int b :: .int n :: vs)) ∧ IsL H r vs := by
 obtain ⟨a, xs, rfl, ha, v1, r1, rfl, i1, v2, r2, rfl, i2, v3, r3, rfl, i3, hn⟩ := h
 cases (show v1 = .str x from i1)
 cases (show v2 = .int b from i2)
 cases (show v3 = .int n from i3)
 exact ⟨a, r3, rfl, ha, hn⟩
abbrev s_at_first : Stmt := top 26
abbrev s_next_deed : Stmt := top 27
abbrev s_may_go_on : Stmt := top 28
abbrev s_going : Stmt := top 30
structure At (H : Hp) (bx : Int) (dss : List (List Dd)) (ps ns : List Int) (vh vs : V) : Prop where
 hd : HD bx dss
 sd : SD bx dss ps ns
 ih : Is H (hT bx dss) vh
 is : Is H (tt ps ns) vs
theorem At.same {H H' : Hp} {bx : Int} {dss : List (List Dd)} {ps ns : List Int} {vh vs : V} (A : At H bx dss ps ns vh vs) (s : Same H H') : At H' bx dss ps ns vh vs := ⟨A.hd, A.sd, A.ih.mono s, A.is.mono s⟩
theorem At.tups {H H' : Hp} {bx : Int} {dss : List (List Dd)} {ps ns : List Int} {vh vs : V} (A : At H bx dss ps ns vh vs) (s : Tups H H') : At H' bx dss ps ns vh vs := ⟨A.hd, A.sd, A.ih.tups s A.hd.fro, A.is.tups s fro_tt⟩
theorem step_some {dss : List (List Dd)} {ps ns : List Int} {h : Nat} {d : Dd} (c : h < dss.length) (e : cur dss ps h = some d) : (mStep dss ps ns (h : Int)).isSome = !stops ns d := by
 rw [step_at c e]
 cases stops ns d <;> rfl
theorem at0 {x : V} {r : List V} : atI (x :: r) 0 = some x := (show atI (x :: r) ((0 : Nat) : Int) = _ from atI_nat rfl)
theorem at1 {x y : V} {r : List V} : atI (x :: y :: r) 1 = some y := (show atI (x :: y :: r) ((1 : Nat) : Int) = _ from atI_nat rfl)
theorem at2 {x y z : V} {r : List V} : atI (x :: y :: z :: r) 2 = some z := (show atI (x :: y :: z :: r) ((2 : Nat) : Int) = _ from atI_nat rfl)
theorem at3 {x y z u : V} {r : List V} : atI (x :: y :: z :: u :: r) 3 = some u := (show atI (x :: y :: z :: u :: r) ((3 : Nat) : Int) = _ from atI_nat rfl)
noncomputable def spNd : Sp := fun vs H Q _ => ∃ bx dss ps ns vh vst, ∃ k : Nat, vs = [vh, vst, .int (k : Int)] ∧ At H bx dss ps ns vh vst ∧ k < dss.length ∧ (cur dss ps k = none → Q .non H) ∧ ∀ d v, cur dss ps k = some d → Is H d.t v → Q v H
noncomputable def spMg : Sp := fun vs H Q _ => ∃ bx dss ps ns vh vst, ∃ h : Int, vs = [vh, vst, .int h] ∧ At H bx dss ps ns vh vst ∧ ∀ H', Same H H' → Q (.bl (mStep dss ps ns h).isSome) H'
noncomputable def spGo : Sp := fun vs H Q _ => ∃ bx dss ps ns vh vst, vs = [vh, vst] ∧ At H bx dss ps ns vh vst ∧ ∀ l H', Same H H' → H l = none → H' l = some (.lst ((due dss ps ns).map V.int)) → Q (.ref l) H'
noncomputable def spFi : Sp := fun vs H Q _ => ∃ bx dss vh, vs = [vh] ∧ HD bx dss ∧ Is H (hT bx dss) vh ∧ ∀ v H', Same H H' → Is H' (tt (zs dss.length) (zs bx.toNat)) v → Q v H'
theorem sc_next_deed : FnScope ["house", "stand", "hand", "script", "place"] ["house", "stand", "hand"] (defScope s_next_deed) := ⟨rfl, rfl, rfl, by decide +kernel, rfl, by decide +kernel, by decide +kernel⟩
theorem ok_next_deed (D : Def K mg "next_deed" s_next_deed) (T : Txt K mg) : Ok P w K mg base "next_deed" 1 ["house", "stand", "hand"] spNd := by
 refine mkOk D sc_next_deed (fun _ _ _ _ _ _ us hl => (match us, hl with | [_, _, _], _ => rfl)) (fun vs H Q E ⟨_, _, _, _, _, _, _, e, _⟩ => by rw [e]; rfl) fun f cdv A outer s H vs Q E hr h => ?_
 obtain ⟨bx, dss, ps, ns, vh, vst, k, rfl, A, hk, k1, k2⟩ := h
 have nd := sc_next_deed.nd
 refine ⟨_, zqb (zqq (i := 3) nd rfl (Or.inl rfl) (zqn zqo (zqn zqo (pv 0) (zqx T.SCRIPTS) (fun _ _ => rfl)) (pv 2) (fun _ _ => rfl)))
  (zqb (zqq (i := 4) nd rfl (Or.inl rfl) (zqn zqo (zqn zqo (pv 1) (zqx T.PLACES) (fun _ _ => rfl)) (pv 2) (fun _ _ => rfl)))
  (zqe (zqh (pe_ifExp (pt_chain op_le op_lt zqd (pv 4) (zqk zqj (by rfl) T.len zqz (zqa (pv 3) zqc))) (zqn zqo (pv 3) (pv 4) (fun _ _ => rfl)) pe_non)))), ?_⟩
 obtain ⟨a, as, ss, rfl, ha, has, hl, hn⟩ := h_open A.ih
 obtain ⟨c, p, q, rfl, hc, hp, hq⟩ := s_open A.is
 obtain ⟨b, xs, eb, hb, hxs, hxn⟩ := sc_at hl hk
 have hkp : k < ps.length := by rw [A.sd.lp]; exact hk
 have h0 := getD_nn A.sd.p0 k
 refine ⟨_, rfl, a, _, _, _, rfl, rfl, SqT.of ha, rfl, _, rfl, as, ss, _, _, rfl, rfl, SqT.of has, atI_nat eb, ?_⟩
 refine ⟨_, rfl, c, _, _, _, rfl, rfl, SqT.of hc, rfl, _, rfl, p, _, _, _, rfl, rfl, SqT.of hp, atI_nat (zxx hkp), ?_⟩
 refine ⟨_, rfl, 0, _, rfl, rfl, _, rfl, ?_⟩
 rw [decide_eq_true h0]
 refine iteT ⟨_, rfl, b, xs, rfl, .inr (SqT.of hb), _, _, rfl, rfl, _, rfl, ite2 (fun z => ?_) (fun z => ?_)⟩
 · have z := of_decide_eq_true z
   have hi : (ps.getD k 0).toNat < (dss.getD k []).length := by omega
   have e1 : cur dss ps k = some ((dss.getD k [])[(ps.getD k 0).toNat]) := List.getElem?_eq_getElem hi
   obtain ⟨v, ev, iv⟩ := hxs.get (i := (ps.getD k 0).toNat) (t := ((dss.getD k [])[(ps.getD k 0).toNat]).t) (by rw [List.getElem?_map, List.getElem?_eq_getElem hi]; rfl)
   exact ⟨_, rfl, _, rfl, b, xs, _, v, rfl, rfl, SqT.of hb, by rw [show ps.getD k 0 = (((ps.getD k 0).toNat : Nat) : Int) from by omega]; exact atI_nat ev, k2 _ _ e1 iv⟩
 · have z : ¬ (ps.getD k 0 < (xs.length : Int)) := fun y => z (decide_eq_true y)
   exact k1 (by unfold cur; rw [List.getElem?_eq_none]; omega)
theorem sc_may_go_on : FnScope ["house", "stand", "hand", "deed"] ["house", "stand", "hand"] (defScope s_may_go_on) := ⟨rfl, rfl, rfl, by decide +kernel, rfl, by decide +kernel, by decide +kernel⟩
theorem ok_may_go_on (D : Def K mg "may_go_on" s_may_go_on) (T : Txt K mg) (o1 : Ok P w K mg base "is_within" 2 ["thing", "least", "most"] spWi) (o2 : Ok P w K mg base "next_deed" 1 ["house", "stand", "hand"] spNd) :
  Ok P w K mg base "may_go_on" 3 ["house", "stand", "hand"] spMg := by
 refine mkOk D sc_may_go_on (fun _ _ _ _ _ _ us hl => (match us, hl with | [_, _, _], _ => rfl)) (fun vs H Q E ⟨_, _, _, _, _, _, _, e, _⟩ => by rw [e]; rfl) fun f cdv A outer s H vs Q E hr h => ?_
 obtain ⟨bx, dss, ps, ns, vh, vst, h, rfl, A, kk⟩ := h
 have nd := sc_may_go_on.nd
 have r1 := hr.mono (show 1 ≤ 2 by decide)
 refine ⟨_, zqb (zqv (zq3 (zqy (zqp o1 hr (zqa (pv 2) (zqa zqd (zqa (zqt op_sub (zqk zqj (by rfl) T.len zqz (zqa (zqn zqo (pv 0) (zqx T.SCRIPTS) (fun _ _ => rfl)) zqc)) zqd) zqc)))))) (zqe (zqh zq9)) zqi)
  (zqb (zqq (i := 3) nd rfl (Or.inl rfl) (zqp o2 r1 (zqa (pv 0) (zqa (pv 1) (zqa (pv 2) zqc)))))
  (zqb (zqv (zql op_isN (pv 3) pe_non (nomark _)) (zqe (zqh zq9)) zqi)
  (zqe (zqh (pe_or (zq0 op_ne (zqn zqo (pv 3) zqd (fun _ _ => rfl)) zqm (nomark _)) (zxj (zq0 zq4 (zqn zqo (zqn zqo (pv 1) (zqx T.NUMBERS) (fun _ _ => rfl)) (zqn zqo (pv 3) zqd (fun _ _ => rfl)) (fun _ _ => rfl)) (zqn zqo (pv 3) zqd (fun _ _ => rfl)) (nomark _)))))))), ?_⟩
 obtain ⟨a, as, ss, e0, ha, has, hl, hn⟩ := h_open A.ih
 subst e0
 refine ⟨_, rfl, _, rfl, a, _, _, _, rfl, rfl, SqT.of ha, rfl, as, ss, rfl, .inr (SqT.of has), _, _, rfl, rfl, .int h, _, 0, _, rfl, rfl, fun H1 s1 => ⟨_, rfl, ?_⟩⟩
 by_cases c : h < 0 ∨ (dss.length : Int) ≤ h
 · have e : mWithin (.int h) 0 ((ss.length : Int) - 1) = false := by
    show (decide (0 ≤ h) && decide (h ≤ (ss.length : Int) - 1)) = false
    rw [Bool.and_eq_false_iff, decide_eq_false_iff_not, decide_eq_false_iff_not]
    omega
   rw [e]
   have q := kk H1 s1
   rw [step_out c] at q
   exact iteT q
 · obtain ⟨k, rfl⟩ := Int.eq_ofNat_of_zero_le (show 0 ≤ h by omega)
   have hk : k < dss.length := by omega
   have e : mWithin (.int (k : Int)) 0 ((ss.length : Int) - 1) = true := zq6 (by omega) (by omega)
   rw [e]
   have A1 := A.same s1
   refine iteF ⟨_, rfl, _, rfl, _, rfl, bx, dss, ps, ns, _, _, k, rfl, A1, hk, fun e => ?_, fun d v e iv => ?_⟩
   · refine ⟨_, rfl, rfl, _, rfl, ite2 (fun _ => ?_) (fun z => absurd (decide_eq_true rfl) z)⟩
     have q := kk H1 s1
     rw [step_end hk e] at q
     exact q
   · have q := kk H1 s1
     rw [step_some hk e] at q
     obtain ⟨c, p, q', e1, hc, hp, hq⟩ := s_open A1.is
     subst e1
     cases d with
     | say x =>
       obtain ⟨ad, rfl, had⟩ := d_say iv
       refine ⟨_, rfl, rfl, _, rfl, ite2 (fun z => absurd (of_decide_eq_true z) (fun y => by cases y)) (fun _ => ?_)⟩
       refine ⟨_, rfl, ad, _, _, _, rfl, rfl, SqT.of had, rfl, rfl, _, rfl, ite2 (fun _ => q) (fun z => absurd ?_ z)⟩
       decide +kernel
     | act w b n r =>
       obtain ⟨ad, vs, rfl, had, _⟩ := d_act iv
       have hb := cur_in A.hd e
       have hbn : b.toNat < ns.length := by rw [A.sd.ln]; have := hb.1; have := hb.2.1; omega
       have q : Q (.bl (!(wEq w "same" && !iEq (ns.getD b.toNat 0) n))) H1 := q
       refine ⟨_, rfl, rfl, _, rfl, ite2 (fun z => absurd (of_decide_eq_true z) (fun y => by cases y)) (fun _ => ?_)⟩
       refine ⟨_, rfl, ad, _, _, _, rfl, rfl, SqT.of had, at0, rfl, _, rfl, ite2 (fun z => ?_) (fun z => ?_)⟩
       · have z : wEq w "same" = false := by simpa using z
         rw [z] at q
         exact q
       · have z : wEq w "same" = true := by simpa using z
         rw [z, Bool.true_and, Bool.not_not] at q
         exact ⟨_, rfl, c, _, _, _, rfl, rfl, SqT.of hc, rfl, _, rfl, ad, _, _, _, rfl, rfl, SqT.of had, at1, q', _, _, _, rfl, rfl, SqT.of hq, by rw [show b = ((b.toNat : Nat) : Int) from by have := hb.1; omega]; exact atI_nat (zxx hbn), _, rfl, ad, _, _, _, rfl, rfl, SqT.of had, at2, rfl, q⟩
theorem sc_at_first : FnScope ["house"] ["house"] (defScope s_at_first) := ⟨rfl, rfl, rfl, by decide +kernel, rfl, by decide +kernel, by decide +kernel⟩
theorem rep0 (n : Nat) : (List.replicate n [V.int 0]).flatten = (zs n).map V.int := by
 induction n with
 | zero => rfl
 | succ n ih => rw [List.replicate_succ, List.flatten_cons, ih]; rfl
theorem ok_at_first (D : Def K mg "at_first" s_at_first) (T : Txt K mg) : Ok P w K mg base "at_first" 1 ["house"] spFi := by
 refine mkOk D sc_at_first (fun _ _ _ _ _ _ us hl => (match us, hl with | [_], _ => rfl)) (fun vs H Q E ⟨_, _, _, e, _⟩ => by rw [e]; rfl) fun f cdv A outer s H vs Q E hr h => ?_
 obtain ⟨bx, dss, vh, rfl, hd, ih, kk⟩ := h
 refine ⟨_, zqe (zqh (pe_tup (zqa (zq1 zq5 rfl T.tuple zxb (zqa (zqt op_rep (pe_lst (zqa zqd zqc)) (zqk zqj (by rfl) T.len zqz (zqa (zqn zqo (pv 0) (zqx T.SCRIPTS) (fun _ _ => rfl)) zqc))) zqc))
  (zqa (zq1 zq5 rfl T.tuple zxb (zqa (zqt op_rep (pe_lst (zqa zqd zqc)) (zqn zqo (pv 0) (zqx T.BOXES) (fun _ _ => rfl))) zqc)) zqc)))), ?_⟩
 obtain ⟨a, as, ss, e0, ha, has, hl, hn⟩ := h_open ih
 subst e0
 have n4 := hd.n4
 have b0 := hd.b0
 have b6 := hd.b6
 refine ⟨by show 1 ≤ sizeLine; decide, fun l1 hl1 => ?_⟩
 have s1 := Same.new hl1 (.lst [.int 0])
 have g1 : upd H l1 (.lst [.int 0]) l1 = some (.lst [.int 0]) := upd_same
 generalize upd H l1 (.lst [.int 0]) = H1 at s1 g1 ⊢
 refine ⟨_, rfl, a, _, _, _, rfl, rfl, SqT.of (s1 _ _ ha), rfl, as, ss, rfl, .inr (SqT.of (s1 _ _ has)), l1, _, _, rfl, rfl, g1, by omega, by omega, by show 1 * ((ss.length : Nat) : Int).toNat ≤ sizeLine; exact zqr (by omega), fun l2 hl2 => ?_⟩
 have e1 : (List.replicate ((ss.length : Nat) : Int).toNat [V.int 0]).flatten = (zs dss.length).map V.int := by rw [Int.toNat_natCast, hn]; exact rep0 _
 rw [e1]
 have s2 := Same.new hl2 (.lst ((zs dss.length).map V.int))
 have g2 : upd H1 l2 (.lst ((zs dss.length).map V.int)) l2 = some (.lst ((zs dss.length).map V.int)) := upd_same
 generalize upd H1 l2 (.lst ((zs dss.length).map V.int)) = H2 at s2 g2 ⊢
 refine ⟨l2, _, rfl, .inl ⟨SqL.of g2, fun l3 hl3 => ?_⟩⟩
 have s3 := Same.new hl3 (.tup ((zs dss.length).map V.int))
 have g3 : upd H2 l3 (.tup ((zs dss.length).map V.int)) l3 = some (.tup ((zs dss.length).map V.int)) := upd_same
 generalize upd H2 l3 (.tup ((zs dss.length).map V.int)) = H3 at s3 g3 ⊢
 refine ⟨by show 1 ≤ sizeLine; decide, fun l4 hl4 => ?_⟩
 have s4 := Same.new hl4 (.lst [.int 0])
 have g4 : upd H3 l4 (.lst [.int 0]) l4 = some (.lst [.int 0]) := upd_same
 generalize upd H3 l4 (.lst [.int 0]) = H4 at s4 g4 ⊢
 have S4 := s1.trans (s2.trans (s3.trans s4))
 refine ⟨_, rfl, a, _, _, _, rfl, rfl, SqT.of (S4 _ _ ha), rfl, l4, _, _, rfl, rfl, g4, by omega, by omega, by show 1 * bx.toNat ≤ sizeLine; exact zqr (by omega), fun l5 hl5 => ?_⟩
 rw [rep0]
 have s5 := Same.new hl5 (.lst ((zs bx.toNat).map V.int))
 have g5 : upd H4 l5 (.lst ((zs bx.toNat).map V.int)) l5 = some (.lst ((zs bx.toNat).map V.int)) := upd_same
 generalize upd H4 l5 (.lst ((zs bx.toNat).map V.int)) = H5 at s5 g5 ⊢
 refine ⟨l5, _, rfl, .inl ⟨SqL.of g5, fun l6 hl6 => ?_⟩⟩
 have s6 := Same.new hl6 (.tup ((zs bx.toNat).map V.int))
 have g6 : upd H5 l6 (.tup ((zs bx.toNat).map V.int)) l6 = some (.tup ((zs bx.toNat).map V.int)) := upd_same
 generalize upd H5 l6 (.tup ((zs bx.toNat).map V.int)) = H6 at s6 g6 ⊢
 refine ⟨(by show 2 ≤ sizeLine; decide), fun l7 hl7 => ?_⟩
 exact kk _ _ (S4.trans (s5.trans (s6.trans (Same.new hl7 _)))) (s_close (s6 _ _ (s5 _ _ (s4 _ _ g3))) g6 hl7)
theorem sc_going : FnScope ["house", "stand"] ["house", "stand"] (defScope s_going) := ⟨rfl, rfl, rfl, by decide +kernel, rfl, by decide +kernel, by decide +kernel⟩
theorem due_take {dss : List (List Dd)} {ps ns : List Int} (i : Nat) : (((List.range (i + 1)).map fun (j : Nat) => (j : Int)).filter fun h => (mStep dss ps ns h).isSome) = (((List.range i).map fun (j : Nat) => (j : Int)).filter fun h => (mStep dss ps ns h).isSome) ++ if (mStep dss ps ns (i : Int)).isSome = true then [(i : Int)] else [] := by
 rw [List.range_succ, List.map_append, List.filter_append]
 congr 1
 show List.filter _ [(i : Int)] = _
 rw [List.filter_cons]
 rfl
theorem ok_going (D : Def K mg "going" s_going) (T : Txt K mg) (o1 : Ok P w K mg base "may_go_on" 3 ["house", "stand", "hand"] spMg) : Ok P w K mg base "going" 4 ["house", "stand"] spGo := by
 refine mkOk D sc_going (fun _ _ _ _ _ _ us hl => (match us, hl with | [_, _], _ => rfl)) (fun vs H Q E ⟨_, _, _, _, _, _, e, _⟩ => by rw [e]; rfl) fun f cdv A outer s H vs Q E hr h => ?_
 obtain ⟨bx, dss, ps, ns, vh, vst, rfl, A, kk⟩ := h
 refine ⟨_, zqe (zqh (zxl (own := ["hand"]) (cap := [0, 1]) rfl (lcScope (defScope s_going) rfl rfl (by decide +kernel) (by decide +kernel) (by decide +kernel) ⟨⟨_, rfl, .inl rfl, noLoc rfl⟩, ⟨_, rfl, .inl rfl, noLoc rfl⟩, trivial⟩)
  (pi_range1 rfl T.range (zqa (zqk zqj (by rfl) T.len zqz (zqa (zqn zqo (pv 0) (zqx T.SCRIPTS) (fun _ _ => rfl)) zqc)) zqc))
  (fun _ _ _ _ => pg_name (i := 0) (by show (["hand", "house", "stand"] : List Str).Nodup; decide +kernel) rfl (Or.inl rfl))
  (fun _ _ _ _ => pif_one (zqy (zqp o1 hr (zqa (pv 1) (zqa (pv 2) (zqa (pv 0) zqc))))))
  (fun _ _ _ _ => pv 0))), ?_⟩
 obtain ⟨a, as, ss, e0, ha, has, hl, hn⟩ := h_open A.ih
 subst e0
 have n4 := A.hd.n4
 refine ⟨_, rfl, a, _, _, _, rfl, rfl, SqT.of ha, rfl, as, ss, rfl, .inr (SqT.of has), _, rfl, by omega, by omega, ?_⟩
 refine lc_range (lo := 0) (n := ((ss.length : Nat) : Int).toNat) (fun j ys H' => Same H H' ∧ ys = (((List.range j).map fun (i : Nat) => (i : Int)).filter fun h => (mStep dss ps ns h).isSome).map V.int) ⟨Same.refl H, rfl⟩
  (fun j ys H' hj ⟨_, e⟩ => ?_) ?_ ?_
 · rw [e, List.length_map]
   refine Nat.le_trans (List.length_filter_le _ _) ?_
   rw [List.length_map, List.length_range]
   exact zqr (by omega)
 · rintro j ys H' hj ⟨s1, rfl⟩
   refine ⟨_, rfl, _, rfl, _, rfl, bx, dss, ps, ns, _, _, _, rfl, A.same s1, fun H2 s2 => ⟨_, rfl, ?_⟩⟩
   rw [Int.zero_add]
   refine ite2 (fun z => ?_) (fun z => ?_)
   · refine ⟨_, rfl, s1.trans s2, ?_⟩
     rw [due_take, if_pos z, List.map_append]
     rfl
   · refine ⟨s1.trans s2, ?_⟩
     rw [due_take, if_neg z, List.append_nil]
 · rintro ys H' ⟨s1, rfl⟩ l hl
   have e : ((List.range ((ss.length : Nat) : Int).toNat).map fun (i : Nat) => (i : Int)).filter (fun h => (mStep dss ps ns h).isSome) = due dss ps ns := by
    unfold due
    rw [Int.toNat_natCast, hn]
   rw [e]
   refine kk l _ (s1.trans (Same.new hl _)) ?_ upd_same
   cases z : H l with
   | none => rfl
   | some o => rw [s1 _ _ z] at hl; cases hl
abbrev s_moved : Stmt := top 29
theorem Same.fresh {H H' : Hp} {p : Addr} {o : HO} (s : Same H H') (h : H p = none) : Same H (upd H' p o) := fun b u e => by
 rw [zqf (zqg e h)]; exact s b u e
structure Two (H : Hp) (lp ln : Addr) (H' : Hp) (ps ns : List Int) : Prop where
 s : Same H H'
 np : H lp = none
 nn : H ln = none
 ne : lp ≠ ln
 p : H' lp = some (.lst (ps.map V.int))
 n : H' ln = some (.lst (ns.map V.int))
theorem Two.setP {H H' : Hp} {lp ln : Addr} {ps ns qs : List Int} (t : Two H lp ln H' ps ns) : Two H lp ln (upd H' lp (.lst (qs.map V.int))) qs ns :=
 ⟨Same.fresh t.s t.np, t.np, t.nn, t.ne, upd_same, by rw [zqf (Ne.symm t.ne)]; exact t.n⟩
theorem Two.setN {H H' : Hp} {lp ln : Addr} {ps ns ms : List Int} (t : Two H lp ln H' ps ns) : Two H lp ln (upd H' ln (.lst (ms.map V.int))) ps ms :=
 ⟨Same.fresh t.s t.nn, t.np, t.nn, t.ne, by rw [zqf t.ne]; exact t.p, upd_same⟩
theorem ixN_nat {n k : Nat} (h : k < n) : ixN n (k : Int) = some k := by
 unfold ixN
 rw [if_pos (by omega), if_pos (by omega), Int.toNat_natCast]
theorem ixN_at {xs : List Int} {b : Int} (h0 : 0 ≤ b) (h : b.toNat < xs.length) : ixN (xs.map V.int).length b = some b.toNat := by
 rw [List.length_map]
 conv => lhs; rw [show b = ((b.toNat : Nat) : Int) from by omega]
 exact ixN_nat h
theorem atI_at {xs : List Int} {b : Int} (h0 : 0 ≤ b) (h : b.toNat < xs.length) : atI (xs.map V.int) b = some (.int (xs.getD b.toNat 0)) := by
 conv => lhs; rw [show b = ((b.toNat : Nat) : Int) from by omega]
 exact atI_nat (zxx h)
theorem nP_length {w : Str} {b n : Int} {ns : List Int} : (nP w b n ns).length = ns.length := by unfold nP; split <;> simp
theorem nR_length {w : Str} {b n : Int} {ns : List Int} : (nR w b n ns).length = ns.length := by unfold nR; split <;> simp
theorem set_at {ps : List Int} {k : Nat} {x : Int} (h : k < ps.length) : (ps.set k x).getD k 0 = x := by
 rw [List.getD_eq_getElem?_getD, List.getElem?_set_self h]; rfl
theorem sayNo : (decide (V.str "say" = V.str "put") = false) ∧ (decide (V.str "say" = V.str "raise") = false) ∧ (decide (V.str "say" = V.str "skip") = false) ∧ (decide (V.str "say" = V.str "same") = false) := by decide +kernel
noncomputable def spMv : Sp := fun vs H Q _ => ∃ bx dss ps ns vh vst, ∃ k : Nat, ∃ d, vs = [vh, vst, .int (k : Int)] ∧ At H bx dss ps ns vh vst ∧ k < dss.length ∧ cur dss ps k = some d ∧ ∀ v H', Same H H' → Is H' (tt (ps.set k (ps.getD k 0 + 1 + aftP d ns)) (aftN d ns)) v → Q v H'
theorem sc_moved : FnScope ["house", "stand", "hand", "deed", "places", "numbers"] ["house", "stand", "hand"] (defScope s_moved) := ⟨rfl, rfl, rfl, by decide +kernel, rfl, by decide +kernel, by decide +kernel⟩
theorem ok_moved (D : Def K mg "moved" s_moved) (T : Txt K mg) (o1 : Ok P w K mg base "next_deed" 1 ["house", "stand", "hand"] spNd) : Ok P w K mg base "moved" 2 ["house", "stand", "hand"] spMv := by
 refine mkOk D sc_moved (fun _ _ _ _ _ _ us hl => (match us, hl with | [_, _, _], _ => rfl)) (fun vs H Q E ⟨_, _, _, _, _, _, _, _, e, _⟩ => by rw [e]; rfl) fun f cdv A outer s H vs Q E hr h => ?_
 obtain ⟨bx, dss, ps, ns, vh, vst, k, d, rfl, A, hk, hcur, kk⟩ := h
 have nd := sc_moved.nd
 have hkp : k < ps.length := by rw [A.sd.lp]; exact hk
 refine ⟨_, zqb (zqq (i := 3) nd rfl (Or.inl rfl) (zqp o1 hr (zqa (pv 0) (zqa (pv 1) (zqa (pv 2) zqc)))))
  (zqb (zqq (i := 4) nd rfl (Or.inl rfl) (zq1 zxq rfl T.list bt_list (zqa (zqn zqo (pv 1) (zqx T.PLACES) (fun _ _ => rfl)) zqc)))
  (zqb (zqq (i := 5) nd rfl (Or.inl rfl) (zq1 zxq rfl T.list bt_list (zqa (zqn zqo (pv 1) (zqx T.NUMBERS) (fun _ _ => rfl)) zqc)))
  (zqb (ps_augS (pv 4) (pv 2) get_list zqd ip_add zxi)
  (zqb (zqv (zql zq4 (zqn zqo (pv 3) zqd (fun _ _ => rfl)) zqm (nomark _)) (zqe (ps_asg (zqn zqo (pv 3) zqd (fun _ _ => rfl)) (pg_sub (pv 5) (zqn zqo (pv 3) zqd (fun _ _ => rfl)) zxi))) zqi)
  (zqb (zqv (zql zq4 (zqn zqo (pv 3) zqd (fun _ _ => rfl)) zqm (nomark _)) (zqe (ps_asg (zqt zxk (zqt zq7 (zqn zqu (pv 5) (zqn zqo (pv 3) zqd (fun _ _ => rfl)) (fun _ _ => rfl)) (zqn zqo (pv 3) zqd (fun _ _ => rfl))) (zqt zq7 (zqx T.MOST_NUMBER) zqd)) (pg_sub (pv 5) (zqn zqo (pv 3) zqd (fun _ _ => rfl)) zxi))) zqi)
  (zqb (zqv (PW.pt (zxv (zql zq4 (zqn zqo (pv 3) zqd (fun _ _ => rfl)) zqm (nomark _)) (zxm (zql zq4 (zqn zqu (pv 5) (zqn zqo (pv 3) zqd (fun _ _ => rfl)) (fun _ _ => rfl)) (zqn zqo (pv 3) zqd (fun _ _ => rfl)) (nomark _))))) (zqe (ps_augS (pv 4) (pv 2) get_list (zqn zqo (pv 3) zqd (fun _ _ => rfl)) ip_add zxi)) zqi)
  (zqe (zqh (pe_tup (zqa (zq1 zq5 rfl T.tuple zxb (zqa (pv 4) zqc)) (zqa (zq1 zq5 rfl T.tuple zxb (zqa (pv 5) zqc)) zqc))))))))))), ?_⟩
 refine ⟨_, rfl, _, rfl, _, rfl, bx, dss, ps, ns, _, _, k, rfl, A, hk, fun e => (by rw [hcur] at e; cases e), fun d' v e iv => ?_⟩
 rw [hcur] at e
 cases e
 obtain ⟨c, p, q, e1, hc, hp, hq⟩ := s_open A.is
 refine ⟨_, rfl, c, _, _, _, e1, rfl, SqT.of hc, rfl, p, _, rfl, .inr (SqT.of hp), fun lp hlp => ?_⟩
 have s1 := Same.new hlp (.lst (ps.map V.int))
 have g1 : upd H lp (.lst (ps.map V.int)) lp = some (.lst (ps.map V.int)) := upd_same
 generalize hH0 : upd H lp (.lst (ps.map V.int)) = H0 at s1 g1 ⊢
 refine ⟨_, rfl, c, _, _, _, e1, rfl, SqT.of (s1 _ _ hc), rfl, q, _, rfl, .inr (SqT.of (s1 _ _ hq)), fun ln hln => ?_⟩
 have t0 : Two H lp ln (upd H0 ln (.lst (ns.map V.int))) ps ns := by
  have hn : H ln = none := by
   cases z : H ln with
   | none => rfl
   | some o => rw [s1 _ _ z] at hln; cases hln
  have ne : lp ≠ ln := fun z => by rw [← z, g1] at hln; cases hln
  exact ⟨s1.trans (Same.new hln _), hlp, hn, ne, by rw [zqf ne]; exact g1, upd_same⟩
 generalize upd H0 ln (.lst (ns.map V.int)) = H1 at t0 ⊢
 refine ⟨_, rfl, _, rfl, lp, _, _, .int (ps.getD k 0), rfl, rfl, by omega, SqL.of t0.p, (by rw [Int.toNat_natCast]; exact zxx hkp), _, _, rfl, rfl, lp, _, _, k, rfl, rfl, t0.p, (by rw [List.length_map]; exact ixN_nat hkp), ?_⟩
 rw [int_set]
 have t1 : Two H lp ln (upd H1 lp (.lst ((ps.set k (ps.getD k 0 + 1)).map V.int))) (ps.set k (ps.getD k 0 + 1)) ns := t0.setP
 generalize upd H1 lp (.lst ((ps.set k (ps.getD k 0 + 1)).map V.int)) = H1 at t1 ⊢
 cases d with
 | say x =>
   obtain ⟨ad, rfl, had⟩ := d_say iv
   dsimp only [gName, tSeq, tAsg, tC, tNext]
   have hd1 := t1.s _ _ had
   refine ⟨_, rfl, ad, _, _, _, rfl, rfl, SqT.of hd1, at0, rfl, _, rfl, ?_⟩
   rw [sayNo.1]
   refine iteF ?_
   refine ⟨_, rfl, ad, _, _, _, rfl, rfl, SqT.of hd1, at0, rfl, _, rfl, ?_⟩
   rw [sayNo.2.1]
   refine iteF ?_
   refine ⟨_, rfl, ad, _, _, _, rfl, rfl, SqT.of hd1, at0, rfl, _, rfl, ?_⟩
   rw [sayNo.2.2.1]
   refine iteF (iteF ?_)
   have e0 : ps.getD k 0 + 1 + aftP (.say x) ns = ps.getD k 0 + 1 := Int.add_zero _
   have t4 := t1
   rw [e0] at kk
   refine ⟨_, rfl, lp, _, rfl, .inl ⟨SqL.of t4.p, fun l7 hl7 => ?_⟩⟩
   have s7 := Same.new hl7 (.tup ((ps.set k (ps.getD k 0 + 1)).map V.int))
   have g7 : upd H1 l7 (.tup ((ps.set k (ps.getD k 0 + 1)).map V.int)) l7 = some (.tup ((ps.set k (ps.getD k 0 + 1)).map V.int)) := upd_same
   have n7 := s7 _ _ t4.n
   generalize upd H1 l7 (.tup ((ps.set k (ps.getD k 0 + 1)).map V.int)) = H7 at s7 g7 n7 ⊢
   refine ⟨_, rfl, ln, _, rfl, .inl ⟨SqL.of n7, fun l8 hl8 => ?_⟩⟩
   have s8 := Same.new hl8 (.tup ((ns).map V.int))
   have g8 : upd H7 l8 (.tup ((ns).map V.int)) l8 = some (.tup ((ns).map V.int)) := upd_same
   generalize upd H7 l8 (.tup ((ns).map V.int)) = H8 at s8 g8 ⊢
   refine ⟨(by show 2 ≤ sizeLine; decide), fun l9 hl9 => ?_⟩
   exact kk _ _ (t4.s.trans (s7.trans (s8.trans (Same.new hl9 _)))) (s_close (s8 _ _ g7) g8 hl9)
 | act w b n r =>
   obtain ⟨ad, vs, rfl, had, ivs⟩ := d_act iv
   obtain ⟨b0, b1, hsk⟩ := cur_in A.hd hcur
   have hbn : b.toNat < ns.length := by rw [A.sd.ln]; omega
   dsimp only [gName, tSeq, tAsg, tC, tNext]
   refine with_nx (t := tIfS _ _ _) (fun σ' H' => σ' = [some vh, some vst, some (.int (k : Int)), some (.ref ad), some (.ref lp), some (.ref ln)] ∧ Two H lp ln H' (ps.set k (ps.getD k 0 + 1)) (nP w b n ns)) ?_ (fun fin => ?_)
   rotate_left
   · have hd1 := t1.s _ _ had
     refine ⟨_, rfl, ad, _, _, _, rfl, rfl, SqT.of hd1, at0, rfl, _, rfl, ite2 (fun z => ?_) (fun z => ?_)⟩
     · refine ⟨_, rfl, ad, _, _, _, rfl, rfl, SqT.of hd1, at2, _, rfl, _, rfl, ad, _, _, _, rfl, rfl, SqT.of hd1, at1, ln, _, _, _, rfl, rfl, t1.n, ixN_at b0 hbn, fin _ _ ⟨rfl, ?_⟩⟩
       rw [show nP w b n ns = ns.set b.toNat n from if_pos z, int_set]
       exact t1.setN
     · refine fin _ _ ⟨rfl, ?_⟩
       rw [show nP w b n ns = ns from if_neg z]
       exact t1
   rintro σ' H2 ⟨rfl, t2⟩
   have hbn2 : b.toNat < (nP w b n ns).length := by rw [nP_length]; exact hbn
   dsimp only [gName, tSeq, tAsg, tC, tNext]
   refine with_nx (t := tIfS _ _ _) (fun σ' H' => σ' = [some vh, some vst, some (.int (k : Int)), some (.ref ad), some (.ref lp), some (.ref ln)] ∧ Two H lp ln H' (ps.set k (ps.getD k 0 + 1)) (nR w b n (nP w b n ns))) ?_ (fun fin => ?_)
   rotate_left
   · have hd1 := t2.s _ _ had
     refine ⟨_, rfl, ad, _, _, _, rfl, rfl, SqT.of hd1, at0, rfl, _, rfl, ite2 (fun z => ?_) (fun z => ?_)⟩
     · refine ⟨_, rfl, _, rfl, ad, _, _, _, rfl, rfl, SqT.of hd1, at1, ln, _, _, _, rfl, rfl, SqL.of t2.n, atI_at b0 hbn2, _, rfl, ad, _, _, _, rfl, rfl, SqT.of hd1, at2, _, _, rfl, rfl, _, _, rfl, rfl, _, _, rfl, rfl, (by show (0 : Int) < _; decide), ?_⟩
       refine ⟨_, rfl, _, rfl, ad, _, _, _, rfl, rfl, SqT.of hd1, at1, ln, _, _, _, rfl, rfl, t2.n, ixN_at b0 hbn2, fin _ _ ⟨rfl, ?_⟩⟩
       rw [show nR w b n (nP w b n ns) = (nP w b n ns).set b.toNat (((nP w b n ns).getD b.toNat 0 + n) % 10) from if_pos z, int_set]
       exact t2.setN
     · refine fin _ _ ⟨rfl, ?_⟩
       rw [show nR w b n (nP w b n ns) = nP w b n ns from if_neg z]
       exact t2
   rintro σ' H3 ⟨rfl, t3⟩
   have hbn3 : b.toNat < (nR w b n (nP w b n ns)).length := by rw [nR_length]; exact hbn2
   dsimp only [gName, tSeq, tAsg, tC, tNext]
   refine with_nx (t := tIfS _ _ _) (fun σ' H' => σ' = [some vh, some vst, some (.int (k : Int)), some (.ref ad), some (.ref lp), some (.ref ln)] ∧ Two H lp ln H' (ps.set k (ps.getD k 0 + 1 + pS w b n r (nR w b n (nP w b n ns)))) (nR w b n (nP w b n ns))) ?_ (fun fin => ?_)
   rotate_left
   · have hd1 := t3.s _ _ had
     have no : (wEq w "skip" && iEq ((nR w b n (nP w b n ns)).getD b.toNat 0) n) = false → Two H lp ln H3 (ps.set k (ps.getD k 0 + 1 + pS w b n r (nR w b n (nP w b n ns)))) (nR w b n (nP w b n ns)) := fun z => by
      unfold pS
      rw [z, if_neg (by decide), Int.add_zero]
      exact t3
     refine ⟨_, rfl, ad, _, _, _, rfl, rfl, SqT.of hd1, at0, rfl, _, rfl, ite2 (fun z => ?_) (fun z => ?_)⟩
     · refine ⟨_, rfl, _, rfl, ad, _, _, _, rfl, rfl, SqT.of hd1, at1, ln, _, _, _, rfl, rfl, SqL.of t3.n, atI_at b0 hbn3, _, rfl, ad, _, _, _, rfl, rfl, SqT.of hd1, at2, rfl, _, rfl, ite2 (fun z2 => ?_) (fun z2 => ?_)⟩
       · obtain ⟨m, hm, er⟩ := hsk z
         subst er
         obtain ⟨v3, q3, rfl, i3, hnil⟩ := ivs
         cases (show q3 = [] from hnil)
         cases (show v3 = .int m from i3)
         have hkk : k < (ps.set k (ps.getD k 0 + 1)).length := by rw [List.length_set]; exact hkp
         have eS : pS w b n [.int m] (nR w b n (nP w b n ns)) = m := by
          unfold pS
          rw [if_pos (by rw [Bool.and_eq_true]; exact ⟨z, z2⟩)]
          rfl
         rw [eS] at fin
         refine ⟨_, rfl, _, rfl, lp, _, _, .int ((ps.set k (ps.getD k 0 + 1)).getD k 0), rfl, rfl, by omega, SqL.of t3.p, (by rw [Int.toNat_natCast]; exact zxx hkk), _, rfl, ad, _, _, _, rfl, rfl, SqT.of hd1, at3, _, _, rfl, rfl, lp, _, _, k, rfl, rfl, t3.p, (by rw [List.length_map]; exact ixN_nat hkk), fin _ _ ⟨rfl, ?_⟩⟩
         rw [int_set, List.set_set, set_at hkp]
         exact t3.setP
       · refine fin _ _ ⟨rfl, no ?_⟩
         rw [Bool.and_eq_false_iff]
         exact .inr (by simpa using z2)
     · refine iteF (fin _ _ ⟨rfl, no ?_⟩)
       rw [Bool.and_eq_false_iff]
       exact .inl (by simpa using z)
   rintro σ' H4 ⟨rfl, t4⟩
   refine ⟨_, rfl, lp, _, rfl, .inl ⟨SqL.of t4.p, fun l7 hl7 => ?_⟩⟩
   have s7 := Same.new hl7 (.tup ((ps.set k (ps.getD k 0 + 1 + pS w b n r (nR w b n (nP w b n ns)))).map V.int))
   have g7 : upd H4 l7 (.tup ((ps.set k (ps.getD k 0 + 1 + pS w b n r (nR w b n (nP w b n ns)))).map V.int)) l7 = some (.tup ((ps.set k (ps.getD k 0 + 1 + pS w b n r (nR w b n (nP w b n ns)))).map V.int)) := upd_same
   have n7 := s7 _ _ t4.n
   generalize upd H4 l7 (.tup ((ps.set k (ps.getD k 0 + 1 + pS w b n r (nR w b n (nP w b n ns)))).map V.int)) = H7 at s7 g7 n7 ⊢
   refine ⟨_, rfl, ln, _, rfl, .inl ⟨SqL.of n7, fun l8 hl8 => ?_⟩⟩
   have s8 := Same.new hl8 (.tup ((nR w b n (nP w b n ns)).map V.int))
   have g8 : upd H7 l8 (.tup ((nR w b n (nP w b n ns)).map V.int)) l8 = some (.tup ((nR w b n (nP w b n ns)).map V.int)) := upd_same
   generalize upd H7 l8 (.tup ((nR w b n (nP w b n ns)).map V.int)) = H8 at s8 g8 ⊢
   refine ⟨(by show 2 ≤ sizeLine; decide), fun l9 hl9 => ?_⟩
   exact kk _ _ (t4.s.trans (s7.trans (s8.trans (Same.new hl9 _)))) (s_close (s8 _ _ g7) g8 hl9)
end
end My
namespace L2
open PySem PySem.Spec PyProof.Rows
noncomputable def rSlTu : V → Option Int → Option Int → Hp → VK → Prop := fun x lo hi H Q => ∃ ts, Is H (.tup ts) x ∧ ∀ v H', Same H H' → Is H' (.tup (cutG ts lo hi)) v → Q v H'
theorem sl_is {X : Cx} : SlR X rSlTu := by
 intro pins s σ H x v vl vu lo hi sl Q I rx hs pl pu h
 obtain ⟨ts, hi', q⟩ := h
 exact sl_tr (S := fun _ => False) pins s σ H x v vl vu lo hi sl Q I rx hs pl pu ⟨ts, hi'.off0, fun b z => z.elim, fun v H' s' i => q v H' s' i.off⟩
theorem cut_to {α : Type} (xs : List α) (k : Nat) : cutG xs none (some (k : Int)) = xs.take k := by
 unfold cutG
 rw [HT.sIx_none, HT.sIx_nat, List.drop_zero, Nat.sub_zero, ← List.take_take, List.take_length]
theorem cut_mid {α : Type} (xs : List α) (i m : Nat) : cutG xs (some (i : Int)) (some ((i : Int) + (m : Int))) = (xs.drop i).take m := by
 unfold cutG
 rw [show (i : Int) + (m : Int) = ((i + m : Nat) : Int) from by omega, HT.sIx_nat, HT.sIx_nat]
 by_cases h : i ≤ xs.length
 · rw [Nat.min_eq_left h]
   have e : min (i + m) xs.length - i = min m (xs.drop i).length := by rw [List.length_drop]; omega
   rw [e, ← List.take_take, List.take_length]
 · rw [List.drop_eq_nil_of_le (show xs.length ≤ min i xs.length by omega), List.drop_eq_nil_of_le (show xs.length ≤ i by omega), List.take_nil, List.take_nil]
end L2
namespace My
open PySem PySem.Spec PyProof.Rows L2
abbrev s_said_in : Stmt := top 12
abbrev s_skips : Stmt := top 36
abbrev s_isWall : Stmt := top 37
abbrev s_needL : Stmt := top 25
abbrev s_needW : Stmt := top 38
theorem Same.none {H H' : Hp} {l : Addr} (s : Same H H') (h : H' l = none) : H l = none := by
 cases z : H l with
 | none => rfl
 | some o => rw [s _ _ z] at h; cases h
noncomputable def spSi : Sp := fun vs H Q _ => ∃ (v : V) (ds : List Dd), vs = [v] ∧ Is H (scT ds) v ∧ (∀ d ∈ ds, d.NS) ∧ ds.length ≤ 1000 ∧ ∀ l H', Same H H' → H l = none → H' l = some (.lst ((saysT (ds.map Dd.t)).map V.str)) → Q (.ref l) H'
noncomputable def spSk : Sp := fun vs H Q _ => ∃ (v : V) (ds : List Dd) (bx : Int), vs = [v] ∧ Is H (scT ds) v ∧ (∀ d ∈ ds, d.NS) ∧ (∀ d ∈ ds, d.In bx) ∧ ds.length ≤ 30 ∧ Nsk (ds.map Dd.t) ∧ ∀ H', Same H H' → Q (.bl false) H'
theorem says_take {ds : List Dd} {i : Nat} {d : Dd} (h : ds[i]? = some d) : saysT ((ds.take (i + 1)).map Dd.t) = saysT ((ds.take i).map Dd.t) ++ (sayOf d.t).toList := by
 rw [List.take_add_one, h, List.map_append, saysT_append]
 congr 1
theorem says_len (ts : List T) : (saysT ts).length ≤ ts.length := List.length_filterMap_le ..
section
variable {P : Program} {w : World} {K : PySem.W.Frag} {mg : Str → Option Value} {base : Heap}
theorem sc_said_in : FnScope ["deeds"] ["deeds"] (defScope s_said_in) := ⟨rfl, rfl, rfl, by decide +kernel, rfl, by decide +kernel, by decide +kernel⟩
theorem ok_said_in (D : Def K mg "said_in" s_said_in) (T : Txt K mg) : Ok P w K mg base "said_in" 1 ["deeds"] spSi := by
 refine mkOk D sc_said_in (fun _ _ _ _ _ _ us hl => (match us, hl with | [_], _ => rfl)) (fun vs H Q E ⟨_, _, e, _⟩ => by rw [e]; rfl) fun f cdv A outer s H vs Q E hr h => ?_
 obtain ⟨v, ds, rfl, iv, hns, hl, kk⟩ := h
 refine ⟨_, zqe (zqh (zxl (own := ["deed"]) (cap := []) rfl (lcScope (defScope s_said_in) rfl rfl (by decide +kernel) (by decide +kernel) (by decide +kernel) trivial) (pi_tup (pv 0))
  (fun _ _ _ _ => pg_name (i := 0) (by show (["deed"] : List Str).Nodup; decide +kernel) rfl (Or.inl rfl)) (fun _ _ _ _ => pif_one (zql zq4 (zqn (r := rIxT K) zqo (pv 0) zqd (fun _ _ => rfl)) zqm (nomark _))) (fun _ _ _ _ => zqn (r := rIxT K) zqo (pv 0) zqd (fun _ _ => rfl)))), ?_⟩
 obtain ⟨a, xs, rfl, ha, hx⟩ := iv
 have hxl := hx.length
 rw [List.length_map] at hxl
 refine ⟨_, rfl, a, rfl, ⟨xs, SqT.of ha⟩, ?_⟩
 refine lc_tup (xs := xs) (fun i ys H' => Same H H' ∧ ys = (saysT ((ds.take i).map Dd.t)).map V.str) ⟨Same.refl H, rfl⟩ (fun i ys H' hi ⟨s4, e⟩ => ⟨SqT.of (s4 _ _ ha), ?_⟩) ?_ ?_
 · rw [e, List.length_map]
   refine Nat.le_trans (says_len _) ?_
   rw [List.length_map]
   exact zqr (Nat.le_trans (List.length_take_le _ _) (by omega))
 · rintro i z ys H' hz ⟨s4, rfl⟩
   have hi : i < ds.length := by rw [← hxl]; exact (List.getElem?_eq_some_iff.mp hz).1
   have ed : ds[i]? = some ds[i] := List.getElem?_eq_getElem hi
   obtain ⟨t, et, it⟩ := hx.get' hz
   rw [List.getElem?_map, ed] at et
   cases et
   have it := it.mono s4
   rw [says_take ed]
   have hn := hns ds[i] (List.getElem_mem hi)
   generalize ds[i] = d at it hn ⊢
   cases d with
   | say x =>
     obtain ⟨ad, rfl, had⟩ := d_say it
     refine ⟨_, rfl, ad, _, _, _, rfl, rfl, SqT.of had, at0, rfl, _, rfl, ?_⟩
     refine ite2 (fun _ => ?_) (fun z => absurd (by decide +kernel) z)
     exact ⟨_, rfl, ad, _, _, _, rfl, rfl, SqT.of had, at1, s4, by rw [List.map_append]; rfl⟩
   | act w b n r =>
     obtain ⟨ad, vs, rfl, had, _⟩ := d_act it
     have hn : wEq w "say" = false := hn
     refine ⟨_, rfl, ad, _, _, _, rfl, rfl, SqT.of had, at0, rfl, _, rfl, ?_⟩
     refine ite2 (fun z => absurd z (by rw [show decide (V.str w = V.str "say") = false from hn]; decide)) (fun _ => ⟨s4, ?_⟩)
     rw [show (sayOf (Dd.act w b n r).t).toList = [] from rfl, List.append_nil]
 · rintro ys H' ⟨s4, rfl⟩ l hl'
   rw [hxl, List.take_length]
   exact kk l _ (s4.trans (Same.new hl' _)) (Same.none s4 hl') upd_same
theorem sc_skips : FnScope ["script", "place", "deed"] ["script"] (defScope s_skips) := ⟨rfl, rfl, rfl, by decide +kernel, rfl, by decide +kernel, by decide +kernel⟩
theorem ok_skips (D : Def K mg "skips_a_say" s_skips) (T : Txt K mg) (o1 : Ok P w K mg base "said_in" 1 ["deeds"] spSi) : Ok P w K mg base "skips_a_say" 2 ["script"] spSk := by
 refine mkOk D sc_skips (fun _ _ _ _ _ _ us hl => (match us, hl with | [_], _ => rfl)) (fun vs H Q E ⟨_, _, _, e, _⟩ => by rw [e]; rfl) fun f cdv A outer s H vs Q E hr h => ?_
 obtain ⟨v, ds, bx, rfl, iv, hns, hin, hl, hnk, kk⟩ := h
 have nd := sc_skips.nd
 refine ⟨_, zqb (ps_for PassesOwn.never rfl (pi_enum rfl T.enumerate (zqa (pv 0) zqc)) (pg_tup rfl (pgs_cons (pg_name (i := 1) nd rfl (Or.inl rfl)) (pgs_cons (pg_name (i := 2) nd rfl (Or.inl rfl)) zxn)))
   (zqe (zqv (PW.pt (zxv (zql zq4 (zqn zqo (pv 2) zqd (fun _ _ => rfl)) zqm (nomark _)) (zxm (pt_truth (zqp o1 hr (zqa (pe_slice sl_is (pv 0) (po_some (zqt zq7 (pv 1) zqd)) (po_some (zqt zq7 (zqt zq7 (pv 1) zqd) (zqn zqo (pv 2) zqd (fun _ _ => rfl))))) zqc)) (fun _ => rfl))))) (zqe zxr) zqi)))
  (zqe (zqh zq9)), ?_⟩
 have iv0 := iv
 obtain ⟨a, xs, rfl, ha, hx⟩ := iv
 have hxl := hx.length
 rw [List.length_map] at hxl
 refine ⟨_, rfl, a, xs, rfl, SqT.of ha, ?_⟩
 refine for_enum (K := K) (a := a) (xs := xs) (fun i σ H' => ∃ nv sv, σ = [some (.ref a), nv, sv] ∧ Same H H') ⟨none, none, rfl, Same.refl H⟩ (fun i σ H' _ ⟨_, _, _, s2⟩ => SqT.of (s2 _ _ ha)) ?_ ?_
 · rintro i z σ H' p hz ⟨nv, sv, rfl, s1⟩ hp
   have hi : i < ds.length := by rw [← hxl]; exact (List.getElem?_eq_some_iff.mp hz).1
   have ed : ds[i]? = some ds[i] := List.getElem?_eq_getElem hi
   obtain ⟨t, et, it⟩ := hx.get' hz
   rw [List.getElem?_map, ed] at et
   cases et
   have s2 := Same.new hp (.tup [.int i, z])
   have gp : upd H' p (.tup [.int i, z]) p = some (.tup [.int i, z]) := upd_same
   generalize upd H' p (.tup [.int i, z]) = H2 at s2 gp ⊢
   have s12 := s1.trans s2
   have it := it.mono s12
   have hk := hnk i ds[i].t (by rw [List.getElem?_map, ed]; rfl)
   have hD := hin ds[i] (List.getElem_mem hi)
   refine ⟨p, _, rfl, SqT.of gp, rfl, _, _, rfl, _, _, rfl, rfl, ?_⟩
   generalize ds[i] = d at it hk hD ⊢
   cases d with
   | say x =>
     obtain ⟨ad, rfl, had⟩ := d_say it
     refine ⟨_, rfl, ad, _, _, _, rfl, rfl, SqT.of had, at0, rfl, _, rfl, ?_⟩
     rw [sayNo.2.2.1]
     exact iteF (iteF ⟨_, _, rfl, s12⟩)
   | act w b n r =>
     obtain ⟨ad, vs, rfl, had, ivs⟩ := d_act it
     refine ⟨_, rfl, ad, _, _, _, rfl, rfl, SqT.of had, at0, rfl, _, rfl, ite2 (fun z => ?_) (fun z => iteF ⟨_, _, rfl, s12⟩)⟩
     obtain ⟨m, hm, rfl⟩ := hD.2.2 z
     obtain ⟨v3, q3, rfl, i3, hnil⟩ := ivs
     cases (show q3 = [] from hnil)
     cases (show v3 = .int m from i3)
     refine ⟨_, rfl, _, rfl, _, _, rfl, rfl, _, rfl, _, rfl, _, _, rfl, rfl, _, rfl, ad, _, _, _, rfl, rfl, SqT.of had, at3, _, _, rfl, rfl, _, rfl, ds.map Dd.t, iv0.mono s12, fun u H3 s3 iu => ?_⟩
     have ec : cutG (ds.map Dd.t) (some ((i : Int) + 1)) (some ((i : Int) + 1 + m)) = ((ds.drop (i + 1)).take m.toNat).map Dd.t := by
      rw [show (i : Int) + 1 = ((i + 1 : Nat) : Int) from by omega, show m = ((m.toNat : Nat) : Int) from by omega, cut_mid, Int.toNat_natCast, List.map_take, List.map_drop]
     rw [ec] at iu
     refine ⟨u, _, rfl, iu, fun d hd => hns d (List.mem_of_mem_drop (List.mem_of_mem_take hd)), ?_, fun l H4 s4 hn4 hl4 => ?_⟩
     · rw [List.length_take, List.length_drop]; omega
     have e0 : saysT (((ds.drop (i + 1)).take m.toNat).map Dd.t) = [] := by
      rw [List.map_take, List.map_drop]; exact hk
     rw [e0] at hl4
     refine ⟨_, .inl ⟨_, SqL.of hl4, rfl⟩, iteF ⟨_, _, rfl, s12.trans (s3.trans s4)⟩⟩
 · rintro σ H' ⟨nv, sv, rfl, s1⟩
   exact kk _ s1
end
end My
namespace L2
open PySem PySem.Spec PyProof.Rows
theorem IsL.strs {H : Hp} : ∀ {xs : List Str}, IsL H (xs.map T.str) (xs.map V.str)
 | [] => rfl
 | x :: r => ⟨_, _, rfl, rfl, IsL.strs⟩
end L2
namespace My
open PySem PySem.Spec PyProof.Rows L2
abbrev s_times : Stmt := top 39
noncomputable def wT (p : Int) : T := .lst ((cgo (2 * p).toNat).map L2.T.str)
theorem wT_ok {p : Int} (h0 : 0 ≤ p) (h2 : p ≤ 3) : (toD (wT p)).canLay0 = true ∧ (toD (wT p)).depth ≤ 20 ∧ PyData.eqv (toD (wT p)) (toD (wT p)) = true ∧ (List.replicate p.toNat [V.str "come", V.str "go"]).flatten = (cgo (2 * p).toNat).map V.str := by
 have : p = 0 ∨ p = 1 ∨ p = 2 ∨ p = 3 := by omega
 rcases this with rfl | rfl | rfl | rfl
 · exact ⟨by kernel_rfl, by decide +kernel, by kernel_rfl, by rfl⟩
 · exact ⟨by kernel_rfl, by decide +kernel, by kernel_rfl, by rfl⟩
 · exact ⟨by kernel_rfl, by decide +kernel, by kernel_rfl, by rfl⟩
 · exact ⟨by kernel_rfl, by decide +kernel, by kernel_rfl, by rfl⟩
noncomputable def spLw : Sp := fun vs H Q _ => ∃ (vh : V) (bx p : Int) (dss : List (List Dd)), vs = [vh, .int p] ∧ HD bx dss ∧ WD p dss ∧ Is H (hT bx dss) vh ∧ ∀ H', Same H H' → Q (.bl true) H'
noncomputable def spNo : Sp := fun vs H Q _ => ∃ (vh : V) (bx : Int) (dss : List (List Dd)), vs = [vh] ∧ HD bx dss ∧ Is H (hT bx dss) vh ∧ ∀ H', Same H H' → Q .non H'
noncomputable def spNw : Sp := fun vs H Q _ => ∃ (vh : V) (bx p : Int) (dss : List (List Dd)), vs = [vh, .int p] ∧ HD bx dss ∧ WD p dss ∧ Is H (hT bx dss) vh ∧ ∀ H', Same H H' → Q .non H'
noncomputable def sayT (x : Str) : T := .tup [.str "say", .str x]
noncomputable def isS (x : Str) (d : Dd) : Bool := PyData.eqv (toD d.t) (toD (sayT x))
noncomputable def cntS (x : Str) (ds : List Dd) (p : Int) : Nat := (ds.take p.toNat).countP (isS x)
noncomputable def tms (x : Str) (dss : List (List Dd)) (ps : List Int) : List Int := (List.range dss.length).map fun k => ((cntS x (dss.getD k []) (ps.getD k 0) : Nat) : Int)
noncomputable def spTs : Sp := fun vs H Q _ => ∃ bx dss ps ns vh vst x, vs = [vh, vst, .str x] ∧ At H bx dss ps ns vh vst ∧ (toD (sayT x)).canLay0 = true ∧ (toD (sayT x)).depth ≤ 20 ∧ ∀ l H', Same H H' → H' l = some (.lst ((tms x dss ps).map V.int)) → Q (.ref l) H'
noncomputable def cntTE (K : PySem.W.Frag) : TE := tBMt rCntT (tVar 0) (tCons (tTup (tCons (tC (.str "say")) (tCons (tVar 1) tNil))) tNil)
section
variable {P : Program} {w : World} {K : PySem.W.Frag} {mg : Str → Option Value} {base : Heap}
theorem sc_isWall : FnScope ["house", "p", "wanted"] ["house", "p"] (defScope s_isWall) := ⟨rfl, rfl, rfl, by decide +kernel, rfl, by decide +kernel, by decide +kernel⟩
theorem ok_isWall (D : Def K mg "is_loose_wall" s_isWall) (T : Txt K mg) (o1 : Ok P w K mg base "is_within" 2 ["thing", "least", "most"] spWi) (o2 : Ok P w K mg base "said_in" 1 ["deeds"] spSi) (o3 : Ok P w K mg base "skips_a_say" 2 ["script"] spSk) : Ok P w K mg base "is_loose_wall" 3 ["house", "p"] spLw := by
 refine mkOk D sc_isWall (fun _ _ _ _ _ _ us hl => (match us, hl with | [_, _], _ => rfl)) (fun vs H Q E ⟨_, _, _, _, e, _⟩ => by rw [e]; rfl) fun f cdv A outer s H vs Q E hr h => ?_
 obtain ⟨vh, bx, p, dss, rfl, hd, hw, ih, kk⟩ := h
 have nd := sc_isWall.nd
 have r1 := hr.mono (show 1 ≤ 2 by decide)
 refine ⟨_, zqb (zqv (zq3 (zqy (zqp o1 hr (zqa (pv 1) (zqa zqd (zqa (zqx T.MOST_PHASES) zqc)))))) (zqe zxr) zqi)
  (zqb (zqq (i := 2) nd rfl (Or.inr rfl) (zqt op_rep (pe_lst (zqa zqm (zqa zqm zqc))) (pv 1)))
  (zqe (zqh (zqk (zq8 rfl) rfl T.all bt_all (zqa (zxl (own := ["script"]) (cap := [2]) rfl (lcScope (defScope s_isWall) rfl rfl (by decide +kernel) (by decide +kernel) (by decide +kernel) ⟨⟨_, rfl, .inl rfl, noLoc rfl⟩, trivial⟩) (pi_tup (zqn zqo (pv 0) (zqx T.SCRIPTS) (fun _ _ => rfl)))
   (fun _ _ _ _ => pg_name (i := 0) (by show (["script", "wanted"] : List Str).Nodup; decide +kernel) rfl (Or.inl rfl)) (fun _ _ _ _ => zq2)
   (fun _ _ _ _ => zxp (zq0 (op_eqTr hr.units) (zqp o2 r1 (zqa (pv 0) zqc)) (pv 1) (nomark _)) (zxj (pe_not (zqp o3 hr (zqa (pv 0) zqc)))))) zqc))))), ?_⟩
 have p0 := hw.p0
 have p2 := hw.p2
 obtain ⟨w1, w2, w3, w4⟩ := wT_ok p0 p2
 refine ⟨_, rfl, .int p, _, 0, _, rfl, rfl, fun H1 s1 => ⟨_, rfl, ?_⟩⟩
 rw [zq6 p0 (by omega)]
 refine iteF ⟨by show 2 ≤ sizeLine; decide, fun l1 hl1 => ?_⟩
 have s2 := Same.new hl1 (.lst [.str "come", .str "go"])
 have g2 : upd H1 l1 (.lst [.str "come", .str "go"]) l1 = some (.lst [.str "come", .str "go"]) := upd_same
 generalize upd H1 l1 (.lst [.str "come", .str "go"]) = H2 at s2 g2 ⊢
 refine ⟨_, rfl, l1, _, _, rfl, rfl, g2, by omega, by omega, by show 2 * p.toNat ≤ sizeLine; exact zqr (by omega), fun l3 hl3 => ?_⟩
 rw [w4]
 have s3 := Same.new hl3 (.lst ((cgo (2 * p).toNat).map V.str))
 have g3 : upd H2 l3 (.lst ((cgo (2 * p).toNat).map V.str)) l3 = some (.lst ((cgo (2 * p).toNat).map V.str)) := upd_same
 generalize upd H2 l3 (.lst ((cgo (2 * p).toNat).map V.str)) = H3 at s3 g3 ⊢
 have s03 := s1.trans (s2.trans s3)
 obtain ⟨a, as, ss, e0, ha, has, hl, hn⟩ := h_open (ih.mono s03)
 have n4 := hd.n4
 refine ⟨_, rfl, a, _, _, _, e0, rfl, SqT.of ha, rfl, as, rfl, ⟨ss, SqT.of has⟩, ?_⟩
 refine lc_tup (xs := ss) (fun i ys H' => Same H3 H' ∧ ys = (List.replicate i true).map V.bl) ⟨Same.refl H3, rfl⟩ (fun i ys H' hi ⟨s4, e⟩ => ⟨SqT.of (s4 _ _ has), by rw [e, List.length_map, List.length_replicate]; exact zqr (by omega)⟩) ?_ ?_
 · rintro i z ys H' hz ⟨s4, rfl⟩
   refine gIf0 ?_
   have hi : i < dss.length := by rw [← hn]; exact (List.getElem?_eq_some_iff.mp hz).1
   obtain ⟨t, et, it⟩ := hl.get' hz
   rw [List.getElem?_map, List.getElem?_eq_getElem hi] at et
   cases et
   have hm := List.getElem_mem hi
   have h1 := hd.ns _ hm
   have h2 := hd.each _ hm
   have h3 := hd.few _ hm
   have h4 := hw.says _ hm
   have h5 := hw.nsk _ hm
   generalize dss[i] = ds at it h1 h2 h3 h4 h5
   refine ⟨_, rfl, z, ds, rfl, it.mono s4, h1, by omega, fun l5 H5 s5 n5 g5 => ?_⟩
   rw [h4] at g5
   have s35 := s4.trans s5
   refine ⟨_, rfl, wT p, wT p, ⟨l5, _, rfl, g5, IsL.strs⟩, ⟨l3, _, rfl, s35 _ _ g3, IsL.strs⟩, w1, w1, w2, _, rfl, ?_⟩
   rw [show id (PyData.eqv (toD (wT p)) (toD (wT p))) = true from w3]
   refine iteT ⟨_, rfl, z, ds, bx, rfl, it.mono s35, h1, h2, h3, h5, fun H6 s6 => ⟨_, rfl, s35.trans s6, ?_⟩⟩
   rw [List.replicate_succ', List.map_append]
   rfl
 · rintro ys H' ⟨s4, rfl⟩ l hl'
   have s5 := Same.new hl' (.lst ((List.replicate ss.length true).map V.bl))
   refine ⟨l, _, rfl, SqL.of upd_same, ?_⟩
   have e : (List.replicate ss.length true).all id = true := by simp
   rw [e]
   exact kk _ (s03.trans (s4.trans s5))
theorem sc_needL : FnScope ["thing"] ["thing"] (defScope s_needL) := ⟨rfl, rfl, rfl, by decide +kernel, rfl, by decide +kernel, by decide +kernel⟩
theorem ok_needL (D : Def K mg "need_loose" s_needL) (T : Txt K mg) (o1 : Ok P w K mg base "is_loose" 5 ["thing"] (spB1 Wh mLoose)) : Ok P w K mg base "need_loose" 6 ["thing"] spNo := by
 refine mkOk D sc_needL (fun _ _ _ _ _ _ us hl => (match us, hl with | [_], _ => rfl)) (fun vs H Q E ⟨_, _, _, e, _⟩ => by rw [e]; rfl) fun f cdv A outer s H vs Q E hr h => ?_
 obtain ⟨vh, bx, dss, rfl, hd, ih, kk⟩ := h
 refine ⟨_, zqe (zqv (zq3 (zqy (zqp o1 hr (zqa (pv 0) zqc)))) (zqe zxr) zqi), ?_⟩
 refine ⟨_, rfl, _, vh, rfl, ih, hd.wh, fun H1 s1 => ⟨_, rfl, ?_⟩⟩
 rw [hd.good]
 exact iteF (kk H1 s1)
theorem sc_needW : FnScope ["house", "p"] ["house", "p"] (defScope s_needW) := ⟨rfl, rfl, rfl, by decide +kernel, rfl, by decide +kernel, by decide +kernel⟩
theorem ok_needW (D : Def K mg "need_loose_wall" s_needW) (T : Txt K mg) (o1 : Ok P w K mg base "need_loose" 6 ["thing"] spNo) (o2 : Ok P w K mg base "is_loose_wall" 3 ["house", "p"] spLw) : Ok P w K mg base "need_loose_wall" 7 ["house", "p"] spNw := by
 refine mkOk D sc_needW (fun _ _ _ _ _ _ us hl => (match us, hl with | [_, _], _ => rfl)) (fun vs H Q E ⟨_, _, _, _, e, _⟩ => by rw [e]; rfl) fun f cdv A outer s H vs Q E hr h => ?_
 obtain ⟨vh, bx, p, dss, rfl, hd, hw, ih, kk⟩ := h
 refine ⟨_, zqb (ps_expr (zqp o1 hr (zqa (pv 0) zqc)))
  (zqe (zqv (zq3 (zqy (zqp o2 (hr.mono (show 3 ≤ 6 by decide)) (zqa (pv 0) (zqa (pv 1) zqc))))) (zqe zxr) zqi)), ?_⟩
 refine ⟨_, rfl, vh, bx, dss, rfl, hd, ih, fun H1 s1 => ?_⟩
 exact ⟨_, rfl, _, rfl, vh, bx, p, dss, rfl, hd, hw, ih.mono s1, fun H2 s2 => ⟨_, rfl, iteF (kk H2 (s1.trans s2))⟩⟩
theorem sc_times : FnScope ["house", "stand", "word", "done"] ["house", "stand", "word"] (defScope s_times) := ⟨rfl, rfl, rfl, by decide +kernel, rfl, by decide +kernel, by decide +kernel⟩
theorem ok_times (D : Def K mg "times_said" s_times) (T : Txt K mg) : Ok P w K mg base "times_said" 1 ["house", "stand", "word"] spTs := by
 refine mkOk D sc_times (fun _ _ _ _ _ _ us hl => (match us, hl with | [_, _, _], _ => rfl)) (fun vs H Q E ⟨_, _, _, _, _, _, _, e, _⟩ => by rw [e]; rfl) fun f cdv A outer s H vs Q E hr h => ?_
 obtain ⟨bx, dss, ps, ns, vh, vst, x, rfl, A, lx, dx, kk⟩ := h
 have nd := sc_times.nd
 refine ⟨_, zqb (ps_lc (i := 3) (own := ["script", "place"]) (cap := []) (g := gTup K 2 (gCons (gName 0) (gCons (gName 1) gNil))) rfl (lcScope (defScope s_times) rfl rfl (by decide +kernel) (by decide +kernel) (by decide +kernel) trivial)
   (pi_zip rfl T.zip (zqa (zqn zqo (pv 0) (zqx T.SCRIPTS) (fun _ _ => rfl)) (zqa (zqn zqo (pv 1) (zqx T.PLACES) (fun _ _ => rfl)) zqc)))
   (fun _ _ _ _ => pg_tup rfl (pgs_cons (pg_name (i := 0) (by show (["script", "place"] : List Str).Nodup; decide +kernel) rfl (Or.inl rfl)) (pgs_cons (pg_name (i := 1) (by show (["script", "place"] : List Str).Nodup; decide +kernel) rfl (Or.inl rfl)) zxn))) (fun _ _ _ _ => zq2)
   (fun _ _ _ _ => pe_slice sl_is (pv 0) po_none (po_some (pv 1))) nd rfl rfl (by with_unfolding_all rfl))
  (zqe (zqh (zxl (own := ["deeds"]) (cap := [2]) rfl (lcScope (defScope s_times) rfl rfl (by decide +kernel) (by decide +kernel) (by decide +kernel) ⟨⟨_, rfl, .inl rfl, noLoc rfl⟩, trivial⟩) (te := cntTE K) (zxf (pv 3))
   (fun _ _ _ _ => pg_name (i := 0) (by show (["deeds", "word"] : List Str).Nodup; decide +kernel) rfl (Or.inl rfl)) (fun _ _ _ _ => zq2)
   (fun _ _ _ _ => pe_bmT PySem.F.slot_tuple_count PySem.F.type_tuple_count (r := rCntT) (mt_countT (by exact hr.units)) (pv 0) (zqa (pe_tup (zqa zqm (zqa (pv 1) zqc))) zqc))))), ?_⟩
 obtain ⟨a, as, ss, e0, ha, has, hl, hn⟩ := h_open A.ih
 obtain ⟨c, p, q, e1, hc, hp, hq⟩ := s_open A.is
 have n4 := A.hd.n4
 have lp := A.sd.lp
 refine ⟨_, rfl, a, _, _, _, e0, rfl, SqT.of ha, rfl, _, rfl, c, _, _, _, e1, rfl, SqT.of hc, rfl, as, p, ss, _, rfl, has, hp, ?_⟩
 refine lc_zip (by rw [List.length_map, hn, lp]) (fun i ys H' => Same H H' ∧ IsL H' ((List.range i).map fun k => scT ((dss.getD k []).take (ps.getD k 0).toNat)) ys) ⟨Same.refl H, rfl⟩ (fun i ys H' hi ⟨s4, h4⟩ => ⟨s4 _ _ has, s4 _ _ hp, by rw [h4.length, List.length_map, List.length_range]; exact zqr (by omega)⟩) ?_ ?_
 · rintro i x1 z1 ys H' r hx hz ⟨s1, h1⟩ hr'
   have hi : i < dss.length := by rw [← hn]; exact (List.getElem?_eq_some_iff.mp hx).1
   have hip : i < ps.length := by omega
   rw [zxx hip] at hz
   cases hz
   obtain ⟨b, xs, eb, hb, hxs, hxn⟩ := sc_at hl hi
   rw [eb] at hx
   cases hx
   have s2 := Same.new hr' (.tup [.ref b, .int (ps.getD i 0)])
   have gr : upd H' r (.tup [.ref b, .int (ps.getD i 0)]) r = some (.tup [.ref b, .int (ps.getD i 0)]) := upd_same
   generalize upd H' r (.tup [.ref b, .int (ps.getD i 0)]) = H2 at s2 gr ⊢
   have s02 := s1.trans s2
   have h0 := getD_nn A.sd.p0 i
   refine ⟨r, _, rfl, SqT.of gr, rfl, _, _, rfl, _, _, rfl, rfl, ?_⟩
   refine if0 ?_
   refine ⟨_, rfl, _, rfl, _, rfl, (dss.getD i []).map Dd.t, ⟨b, xs, rfl, s02 _ _ hb, hxs.mono s02⟩, fun u H3 s3 iu => ?_⟩
   rw [show ps.getD i 0 = (((ps.getD i 0).toNat : Nat) : Int) from by omega, cut_to, ← List.map_take] at iu
   refine ⟨s02.trans s3, ?_⟩
   rw [List.range_succ, List.map_append]
   exact IsL.append (h1.mono (s2.trans s3)) (IsL.one iu)
 rintro ys H1 ⟨s1, h1⟩ l1 hl1
 have s2 := Same.new hl1 (.lst ys)
 have g2 : upd H1 l1 (.lst ys) l1 = some (.lst ys) := upd_same
 have h2 := h1.mono s2
 generalize upd H1 l1 (.lst ys) = H2 at s2 g2 h2 ⊢
 have hyl := h2.length
 rw [List.length_map, List.length_range, hn] at hyl
 refine ⟨_, rfl, l1, rfl, ⟨ys, SqL.of g2⟩, ?_⟩
 refine lc_list (xs := ys) (fun i zs H' => Same H2 H' ∧ zs = ((List.range i).map fun k => ((cntS x (dss.getD k []) (ps.getD k 0) : Nat) : Int)).map V.int) ⟨Same.refl H2, rfl⟩ (fun i zs H' hi ⟨s4, e⟩ => ⟨SqL.of (s4 _ _ g2), by rw [e, List.length_map, List.length_map, List.length_range]; exact zqr (by omega)⟩) ?_ ?_
 · rintro i z zs H' hz ⟨s3, rfl⟩
   refine gIf0 ?_
   have hi : i < dss.length := by rw [← hyl]; exact (List.getElem?_eq_some_iff.mp hz).1
   obtain ⟨t, et, it⟩ := h2.get' hz
   rw [List.getElem?_map, List.getElem?_range (by omega)] at et
   cases et
   have it3 := it.mono s3
   obtain ⟨b, xs, rfl, hb, hxs⟩ := it3
   refine ⟨_, rfl, ⟨b, xs, rfl, hb⟩, _, rfl, by show 2 ≤ sizeLine; decide, fun r hr' => ?_⟩
   have s5 := Same.new hr' (.tup [.str "say", .str x])
   have i5 : Is (upd H' r (.tup [.str "say", .str x])) (sayT x) (.ref r) := Is.newTup hr' (IsL.two rfl rfl)
   generalize upd H' r (.tup [.str "say", .str x]) = H5 at s5 i5 ⊢
   have hm : dss.getD i [] ∈ dss := by rw [List.getD_eq_getElem?_getD, List.getElem?_eq_getElem hi]; exact List.getElem_mem hi
   refine ⟨_, sayT x, _, rfl, ⟨b, xs, rfl, s5 _ _ hb, hxs.mono s5⟩, i5, fun t ht => ?_, lx, dx, s3.trans s5, ?_⟩
   · obtain ⟨d, hd', rfl⟩ := List.mem_map.mp ht
     exact A.hd.lay _ hm d (List.mem_of_mem_take hd')
   · rw [List.countP_map, List.range_succ, List.map_append, List.map_append]
     rfl
 · rintro zs H' ⟨s3, rfl⟩ l hl'
   rw [hyl]
   exact kk l _ ((s1.trans s2).trans (s3.trans (Same.new hl' _))) upd_same
abbrev s_earlyGo : Stmt := top 40
abbrev s_doneAll : Stmt := top 42
abbrev s_stopsP : Stmt := top 43
abbrev s_standBy : Stmt := top 45
abbrev s_isEarly : Stmt := top 49
abbrev s_isStuck : Stmt := top 50
theorem bt_min : bootBuiltins "min" = some (.builtin "min") := by decide +kernel
theorem sayT_go : (toD (sayT "go")).canLay0 = true ∧ (toD (sayT "go")).depth ≤ 20 := ⟨by kernel_rfl, by decide +kernel⟩
theorem sayT_come : (toD (sayT "come")).canLay0 = true ∧ (toD (sayT "come")).depth ≤ 20 := ⟨by kernel_rfl, by decide +kernel⟩
noncomputable def mEg (dss : List (List Dd)) (ps : List Int) (k : Nat) (d : Dd) : Bool := isS "go" d && (tms "come" dss ps).any fun c => decide (c ≤ (tms "go" dss ps).getD k 0)
noncomputable def lens (dss : List (List Dd)) : List Int := dss.map fun ds => (ds.length : Int)
noncomputable def mStp (dss : List (List Dd)) (ps ns : List Int) : Bool := decide (V.int ((due dss ps ns).length : Int) = V.int 0) && !decide (ps = lens dss)
noncomputable def mRun (dss : List (List Dd)) : List Int → List Int → List Int → Option (List Int × List Int)
 | ps, ns, [] => some (ps, ns)
 | ps, ns, h :: r => match mStep dss ps ns h with
   | none => none
   | some (qs, ms) => mRun dss qs ms r
noncomputable def eAt (dss : List (List Dd)) (ps ns : List Int) (h : Int) : Bool := match mStep dss ps ns h, cur dss ps h.toNat with
 | some _, some d => mEg dss ps h.toNat d
 | _, _ => false
noncomputable def mEarly (bx : Int) (dss : List (List Dd)) (ws : List Int) : Bool := match ws.reverse with
 | [] => false
 | h :: r => match mRun dss (zs dss.length) (zs bx.toNat) r.reverse with
   | none => false
   | some (ps, ns) => eAt dss ps ns h
noncomputable def mStuck (bx : Int) (dss : List (List Dd)) (ws : List Int) : Bool := match mRun dss (zs dss.length) (zs bx.toNat) ws with
 | none => false
 | some (ps, ns) => mStp dss ps ns
theorem mEarly_app {bx : Int} {dss : List (List Dd)} {us : List Int} {h : Int} : mEarly bx dss (us ++ [h]) = match mRun dss (zs dss.length) (zs bx.toNat) us with
  | none => false
  | some (ps, ns) => eAt dss ps ns h := by
 unfold mEarly
 rw [List.reverse_append]
 show (match mRun dss (zs dss.length) (zs bx.toNat) us.reverse.reverse with
  | none => false
  | some (ps, ns) => eAt dss ps ns h) = _
 rw [List.reverse_reverse]
theorem tms_length {x : Str} {dss : List (List Dd)} {ps : List Int} : (tms x dss ps).length = dss.length := by unfold tms; rw [List.length_map, List.length_range]
noncomputable def spEg : Sp := fun vs H Q _ => ∃ bx dss ps ns vh vst, ∃ k : Nat, ∃ d, vs = [vh, vst, .int (k : Int)] ∧ At H bx dss ps ns vh vst ∧ k < dss.length ∧ cur dss ps k = some d ∧ ∀ H', Same H H' → Q (.bl (mEg dss ps k d)) H'
noncomputable def spDa : Sp := fun vs H Q _ => ∃ bx dss ps ns vh vst, vs = [vh, vst] ∧ At H bx dss ps ns vh vst ∧ ∀ H', Same H H' → Q (.bl (decide (ps = lens dss))) H'
noncomputable def spSp2 : Sp := fun vs H Q _ => ∃ bx dss ps ns vh vst, vs = [vh, vst] ∧ At H bx dss ps ns vh vst ∧ ∀ H', Same H H' → Q (.bl (mStp dss ps ns)) H'
noncomputable def spSb : Sp := fun vs H Q _ => ∃ bx dss vh l, ∃ ws : List Int, vs = [vh, .ref l] ∧ HD bx dss ∧ Is H (hT bx dss) vh ∧ H l = some (.lst (ws.map V.int)) ∧ (mRun dss (zs dss.length) (zs bx.toNat) ws = none → ∀ H', Same H H' → Q .non H') ∧
 ∀ ps ns v H', mRun dss (zs dss.length) (zs bx.toNat) ws = some (ps, ns) → Same H H' → At H' bx dss ps ns vh v → Q v H'
noncomputable def spEa : Sp := fun vs H Q _ => ∃ bx p dss vh l, ∃ ws : List Int, vs = [vh, .int p, .ref l] ∧ HD bx dss ∧ WD p dss ∧ Is H (hT bx dss) vh ∧ H l = some (.lst (ws.map V.int)) ∧ ∀ H', Same H H' → Q (.bl (mEarly bx dss ws)) H'
noncomputable def spSu : Sp := fun vs H Q _ => ∃ bx dss vh l, ∃ ws : List Int, vs = [vh, .ref l] ∧ HD bx dss ∧ Is H (hT bx dss) vh ∧ H l = some (.lst (ws.map V.int)) ∧ ∀ H', Same H H' → Q (.bl (mStuck bx dss ws)) H'
theorem getD_mem {dss : List (List Dd)} {i : Nat} (hi : i < dss.length) : dss.getD i [] ∈ dss := by rw [List.getD_eq_getElem?_getD, List.getElem?_eq_getElem hi]; exact List.getElem_mem hi
theorem cur_lay {bx : Int} {dss : List (List Dd)} {ps : List Int} {k : Nat} {d : Dd} (h : HD bx dss) (hk : k < dss.length) (e : cur dss ps k = some d) : (toD d.t).canLay0 = true := by
 unfold cur at e
 exact h.lay _ (getD_mem hk) d (List.mem_of_getElem? e)
theorem sc_earlyGo : FnScope ["house", "stand", "hand"] ["house", "stand", "hand"] (defScope s_earlyGo) := ⟨rfl, rfl, rfl, by decide +kernel, rfl, by decide +kernel, by decide +kernel⟩
theorem ok_earlyGo (D : Def K mg "is_early_go" s_earlyGo) (T : Txt K mg) (o1 : Ok P w K mg base "next_deed" 1 ["house", "stand", "hand"] spNd) (o2 : Ok P w K mg base "times_said" 1 ["house", "stand", "word"] spTs) : Ok P w K mg base "is_early_go" 2 ["house", "stand", "hand"] spEg := by
 refine mkOk D sc_earlyGo (fun _ _ _ _ _ _ us hl => (match us, hl with | [_, _, _], _ => rfl)) (fun vs H Q E ⟨_, _, _, _, _, _, _, _, e, _⟩ => by rw [e]; rfl) fun f cdv A outer s H vs Q E hr h => ?_
 obtain ⟨bx, dss, ps, ns, vh, vst, k, d, rfl, A, hk, hcur, kk⟩ := h
 refine ⟨_, zqb (zqv (zql (op_neTrR hr.units) (zqp o1 hr (zqa (pv 0) (zqa (pv 1) (zqa (pv 2) zqc)))) (pe_tup (zqa zqm (zqa zqm zqc))) (nomark _)) (zqe (zqh zq9)) zqi)
  (zqe (zqh (zq0 op_ge (zqn zqu (zqp o2 hr (zqa (pv 0) (zqa (pv 1) (zqa zqm zqc)))) (pv 2) (fun _ _ => rfl)) (zqk (call_minL rfl) rfl T.min bt_min (zqa (zqp o2 hr (zqa (pv 0) (zqa (pv 1) (zqa zqm zqc)))) zqc)) (nomark _)))), ?_⟩
 have n1 := A.hd.n1
 refine ⟨_, rfl, _, rfl, _, rfl, bx, dss, ps, ns, vh, vst, k, rfl, A, hk, fun e => (by rw [hcur] at e; cases e), fun d' v e iv => ?_⟩
 rw [hcur] at e
 cases e
 refine ⟨by show 2 ≤ sizeLine; decide, fun r hr' => ?_⟩
 have s1 := Same.new hr' (.tup [.str "say", .str "go"])
 have i1 : Is (upd H r (.tup [.str "say", .str "go"])) (sayT "go") (.ref r) := Is.newTup hr' (IsL.two rfl rfl)
 generalize upd H r (.tup [.str "say", .str "go"]) = H1 at s1 i1 ⊢
 refine ⟨d.t, sayT "go", iv.mono s1, i1, cur_lay A.hd hk hcur, sayT_go.1, sayT_go.2, _, rfl, ?_⟩
 have q := kk
 unfold mEg isS at q
 cases c : PyData.eqv (toD d.t) (toD (sayT "go")) with
 | false =>
   rw [c, Bool.false_and] at q
   exact iteT (q H1 s1)
 | true =>
   rw [c, Bool.true_and] at q
   refine iteF ⟨_, rfl, _, rfl, bx, dss, ps, ns, vh, vst, "go", rfl, A.same s1, sayT_go.1, sayT_go.2, fun l2 H2 s2 g2 => ?_⟩
   have hkl : k < (tms "go" dss ps).length := by rw [tms_length]; exact hk
   refine ⟨_, rfl, l2, _, _, _, rfl, rfl, SqL.of g2, atI_nat (zxx hkl), ?_⟩
   refine ⟨_, rfl, _, rfl, bx, dss, ps, ns, vh, vst, "come", rfl, A.same (s1.trans s2), sayT_come.1, sayT_come.2, fun l3 H3 s3 g3 => ?_⟩
   refine ⟨l3, _, rfl, SqL.of g3, fun z => ?_, fun m hm hmin => ⟨_, _, rfl, rfl, ?_⟩⟩
   · have : (tms "come" dss ps).length = 0 := by rw [z]; rfl
     rw [tms_length] at this
     omega
   · have e : decide (m ≤ (tms "go" dss ps).getD k 0) = (tms "come" dss ps).any fun c => decide (c ≤ (tms "go" dss ps).getD k 0) := by
      rw [Bool.eq_iff_iff, List.any_eq_true, decide_eq_true_eq]
      constructor
      · intro h; exact ⟨m, hm, decide_eq_true h⟩
      · rintro ⟨c, hc, h⟩
        have := hmin c hc
        have := of_decide_eq_true h
        omega
     show Q (.bl (decide (m ≤ (tms "go" dss ps).getD k 0))) H3
     rw [e]
     exact q H3 (s1.trans (s2.trans s3))
theorem sc_doneAll : FnScope ["house", "stand"] ["house", "stand"] (defScope s_doneAll) := ⟨rfl, rfl, rfl, by decide +kernel, rfl, by decide +kernel, by decide +kernel⟩
theorem ok_doneAll (D : Def K mg "has_done_all" s_doneAll) (T : Txt K mg) : Ok P w K mg base "has_done_all" 1 ["house", "stand"] spDa := by
 refine mkOk D sc_doneAll (fun _ _ _ _ _ _ us hl => (match us, hl with | [_, _], _ => rfl)) (fun vs H Q E ⟨_, _, _, _, _, _, e, _⟩ => by rw [e]; rfl) fun f cdv A outer s H vs Q E hr h => ?_
 obtain ⟨bx, dss, ps, ns, vh, vst, rfl, A, kk⟩ := h
 refine ⟨_, zqe (zqh (zq0 (op_eqTr hr.units) (zq1 zxq rfl T.list bt_list (zqa (zqn zqo (pv 1) (zqx T.PLACES) (fun _ _ => rfl)) zqc))
  (zxl (own := ["script"]) (cap := []) rfl (lcScope (defScope s_doneAll) rfl rfl (by decide +kernel) (by decide +kernel) (by decide +kernel) trivial) (pi_tup (zqn zqo (pv 0) (zqx T.SCRIPTS) (fun _ _ => rfl)))
   (fun _ _ _ _ => pg_name (i := 0) (by show (["script"] : List Str).Nodup; decide +kernel) rfl (Or.inl rfl)) (fun _ _ _ _ => zq2) (fun _ _ _ _ => zqk (r := rLen K) zqj (by rfl) T.len zqz (zqa (pv 0) zqc))) (nomark _))), ?_⟩
 obtain ⟨a, as, ss, e0, ha, has, hl, hn⟩ := h_open A.ih
 obtain ⟨c, p, q, e1, hc, hp, hq⟩ := s_open A.is
 have n4 := A.hd.n4
 refine ⟨_, rfl, c, _, _, _, e1, rfl, SqT.of hc, rfl, p, _, rfl, .inr (SqT.of hp), fun l1 hl1 => ?_⟩
 have s1 := Same.new hl1 (.lst (ps.map V.int))
 have g1 : upd H l1 (.lst (ps.map V.int)) l1 = some (.lst (ps.map V.int)) := upd_same
 generalize upd H l1 (.lst (ps.map V.int)) = H1 at s1 g1 ⊢
 refine ⟨_, rfl, a, _, _, _, e0, rfl, SqT.of (s1 _ _ ha), rfl, as, rfl, ⟨ss, SqT.of (s1 _ _ has)⟩, ?_⟩
 refine lc_tup (xs := ss) (fun i ys H' => Same H1 H' ∧ ys = ((lens dss).take i).map V.int) ⟨Same.refl H1, rfl⟩ (fun i ys H' hi ⟨s4, e⟩ => ⟨SqT.of (s4 _ _ (s1 _ _ has)), ?_⟩) ?_ ?_
 · rw [e, List.length_map]
   exact zqr (Nat.le_trans (List.length_take_le _ _) (by omega))
 · rintro i z ys H' hz ⟨s4, rfl⟩
   refine gIf0 ?_
   have hi : i < dss.length := by rw [← hn]; exact (List.getElem?_eq_some_iff.mp hz).1
   obtain ⟨b, xs, eb, hb, hxs, hxn⟩ := sc_at hl hi
   rw [eb] at hz
   cases hz
   refine ⟨_, rfl, b, xs, rfl, .inr (SqT.of (s4 _ _ (s1 _ _ hb))), s4, ?_⟩
   have eg : (lens dss)[i]? = some (xs.length : Int) := by
    unfold lens
    rw [List.getElem?_map, List.getElem?_eq_getElem hi, hxn, List.getD_eq_getElem?_getD, List.getElem?_eq_getElem hi]
    rfl
   rw [List.take_add_one, eg, List.map_append]
   rfl
 · rintro ys H' ⟨s4, rfl⟩ l hl'
   have s5 := Same.new hl' (.lst (((lens dss).take ss.length).map V.int))
   have g5 : upd H' l (.lst (((lens dss).take ss.length).map V.int)) l = some (.lst (((lens dss).take ss.length).map V.int)) := upd_same
   generalize upd H' l (.lst (((lens dss).take ss.length).map V.int)) = H5 at s5 g5 ⊢
   have el : (lens dss).take ss.length = lens dss := by
    rw [hn, List.take_of_length_le]
    unfold lens
    rw [List.length_map]
    exact Nat.le_refl _
   rw [el] at g5
   refine ⟨.lst (iT ps), .lst (iT (lens dss)), ⟨l1, _, rfl, s5 _ _ (s4 _ _ g1), IsL.ints.mpr rfl⟩, ⟨l, _, rfl, g5, IsL.ints.mpr rfl⟩, lay_lst _, lay_lst _, depth_lst _, ?_⟩
   rw [show id (PyData.eqv (toD (.lst (iT ps))) (toD (.lst (iT (lens dss))))) = decide (ps = lens dss) from eqv_lst _ _]
   exact kk _ (s1.trans (s4.trans s5))
theorem sc_stopsP : FnScope ["house", "stand"] ["house", "stand"] (defScope s_stopsP) := ⟨rfl, rfl, rfl, by decide +kernel, rfl, by decide +kernel, by decide +kernel⟩
theorem ok_stopsP (D : Def K mg "stops" s_stopsP) (T : Txt K mg) (o1 : Ok P w K mg base "going" 4 ["house", "stand"] spGo) (o2 : Ok P w K mg base "has_done_all" 1 ["house", "stand"] spDa) : Ok P w K mg base "stops" 5 ["house", "stand"] spSp2 := by
 refine mkOk D sc_stopsP (fun _ _ _ _ _ _ us hl => (match us, hl with | [_, _], _ => rfl)) (fun vs H Q E ⟨_, _, _, _, _, _, e, _⟩ => by rw [e]; rfl) fun f cdv A outer s H vs Q E hr h => ?_
 obtain ⟨bx, dss, ps, ns, vh, vst, rfl, A, kk⟩ := h
 refine ⟨_, zqe (zqh (zxp (zq0 zq4 (zqk zqj (by rfl) T.len zqz (zqa (zqp o1 hr (zqa (pv 0) (zqa (pv 1) zqc))) zqc)) zqd (nomark _)) (zxj (pe_not (zqp o2 (hr.mono (show 1 ≤ 4 by decide)) (zqa (pv 0) (zqa (pv 1) zqc))))))), ?_⟩
 refine ⟨_, rfl, _, rfl, bx, dss, ps, ns, vh, vst, rfl, A, fun l H1 s1 hn g1 => ?_⟩
 refine ⟨l, _, rfl, .inl (SqL.of g1), rfl, _, rfl, ?_⟩
 have q := kk
 unfold mStp at q
 rw [List.length_map]
 refine ite2 (fun z => ?_) (fun z => ?_)
 · rw [z, Bool.true_and] at q
   exact ⟨_, rfl, _, rfl, bx, dss, ps, ns, vh, vst, rfl, A.same s1, fun H2 s2 => ⟨_, rfl, q H2 (s1.trans s2)⟩⟩
 · have z : decide (V.int ((due dss ps ns).length : Int) = V.int 0) = false := by simpa using z
   rw [z, Bool.false_and] at q
   exact q H1 s1
theorem kit_list : PySem.W.kitOne K (.type "list") (.type "list") = some true := by kernel_rfl
theorem ty_list {H : Hp} {l : Addr} {ws : List Int} (h : H l = some (.lst (ws.map V.int))) : TyOf K H (.ref l) (.type "list") := (show Is H (.lst (iT ws)) (.ref l) from ⟨l, _, rfl, h, IsL.ints.mpr rfl⟩).ty
theorem sc_standBy : FnScope ["house", "weaving", "stand", "hand"] ["house", "weaving"] (defScope s_standBy) := ⟨rfl, rfl, rfl, by decide +kernel, rfl, by decide +kernel, by decide +kernel⟩
theorem ok_standBy (D : Def K mg "stand_by" s_standBy) (T : Txt K mg) (o1 : Ok P w K mg base "at_first" 1 ["house"] spFi) (o2 : Ok P w K mg base "may_go_on" 3 ["house", "stand", "hand"] spMg) (o3 : Ok P w K mg base "moved" 2 ["house", "stand", "hand"] spMv) : Ok P w K mg base "stand_by" 4 ["house", "weaving"] spSb := by
 refine mkOk D sc_standBy (fun _ _ _ _ _ _ us hl => (match us, hl with | [_, _], _ => rfl)) (fun vs H Q E ⟨_, _, _, _, _, e, _⟩ => by rw [e]; rfl) fun f cdv A outer s H vs Q E hr h => ?_
 obtain ⟨bx, dss, vh, l, ws, rfl, hd, ih, hl, k1, k2⟩ := h
 have nd := sc_standBy.nd
 refine ⟨_, zqb (zqv (zq3 (zqy (zxw T.isi T.list bt_list (pv 1)))) (zqe zxr) zqi)
  (zqb (zqq (i := 2) nd rfl (Or.inl rfl) (zqp o1 (hr.mono (show 1 ≤ 3 by decide)) (zqa (pv 0) zqc)))
  (zqb (ps_for PassesOwn.never rfl (zxf (pv 1)) (pg_name (i := 3) nd rfl (Or.inl rfl))
   (zqb (zqv (zq3 (zqy (zqp o2 hr (zqa (pv 0) (zqa (pv 2) (zqa (pv 3) zqc)))))) (zqe (zqh pe_non)) zqi)
   (zqe (zqq (i := 2) nd rfl (Or.inl rfl) (zqp o3 (hr.mono (show 2 ≤ 3 by decide)) (zqa (pv 0) (zqa (pv 2) (zqa (pv 3) zqc))))))))
  (zqe (zqh (pv 2))))), ?_⟩
 refine ⟨_, rfl, _, "list", _, _, rfl, ty_list hl, kit_list, _, rfl, iteF ?_⟩
 refine ⟨_, rfl, bx, dss, vh, rfl, hd, ih, fun v0 H0 s0 i0 => ?_⟩
 refine ⟨_, rfl, l, rfl, ⟨_, SqL.of (s0 _ _ hl)⟩, ?_⟩
 refine for_list (xs := ws.map V.int) (fun i σ H' => ∃ ps ns v x3, σ = [some vh, some (.ref l), some v, x3] ∧ Same H H' ∧ mRun dss (zs dss.length) (zs bx.toNat) ws = mRun dss ps ns (ws.drop i) ∧ At H' bx dss ps ns vh v) ⟨_, _, v0, none, rfl, s0, rfl, ⟨hd, SD.first, ih.mono s0, i0⟩⟩ (fun i σ H' _ ⟨_, _, _, _, _, s', _⟩ => SqL.of (s' _ _ hl)) ?_ ?_
 · rintro i x σ H1 hx ⟨ps, ns, v, x3, rfl, s1, er, A1⟩
   have hi : i < ws.length := by rw [← List.length_map (f := V.int)]; exact (List.getElem?_eq_some_iff.mp hx).1
   rw [List.getElem?_map, List.getElem?_eq_getElem hi] at hx
   cases hx
   have ed : ws.drop i = ws[i] :: ws.drop (i + 1) := List.drop_eq_getElem_cons hi
   rw [ed] at er
   generalize ws[i] = h at er
   refine ⟨_, rfl, _, rfl, _, rfl, bx, dss, ps, ns, vh, v, h, rfl, A1, fun H2 s2 => ⟨_, rfl, ?_⟩⟩
   cases e : mStep dss ps ns h with
   | none =>
     refine iteT (k1 ?_ H2 (s1.trans s2))
     rw [er]
     unfold mRun
     rw [e]
   | some q =>
     obtain ⟨qs, ms⟩ := q
     obtain ⟨k, d, rfl, hk, e1, e2, e3⟩ := zxe e
     cases e3
     have er2 : mRun dss (zs dss.length) (zs bx.toNat) ws = mRun dss (ps.set k (ps.getD k 0 + 1 + aftP d ns)) (aftN d ns) (ws.drop (i + 1)) := by
      rw [er]
      conv => lhs; unfold mRun
      rw [e]
     have A2 := A1.same s2
     refine iteF ⟨_, rfl, _, rfl, _, rfl, bx, dss, ps, ns, vh, v, k, d, rfl, A2, hk, e1, fun u H3 s3 iu => ?_⟩
     exact ⟨_, _, u, _, rfl, s1.trans (s2.trans s3), er2, ⟨hd, A1.sd.step hd e, A2.ih.mono s3, iu⟩⟩
 · rintro σ H1 ⟨ps, ns, v, x3, rfl, s1, er, A1⟩
   rw [List.length_map, List.drop_length] at er
   exact ⟨_, rfl, k2 ps ns v H1 (by rw [er]; rfl) s1 A1⟩
theorem tt_ref {H : Hp} {ps ns : List Int} {v : V} (h : Is H (tt ps ns) v) : v ≠ .non := by
 obtain ⟨a, p, q, rfl, _⟩ := s_open h
 exact fun z => by cases z
theorem sc_isEarly : FnScope ["house", "p", "weaving", "stand"] ["house", "p", "weaving"] (defScope s_isEarly) := ⟨rfl, rfl, rfl, by decide +kernel, rfl, by decide +kernel, by decide +kernel⟩
theorem cut_last (us : List V) (h : V) : cutV (us ++ [h]) none (some (-1)) = us := by
 unfold cutV
 rw [HT.sIx_none, List.drop_zero, Nat.sub_zero]
 have e : HT.sIx (us ++ [h]).length (us ++ [h]).length (some (-1)) = us.length := by
  have := HT.clip_eq (-1) (us ++ [h]).length (us ++ [h]).length
  rw [if_pos (by decide), List.length_append, List.length_singleton] at this
  rw [List.length_append, List.length_singleton]
  omega
 rw [e, List.take_left']
 rfl
theorem ok_isEarly (D : Def K mg "is_early" s_isEarly) (T : Txt K mg) (o1 : Ok P w K mg base "need_loose_wall" 7 ["house", "p"] spNw) (o2 : Ok P w K mg base "stand_by" 4 ["house", "weaving"] spSb) (o3 : Ok P w K mg base "may_go_on" 3 ["house", "stand", "hand"] spMg) (o4 : Ok P w K mg base "is_early_go" 2 ["house", "stand", "hand"] spEg) : Ok P w K mg base "is_early" 8 ["house", "p", "weaving"] spEa := by
 refine mkOk D sc_isEarly (fun _ _ _ _ _ _ us hl => (match us, hl with | [_, _, _], _ => rfl)) (fun vs H Q E ⟨_, _, _, _, _, _, e, _⟩ => by rw [e]; rfl) fun f cdv A outer s H vs Q E hr h => ?_
 obtain ⟨bx, p, dss, vh, l, ws, rfl, hd, hw, ih, hl, kk⟩ := h
 have nd := sc_isEarly.nd
 refine ⟨_, zqb (ps_expr (zqp o1 hr (zqa (pv 0) (zqa (pv 1) zqc))))
  (zqb (zqv (PW.pt (pw_or (zq3 (zqy (zxw T.isi T.list bt_list (pv 2)))) (zxh (zql zq4 (zqk zqj (by rfl) T.len zqz (zqa (pv 2) zqc)) zqd (nomark _))))) (zqe (zqh zq9)) zqi)
  (zqb (zqq (i := 3) nd rfl (Or.inl rfl) (zqp o2 (hr.mono (show 4 ≤ 7 by decide)) (zqa (pv 0) (zqa (pe_slice sl_list (pv 2) po_none (po_some (pe_un un_neg zqd))) zqc))))
  (zqb (zqv (PW.pt (pw_or (zql op_isN (pv 3) pe_non (nomark _)) (zxh (zq3 (zqy (zqp o3 (hr.mono (show 3 ≤ 7 by decide)) (zqa (pv 0) (zqa (pv 3) (zqa (zqn zqu (pv 2) (pe_un un_neg zqd) (fun _ _ => rfl)) zqc))))))))) (zqe (zqh zq9)) zqi)
  (zqe (zqh (zqp o4 (hr.mono (show 2 ≤ 7 by decide)) (zqa (pv 0) (zqa (pv 3) (zqa (zqn zqu (pv 2) (pe_un un_neg zqd) (fun _ _ => rfl)) zqc))))))))), ?_⟩
 refine ⟨_, rfl, _, rfl, vh, bx, p, dss, rfl, hd, hw, ih, fun H1 s1 => ?_⟩
 have hl1 := s1 _ _ hl
 refine ⟨_, rfl, _, "list", _, _, rfl, ty_list hl1, kit_list, _, rfl, iteF ?_⟩
 refine ⟨_, rfl, l, _, rfl, .inl (SqL.of hl1), rfl, _, rfl, ?_⟩
 rcases List.eq_nil_or_concat ws with rfl | ⟨us, h, e⟩
 · refine ite2 (fun _ => kk H1 s1) (fun z => absurd ?_ z)
   decide +kernel
 · rw [List.concat_eq_append] at e
   subst e
   refine ite2 (fun z => absurd (of_decide_eq_true z) (fun y => ?_)) (fun _ => ?_)
   · have y := V.int.inj y
     simp at y
     omega
   have em : (us ++ [h]).map V.int = us.map V.int ++ [V.int h] := by rw [List.map_append]; rfl
   rw [em] at hl1
   refine ⟨_, rfl, _, rfl, 1, rfl, _, rfl, l, _, rfl, SqL.of hl1, fun l2 hl2 => ?_⟩
   rw [show (-1 : Int) = -1 from rfl, cut_last]
   have s2 := Same.new hl2 (.lst (us.map V.int))
   have g2 : upd H1 l2 (.lst (us.map V.int)) l2 = some (.lst (us.map V.int)) := upd_same
   generalize upd H1 l2 (.lst (us.map V.int)) = H2 at s2 g2 ⊢
   have s02 := s1.trans s2
   rw [mEarly_app] at kk
   refine ⟨bx, dss, vh, l2, us, rfl, hd, ih.mono s02, g2, fun e H3 s3 => ?_, fun ps ns v H3 e s3 A3 => ?_⟩
   · rw [e] at kk
     refine ⟨_, rfl, rfl, _, rfl, ite2 (fun _ => kk H3 (s02.trans s3)) (fun z => absurd (decide_eq_true rfl) z)⟩
   · rw [e] at kk
     have hv := tt_ref A3.is
     refine ⟨_, rfl, rfl, _, rfl, ?_⟩
     rw [decide_eq_false hv]
     refine iteF ⟨_, rfl, _, rfl, _, rfl, 1, rfl, l, _, _, _, rfl, rfl, SqL.of (s3 _ _ (s2 _ _ hl1)), atI_last _ _, bx, dss, ps, ns, vh, v, h, rfl, A3, fun H4 s4 => ⟨_, rfl, ?_⟩⟩
     have kk : ∀ H', Same H H' → Q (.bl (eAt dss ps ns h)) H' := kk
     unfold eAt at kk
     cases e5 : mStep dss ps ns h with
     | none =>
       rw [e5] at kk
       exact iteT (kk H4 (s02.trans (s3.trans s4)))
     | some q =>
       obtain ⟨k, d, rfl, hk, e1, e2, e3⟩ := zxe e5
       rw [e5, show cur dss ps ((k : Int)).toNat = some d from e1] at kk
       refine iteF ⟨_, rfl, _, rfl, _, rfl, 1, rfl, l, _, _, _, rfl, rfl, SqL.of (s4 _ _ (s3 _ _ (s2 _ _ hl1))), atI_last _ _, bx, dss, ps, ns, vh, v, k, d, rfl, A3.same s4, hk, e1, fun H5 s5 => ?_⟩
       exact kk H5 (s02.trans (s3.trans (s4.trans s5)))
theorem sc_isStuck : FnScope ["house", "weaving", "stand"] ["house", "weaving"] (defScope s_isStuck) := ⟨rfl, rfl, rfl, by decide +kernel, rfl, by decide +kernel, by decide +kernel⟩
theorem ok_isStuck (D : Def K mg "is_stuck" s_isStuck) (T : Txt K mg) (o1 : Ok P w K mg base "need_loose" 6 ["thing"] spNo) (o2 : Ok P w K mg base "stand_by" 4 ["house", "weaving"] spSb) (o3 : Ok P w K mg base "stops" 5 ["house", "stand"] spSp2) : Ok P w K mg base "is_stuck" 7 ["house", "weaving"] spSu := by
 refine mkOk D sc_isStuck (fun _ _ _ _ _ _ us hl => (match us, hl with | [_, _], _ => rfl)) (fun vs H Q E ⟨_, _, _, _, _, e, _⟩ => by rw [e]; rfl) fun f cdv A outer s H vs Q E hr h => ?_
 obtain ⟨bx, dss, vh, l, ws, rfl, hd, ih, hl, kk⟩ := h
 have nd := sc_isStuck.nd
 refine ⟨_, zqb (ps_expr (zqp o1 hr (zqa (pv 0) zqc)))
  (zqb (zqq (i := 2) nd rfl (Or.inl rfl) (zqp o2 (hr.mono (show 4 ≤ 6 by decide)) (zqa (pv 0) (zqa (pv 1) zqc))))
  (zqe (zqh (zxp (zq0 op_notN (pv 2) pe_non (nomark _)) (zxj (zqp o3 (hr.mono (show 5 ≤ 6 by decide)) (zqa (pv 0) (zqa (pv 2) zqc)))))))), ?_⟩
 have q := kk
 unfold mStuck at q
 refine ⟨_, rfl, vh, bx, dss, rfl, hd, ih, fun H1 s1 => ?_⟩
 refine ⟨_, rfl, _, rfl, bx, dss, vh, l, ws, rfl, hd, ih.mono s1, s1 _ _ hl, fun e H2 s2 => ?_, fun ps ns v H2 e s2 A2 => ?_⟩
 · rw [e] at q
   refine ⟨_, rfl, rfl, _, rfl, ite2 (fun z => absurd z (by decide +kernel)) (fun z => ?_)⟩
   exact q H2 (s1.trans s2)
 · rw [e] at q
   have hv := tt_ref A2.is
   refine ⟨_, rfl, rfl, _, rfl, ?_⟩
   rw [decide_eq_false hv]
   exact iteT ⟨_, rfl, _, rfl, bx, dss, ps, ns, vh, v, rfl, A2, fun H3 s3 => q H3 (s1.trans (s2.trans s3))⟩
theorem mRun_append {dss : List (List Dd)} : ∀ {us vs ps ns : List Int}, mRun dss ps ns (us ++ vs) = match mRun dss ps ns us with
  | none => none
  | some (qs, ms) => mRun dss qs ms vs
 | [], vs, ps, ns => rfl
 | h :: us, vs, ps, ns => by
   have e1 : ∀ r, mRun dss ps ns (h :: r) = match mStep dss ps ns h with
    | none => none
    | some (qs, ms) => mRun dss qs ms r := fun r => rfl
   show mRun dss ps ns (h :: (us ++ vs)) = _
   rw [e1, e1]
   cases mStep dss ps ns h with
   | none => rfl
   | some q => exact mRun_append (us := us) (vs := vs) (ps := q.1) (ns := q.2)
theorem mRun_one {dss : List (List Dd)} {ps ns : List Int} {h : Int} : mRun dss ps ns [h] = mStep dss ps ns h := by
 unfold mRun
 cases mStep dss ps ns h with
 | none => rfl
 | some q => rfl
theorem isS_say {x : Str} {d : Dd} (h : isS x d = true) : d = .say x := by
 cases d with
 | say y =>
   have h : PyData.eqvAll [.str "say", .str y] [.str "say", .str x] = true := h
   simp [PyData.eqvAll, PyData.eqv] at h
   rw [h]
 | act w b n r =>
   have h : PyData.eqvAll (.str w :: .int b :: .int n :: toDs r) [.str "say", .str x] = true := h
   simp [PyData.eqvAll, PyData.eqv] at h
theorem goes_no_come : isS "come" (.say "go") = false := by kernel_rfl
theorem isS_go : isS "go" (.say "go") = true := by kernel_rfl
theorem cnt_step {x : Str} {ds : List Dd} {p : Nat} {d : Dd} (h : ds[p]? = some d) : cntS x ds ((p : Int) + 1) = cntS x ds (p : Int) + if isS x d = true then 1 else 0 := by
 unfold cntS
 rw [show ((p : Int) + 1).toNat = p + 1 from by omega, Int.toNat_natCast, List.take_add_one, h, List.countP_append]
 show _ + List.countP (isS x) [d] = _
 rw [List.countP_cons, List.countP_nil, Nat.zero_add]
theorem stp_no {dss : List (List Dd)} {ps ns : List Int} {h : Int} (e : (mStep dss ps ns h).isSome = true) : mStp dss ps ns = false := by
 have hm := mem_due.mpr e
 unfold mStp
 have : decide (V.int ((due dss ps ns).length : Int) = V.int 0) = false := by
  rw [decide_eq_false_iff_not]
  intro z
  have z := V.int.inj z
  have := List.length_pos_of_mem hm
  omega
 rw [this, Bool.false_and]
theorem bt_max : bootBuiltins "max" = some (.builtin "max") := by decide +kernel
abbrev s_hasEarly : Stmt := top 41
abbrev s_standLike : Stmt := top 51
abbrev s_stepsFrom : Stmt := top 44
noncomputable def mHe (dss : List (List Dd)) (ps : List Int) : Bool := (tms "go" dss ps).any fun g => (tms "come" dss ps).any fun c => decide (c < g)
noncomputable def nx (dss : List (List Dd)) (ps ns : List Int) (h : Int) : List Int × List Int := (mStep dss ps ns h).getD ([], [])
noncomputable def stp (dss : List (List Dd)) (ps ns : List Int) (h : Int) : T := .tup [.int h, tt (nx dss ps ns h).1 (nx dss ps ns h).2]
structure SL (bx : Int) (dss : List (List Dd)) (ps ns : List Int) : Prop where
 sd : SD bx dss ps ns
 n9 : ∀ n ∈ ns, 0 ≤ n ∧ n ≤ 9
noncomputable def spHe : Sp := fun vs H Q _ => ∃ bx dss ps ns vh vst, vs = [vh, vst] ∧ At H bx dss ps ns vh vst ∧ ∀ H', Same H H' → Q (.bl (mHe dss ps)) H'
noncomputable def spSf : Sp := fun vs H Q _ => ∃ bx dss ps ns vh vst, vs = [vh, vst] ∧ At H bx dss ps ns vh vst ∧ ∀ l xs H', Same H H' → H l = none → H' l = some (.lst xs) → IsL H' ((due dss ps ns).map (stp dss ps ns)) xs → Q (.ref l) H'
noncomputable def spLk : Sp := fun vs H Q _ => ∃ bx dss ps ns vh vst, vs = [vh, vst] ∧ At H bx dss ps ns vh vst ∧ SL bx dss ps ns ∧ ∀ H', Same H H' → Q (.bl true) H'
theorem he_val {dss : List (List Dd)} {ps : List Int} {g c : Int} (g1 : g ∈ tms "go" dss ps) (g2 : ∀ n ∈ tms "go" dss ps, n ≤ g) (c1 : c ∈ tms "come" dss ps) (c2 : ∀ n ∈ tms "come" dss ps, c ≤ n) : decide (g > c) = mHe dss ps := by
 unfold mHe
 rw [Bool.eq_iff_iff, decide_eq_true_eq, List.any_eq_true]
 constructor
 · intro h
   refine ⟨g, g1, ?_⟩
   rw [List.any_eq_true]
   exact ⟨c, c1, decide_eq_true h⟩
 · rintro ⟨g', h1, h2⟩
   rw [List.any_eq_true] at h2
   obtain ⟨c', h3, h4⟩ := h2
   have h4 := of_decide_eq_true h4
   have := g2 g' h1
   have := c2 c' h3
   omega
theorem tms_ne {x : Str} {dss : List (List Dd)} {ps : List Int} (h : 1 ≤ dss.length) : tms x dss ps ≠ [] := fun z => by
 have : dss.length = 0 := by
  have := congrArg List.length z
  unfold tms at this
  rw [List.length_map, List.length_range] at this
  exact this
 omega
theorem sc_stepsFrom : FnScope ["house", "stand"] ["house", "stand"] (defScope s_stepsFrom) := ⟨rfl, rfl, rfl, by decide +kernel, rfl, by decide +kernel, by decide +kernel⟩
theorem ok_stepsFrom (D : Def K mg "steps_from" s_stepsFrom) (T : Txt K mg) (o1 : Ok P w K mg base "going" 4 ["house", "stand"] spGo) (o2 : Ok P w K mg base "moved" 2 ["house", "stand", "hand"] spMv) : Ok P w K mg base "steps_from" 5 ["house", "stand"] spSf := by
 refine mkOk D sc_stepsFrom (fun _ _ _ _ _ _ us hl => (match us, hl with | [_, _], _ => rfl)) (fun vs H Q E ⟨_, _, _, _, _, _, e, _⟩ => by rw [e]; rfl) fun f cdv A outer s H vs Q E hr h => ?_
 obtain ⟨bx, dss, ps, ns, vh, vst, rfl, A, kk⟩ := h
 have r2 := hr.mono (show 2 ≤ 4 by decide)
 refine ⟨_, zqe (zqh (zxl (own := ["hand"]) (cap := [0, 1]) rfl (lcScope (defScope s_stepsFrom) rfl rfl (by decide +kernel) (by decide +kernel) (by decide +kernel) ⟨⟨_, rfl, .inl rfl, noLoc rfl⟩, ⟨_, rfl, .inl rfl, noLoc rfl⟩, trivial⟩) (zxf (zqp o1 hr (zqa (pv 0) (zqa (pv 1) zqc))))
  (fun _ _ _ _ => pg_name (i := 0) (by show (["hand", "house", "stand"] : List Str).Nodup; decide +kernel) rfl (Or.inl rfl)) (fun _ _ _ _ => zq2)
  (fun _ _ _ _ => zxg (zqa (pv 0) (zqa (zqp o2 r2 (zqa (pv 1) (zqa (pv 2) (zqa (pv 0) zqc)))) zqc))))), ?_⟩
 refine ⟨_, rfl, _, rfl, bx, dss, ps, ns, vh, vst, rfl, A, fun lg H1 s1 _ g1 => ?_⟩
 have n4 := A.hd.n4
 have hfew : (due dss ps ns).length ≤ 4 := by
  unfold due
  refine Nat.le_trans (List.length_filter_le _ _) ?_
  rw [List.length_map, List.length_range]
  exact n4
 refine ⟨lg, rfl, ⟨_, SqL.of g1⟩, ?_⟩
 refine lc_list (xs := (due dss ps ns).map V.int) (fun i ys H' => Same H1 H' ∧ IsL H' (((due dss ps ns).take i).map (stp dss ps ns)) ys) ⟨Same.refl H1, rfl⟩ (fun i ys H' hi ⟨s2, e⟩ => ⟨SqL.of (s2 _ _ g1), by rw [e.length, List.length_map, List.length_take]; exact zqr (by omega)⟩) ?_ ?_
 · rintro i x ys H2 hx ⟨s2, iy⟩
   refine gIf0 ?_
   rw [List.getElem?_map] at hx
   cases eh : (due dss ps ns)[i]? with
   | none => rw [eh] at hx; cases hx
   | some h =>
     rw [eh] at hx
     cases hx
     have hm := mem_due.mp (List.mem_of_getElem? eh)
     obtain ⟨r, hr'⟩ := Option.isSome_iff_exists.mp hm
     obtain ⟨k, d, ek, hk, ed, _, er⟩ := zxe hr'
     refine ⟨_, rfl, _, rfl, _, rfl, _, rfl, bx, dss, ps, ns, vh, vst, k, d, by rw [ek]; rfl, A.same (s1.trans s2), hk, ed, fun v H3 s3 iv => ?_⟩
     refine ⟨by show 2 ≤ 1000; decide, fun p H4 s4 _ g4 => ⟨s2.trans (s3.trans s4), ?_⟩⟩
     rw [List.take_add_one, eh, List.map_append]
     refine IsL.append (iy.mono (s3.trans s4)) (IsL.one ⟨p, _, rfl, g4, IsL.two rfl ?_⟩)
     have e2 : nx dss ps ns h = (ps.set k (ps.getD k 0 + 1 + aftP d ns), aftN d ns) := by unfold nx; rw [hr', er]; rfl
     rw [e2]
     exact iv.mono s4
 · rintro ys H2 ⟨s2, iy⟩ p hp
   rw [List.length_map, List.take_length] at iy
   have s3 := Same.new hp (.lst ys)
   exact kk p ys _ (s1.trans (s2.trans s3)) (Same.none (s1.trans s2) hp) upd_same (iy.mono s3)
theorem sc_hasEarly : FnScope ["house", "stand"] ["house", "stand"] (defScope s_hasEarly) := ⟨rfl, rfl, rfl, by decide +kernel, rfl, by decide +kernel, by decide +kernel⟩
theorem ok_hasEarly (D : Def K mg "has_early" s_hasEarly) (T : Txt K mg) (o1 : Ok P w K mg base "times_said" 1 ["house", "stand", "word"] spTs) : Ok P w K mg base "has_early" 2 ["house", "stand"] spHe := by
 refine mkOk D sc_hasEarly (fun _ _ _ _ _ _ us hl => (match us, hl with | [_, _], _ => rfl)) (fun vs H Q E ⟨_, _, _, _, _, _, e, _⟩ => by rw [e]; rfl) fun f cdv A outer s H vs Q E hr h => ?_
 obtain ⟨bx, dss, ps, ns, vh, vst, rfl, A, kk⟩ := h
 refine ⟨_, zqe (zqh (zq0 op_gt (zqk (call_maxL rfl) rfl T.max bt_max (zqa (zqp o1 hr (zqa (pv 0) (zqa (pv 1) (zqa zqm zqc)))) zqc)) (zqk (call_minL rfl) rfl T.min bt_min (zqa (zqp o1 hr (zqa (pv 0) (zqa (pv 1) (zqa zqm zqc)))) zqc)) (nomark _))), ?_⟩
 have n1 := A.hd.n1
 refine ⟨_, rfl, _, rfl, bx, dss, ps, ns, vh, vst, _, rfl, A, by kernel_rfl, by decide +kernel, fun l1 H1 s1 g1 => ?_⟩
 refine ⟨l1, _, rfl, SqL.of g1, tms_ne n1, fun g hg1 hg2 => ?_⟩
 refine ⟨_, rfl, _, rfl, bx, dss, ps, ns, vh, vst, _, rfl, A.same s1, by kernel_rfl, by decide +kernel, fun l2 H2 s2 g2 => ?_⟩
 refine ⟨l2, _, rfl, SqL.of g2, tms_ne n1, fun c hc1 hc2 => ?_⟩
 refine ⟨_, _, rfl, rfl, ?_⟩
 show Q (.bl (decide (g > c))) H2
 rw [he_val hg1 hg2 hc1 hc2]
 exact kk H2 (s1.trans s2)
theorem sc_standLike : FnScope ["house", "thing", "first", "lengths"] ["house", "thing"] (defScope s_standLike) := ⟨rfl, rfl, rfl, by decide +kernel, rfl, by decide +kernel, by decide +kernel⟩
theorem ok_standLike (D : Def K mg "is_stand_like" s_standLike) (T : Txt K mg) (o1 : Ok P w K mg base "at_first" 1 ["house"] spFi) (o2 : Ok P w K mg base "is_tuple_within" 1 ["thing", "least", "most"] spTw) (o3 : Ok P w K mg base "is_within" 2 ["thing", "least", "most"] spWi) : Ok P w K mg base "is_stand_like" 3 ["house", "thing"] spLk := by
 refine mkOk D sc_standLike (fun _ _ _ _ _ _ us hl => (match us, hl with | [_, _], _ => rfl)) (fun vs H Q E ⟨_, _, _, _, _, _, e, _⟩ => by rw [e]; rfl) fun f cdv A outer s H vs Q E hr h => ?_
 obtain ⟨bx, dss, ps, ns, vh, vst, rfl, A, S, kk⟩ := h
 have nd := sc_standLike.nd
 have r1 := hr.mono (show 1 ≤ 2 by decide)
 refine ⟨_, zqb (zqq (i := 2) nd rfl (Or.inl rfl) (zqp o1 r1 (zqa (pv 0) zqc)))
  (zqb (zqv (PW.pt (pw_or (zq3 (zqy (zqp o2 r1 (zqa (pv 1) (zqa zqd (zqa zqd zqc)))))) (zxh (zq3 (zqy (zqk (zq8 rfl) rfl T.all bt_all (zqa (zxl (own := ["part"]) (cap := []) (te := tCB (rIsi K) (tCons (tVar 0) (tCons (tC (.ty "tuple")) tNil))) rfl (lcScope (defScope s_standLike) rfl rfl (by decide +kernel) (by decide +kernel) (by decide +kernel) trivial) (pi_tup (pv 1))
   (fun _ _ _ _ => pg_name (i := 0) (by show (["part"] : List Str).Nodup; decide +kernel) rfl (Or.inl rfl)) (fun _ _ _ _ => zq2) (fun _ _ _ _ => zxw T.isi T.tuple zxb (pv 0))) zqc))))))) (zqe (zqh zq9)) zqi)
  (zqb (zqv (zql (op_neTr hr.units) (zxl (own := ["part"]) (cap := []) rfl (lcScope (defScope s_standLike) rfl rfl (by decide +kernel) (by decide +kernel) (by decide +kernel) trivial) (pi_tup (pv 1))
    (fun _ _ _ _ => pg_name (i := 0) (by show (["part"] : List Str).Nodup; decide +kernel) rfl (Or.inl rfl)) (fun _ _ _ _ => zq2) (fun _ _ _ _ => zqk (r := rLen K) zqj (by rfl) T.len zqz (zqa (pv 0) zqc)))
   (zxl (own := ["part"]) (cap := []) rfl (lcScope (defScope s_standLike) rfl rfl (by decide +kernel) (by decide +kernel) (by decide +kernel) trivial) (pi_tup (pv 2))
    (fun _ _ _ _ => pg_name (i := 0) (by show (["part"] : List Str).Nodup; decide +kernel) rfl (Or.inl rfl)) (fun _ _ _ _ => zq2) (fun _ _ _ _ => zqk (r := rLen K) zqj (by rfl) T.len zqz (zqa (pv 0) zqc))) (nomark _)) (zqe (zqh zq9)) zqi)
  (zqb (ps_lc (i := 3) (own := ["script"]) (cap := []) rfl (lcScope (defScope s_standLike) rfl rfl (by decide +kernel) (by decide +kernel) (by decide +kernel) trivial) (pi_tup (zqn zqo (pv 0) (zqx T.SCRIPTS) (fun _ _ => rfl)))
   (fun _ _ _ _ => pg_name (i := 0) (by show (["script"] : List Str).Nodup; decide +kernel) rfl (Or.inl rfl)) (fun _ _ _ _ => zq2) (fun _ _ _ _ => zqk (r := rLen K) zqj (by rfl) T.len zqz (zqa (pv 0) zqc)) nd rfl rfl (by with_unfolding_all rfl))
  (zqb (zqv (zq3 (zqy (zqk (zq8 rfl) rfl T.all bt_all (zqa (zxl (own := ["place", "most"]) (cap := []) (g := gTup K 2 (gCons (gName 0) (gCons (gName 1) gNil))) rfl (lcScope (defScope s_standLike) rfl rfl (by decide +kernel) (by decide +kernel) (by decide +kernel) trivial)
   (pi_zipL rfl T.zip (zqa (zqn zqo (pv 1) (zqx T.PLACES) (fun _ _ => rfl)) (zqa (pv 3) zqc)))
   (fun _ _ _ _ => pg_tup rfl (pgs_cons (pg_name (i := 0) (by show (["place", "most"] : List Str).Nodup; decide +kernel) rfl (Or.inl rfl)) (pgs_cons (pg_name (i := 1) (by show (["place", "most"] : List Str).Nodup; decide +kernel) rfl (Or.inl rfl)) zxn))) (fun _ _ _ _ => zq2)
   (fun _ _ _ _ => zqp o3 hr (zqa (pv 0) (zqa zqd (zqa (pv 1) zqc))))) zqc)))) (zqe (zqh zq9)) zqi)
  (zqe (zqh (zqk (zq8 rfl) rfl T.all bt_all (zqa (zxl (own := ["number"]) (cap := []) rfl (lcScope (defScope s_standLike) rfl rfl (by decide +kernel) (by decide +kernel) (by decide +kernel) trivial) (pi_tup (zqn zqo (pv 1) (zqx T.NUMBERS) (fun _ _ => rfl)))
   (fun _ _ _ _ => pg_name (i := 0) (by show (["number"] : List Str).Nodup; decide +kernel) rfl (Or.inl rfl)) (fun _ _ _ _ => zq2) (fun _ _ _ _ => zqp o3 hr (zqa (pv 0) (zqa zqd (zqa (zqx T.MOST_NUMBER) zqc))))) zqc)))))))), ?_⟩
 obtain ⟨a, as, ss, e0, ha, has, hl, hn⟩ := h_open A.ih
 obtain ⟨c, p, q, e1, hc, hp, hq⟩ := s_open A.is
 have n4 := A.hd.n4
 have n1 := A.hd.n1
 have b0 := A.hd.b0
 have lp := A.sd.lp
 have ln := A.sd.ln
 subst e0 e1
 refine ⟨_, rfl, bx, dss, _, rfl, A.hd, A.ih, fun vf H1 s1 iF => ?_⟩
 obtain ⟨cf, pf, qf, ef, hcf, hpf, hqf⟩ := s_open iF
 subst ef
 refine ⟨_, rfl, tt ps ns, _, 2, 2, rfl, A.is.mono s1, fun H2 s2 => ⟨_, rfl, ?_⟩⟩
 rw [show mTupW (tt ps ns) 2 2 = true from rfl]
 refine iteF ?_
 have s12 := s1.trans s2
 refine ⟨_, rfl, c, rfl, ⟨_, SqT.of (s12 _ _ hc)⟩, ?_⟩
 refine lc_tup (xs := [V.ref p, V.ref q]) (fun i ys H' => Same H2 H' ∧ ys = (List.replicate i true).map V.bl) ⟨Same.refl H2, rfl⟩ (fun i ys H' hi ⟨s', e⟩ => ⟨SqT.of (s' _ _ (s12 _ _ hc)), by rw [e, List.length_map, List.length_replicate]; exact zqr (Nat.le_trans hi (by show 2 ≤ 1000; decide))⟩) ?_ ?_
 · rintro i x ys H' hx ⟨s', rfl⟩
   refine gIf0 ?_
   have hT : ∃ (g : List Int), Is H' (tI g) x := by
    have s02 := s12.trans s'
    cases i with
    | zero => cases hx; exact ⟨ps, p, _, rfl, s02 _ _ hp, IsL.ints.mpr rfl⟩
    | succ i =>
      cases i with
      | zero => cases hx; exact ⟨ns, q, _, rfl, s02 _ _ hq, IsL.ints.mpr rfl⟩
      | succ i => simp at hx
   obtain ⟨g, ig⟩ := hT
   refine ⟨_, rfl, x, "tuple", _, _, rfl, ig.ty, kit_tuple K (tI g), s', ?_⟩
   rw [List.replicate_succ', List.map_append]
   rfl
 rintro ys H3 ⟨s3, rfl⟩ l3 hl3
 have s4 := Same.new hl3 (.lst ((List.replicate 2 true).map V.bl))
 refine ⟨l3, _, rfl, SqL.of upd_same, _, rfl, ?_⟩
 show (if (!true) = true then _ else _)
 refine iteF ?_
 have s34 := s3.trans s4
 generalize hX : upd H3 l3 (.lst ((List.replicate [V.ref p, V.ref q].length true).map V.bl)) = H4
 have s24 : Same H2 H4 := by rw [← hX]; exact s34
 clear hX s34 s4
 have s04 := s12.trans s24
 have two : ∀ (H5 : Hp) (c' p' q' : Addr) (ps' ns' : List Int), H5 c' = some (.tup [.ref p', .ref q']) → H5 p' = some (.tup (ps'.map V.int)) → H5 q' = some (.tup (ns'.map V.int)) → ∀ (i : Nat) (x : V) (H' : Hp), Same H5 H' → ([V.ref p', V.ref q'] : List V)[i]? = some x → ∃ (b : Addr) (g : List Int), x = .ref b ∧ H' b = some (.tup (g.map V.int)) ∧ ([(ps'.length : Int), (ns'.length : Int)] : List Int)[i]? = some (g.length : Int) := by
  intro H5 c' p' q' ps' ns' h1 h2 h3 i x H' s' hx
  cases i with
  | zero => cases hx; exact ⟨p', ps', rfl, s' _ _ h2, rfl⟩
  | succ i =>
    cases i with
    | zero => cases hx; exact ⟨q', ns', rfl, s' _ _ h3, rfl⟩
    | succ i => simp at hx
 refine ⟨_, rfl, c, rfl, ⟨_, SqT.of (s04 _ _ hc)⟩, ?_⟩
 refine lc_tup (xs := [V.ref p, V.ref q]) (fun i ys H' => Same H4 H' ∧ ys = (([(ps.length : Int), (ns.length : Int)] : List Int).take i).map V.int) ⟨Same.refl H4, rfl⟩ (fun i ys H' hi ⟨s', e⟩ => ⟨SqT.of (s' _ _ (s04 _ _ hc)), by rw [e, List.length_map]; exact zqr (Nat.le_trans (List.length_take_le _ _) (Nat.le_trans hi (by show 2 ≤ 1000; decide)))⟩) ?_ ?_
 · rintro i x ys H' hx ⟨s', rfl⟩
   refine gIf0 ?_
   obtain ⟨b, g, rfl, hb, eg⟩ := two H4 c p q ps ns (s04 _ _ hc) (s04 _ _ hp) (s04 _ _ hq) i x H' s' hx
   refine ⟨_, rfl, b, _, rfl, .inr (SqT.of hb), s', ?_⟩
   rw [List.take_add_one, eg, List.map_append, List.length_map]
   rfl
 rintro ys H5 ⟨s5, rfl⟩ l5 hl5
 have s6 := Same.new hl5 (.lst ((([(ps.length : Int), (ns.length : Int)] : List Int).take [V.ref p, V.ref q].length).map V.int))
 have g6 : upd H5 l5 (.lst ((([(ps.length : Int), (ns.length : Int)] : List Int).take [V.ref p, V.ref q].length).map V.int)) l5 = some (.lst (([(ps.length : Int), (ns.length : Int)] : List Int).map V.int)) := upd_same
 generalize upd H5 l5 (.lst ((([(ps.length : Int), (ns.length : Int)] : List Int).take [V.ref p, V.ref q].length).map V.int)) = H6 at s6 g6 ⊢
 have s46 := s5.trans s6
 have s06 := s04.trans s46
 have s16 := s2.trans (s24.trans s46)
 refine ⟨_, rfl, cf, rfl, ⟨_, SqT.of (s16 _ _ hcf)⟩, ?_⟩
 refine lc_tup (xs := [V.ref pf, V.ref qf]) (fun i ys H' => Same H6 H' ∧ ys = (([((zs dss.length).length : Int), ((zs bx.toNat).length : Int)] : List Int).take i).map V.int) ⟨Same.refl H6, rfl⟩ (fun i ys H' hi ⟨s', e⟩ => ⟨SqT.of (s' _ _ (s16 _ _ hcf)), by rw [e, List.length_map]; exact zqr (Nat.le_trans (List.length_take_le _ _) (Nat.le_trans hi (by show 2 ≤ 1000; decide)))⟩) ?_ ?_
 · rintro i x ys H' hx ⟨s', rfl⟩
   refine gIf0 ?_
   obtain ⟨b, g, rfl, hb, eg⟩ := two H6 cf pf qf _ _ (s16 _ _ hcf) (s16 _ _ hpf) (s16 _ _ hqf) i x H' s' hx
   refine ⟨_, rfl, b, _, rfl, .inr (SqT.of hb), s', ?_⟩
   rw [List.take_add_one, eg, List.map_append, List.length_map]
   rfl
 rintro ys H7 ⟨s7, rfl⟩ l7 hl7
 have s8 := Same.new hl7 (.lst ((([((zs dss.length).length : Int), ((zs bx.toNat).length : Int)] : List Int).take [V.ref pf, V.ref qf].length).map V.int))
 have g8 : upd H7 l7 (.lst ((([((zs dss.length).length : Int), ((zs bx.toNat).length : Int)] : List Int).take [V.ref pf, V.ref qf].length).map V.int)) l7 = some (.lst (([((zs dss.length).length : Int), ((zs bx.toNat).length : Int)] : List Int).map V.int)) := upd_same
 generalize upd H7 l7 (.lst ((([((zs dss.length).length : Int), ((zs bx.toNat).length : Int)] : List Int).take [V.ref pf, V.ref qf].length).map V.int)) = H8 at s8 g8 ⊢
 have eZ : ([((zs dss.length).length : Int), ((zs bx.toNat).length : Int)] : List Int) = [(ps.length : Int), (ns.length : Int)] := by
  unfold zs
  rw [List.length_replicate, List.length_replicate, lp, ln]
 rw [eZ] at g8
 have s68 := s7.trans s8
 have s08 := s06.trans s68
 refine ⟨.lst (iT [(ps.length : Int), (ns.length : Int)]), .lst (iT [(ps.length : Int), (ns.length : Int)]), ⟨l5, _, rfl, s68 _ _ g6, IsL.ints.mpr rfl⟩, ⟨l7, _, rfl, g8, IsL.ints.mpr rfl⟩, lay_lst _, lay_lst _, depth_lst _, _, rfl, ?_⟩
 rw [SeqAt.eqv_refl _ (lay_lst _)]
 refine iteF ?_
 refine ⟨_, rfl, a, _, _, _, rfl, rfl, SqT.of (s08 _ _ ha), rfl, as, rfl, ⟨ss, SqT.of (s08 _ _ has)⟩, ?_⟩
 refine lc_tup (xs := ss) (fun i ys H' => Same H8 H' ∧ ys = ((lens dss).take i).map V.int) ⟨Same.refl H8, rfl⟩ (fun i ys H' hi ⟨s4, e⟩ => ⟨SqT.of (s4 _ _ (s08 _ _ has)), ?_⟩) ?_ ?_
 · rw [e, List.length_map]
   exact zqr (Nat.le_trans (List.length_take_le _ _) (by omega))
 · rintro i z ys H' hz ⟨s4, rfl⟩
   refine gIf0 ?_
   have hi : i < dss.length := by rw [← hn]; exact (List.getElem?_eq_some_iff.mp hz).1
   obtain ⟨b, xs, eb, hb, hxs, hxn⟩ := sc_at hl hi
   rw [eb] at hz
   cases hz
   refine ⟨_, rfl, b, xs, rfl, .inr (SqT.of (s4 _ _ (s08 _ _ hb))), s4, ?_⟩
   have eg : (lens dss)[i]? = some (xs.length : Int) := by
    unfold lens
    rw [List.getElem?_map, List.getElem?_eq_getElem hi, hxn, List.getD_eq_getElem?_getD, List.getElem?_eq_getElem hi]
    rfl
   rw [List.take_add_one, eg, List.map_append]
   rfl
 rintro ys H9 ⟨s9, rfl⟩ l9 hl9
 have el : (lens dss).take ss.length = lens dss := by
  rw [hn, List.take_of_length_le]
  unfold lens
  rw [List.length_map]
  exact Nat.le_refl _
 rw [el]
 have s10 := Same.new hl9 (.lst ((lens dss).map V.int))
 have g10 : upd H9 l9 (.lst ((lens dss).map V.int)) l9 = some (.lst ((lens dss).map V.int)) := upd_same
 generalize upd H9 l9 (.lst ((lens dss).map V.int)) = H10 at s10 g10 ⊢
 have s010 := s08.trans (s9.trans s10)
 have hll : (lens dss).length = dss.length := by unfold lens; rw [List.length_map]
 refine ⟨_, rfl, c, _, _, _, rfl, rfl, SqT.of (s010 _ _ hc), rfl, _, rfl, p, l9, _, _, rfl, s010 _ _ hp, g10, ?_⟩
 refine lc_zipL (by rw [List.length_map, List.length_map, hll, lp]) (fun i ys H' => Same H10 H' ∧ ys = (List.replicate i true).map V.bl) ⟨Same.refl H10, rfl⟩ (fun i ys H' hi ⟨s', e⟩ => ⟨s' _ _ (s010 _ _ hp), s' _ _ g10, by rw [e, List.length_map, List.length_replicate]; rw [List.length_map] at hi; exact zqr (by omega)⟩) ?_ ?_
 · rintro i x1 z1 ys H' r hx hz ⟨s', rfl⟩ hr'
   have hi : i < ps.length := by have := (List.getElem?_eq_some_iff.mp hx).1; rw [List.length_map] at this; exact this
   have hid : i < dss.length := by omega
   rw [zxx hi] at hx
   rw [zxx (show i < (lens dss).length by omega)] at hz
   cases hx
   cases hz
   have sr := Same.new hr' (.tup [.int (ps.getD i 0), .int ((lens dss).getD i 0)])
   have gr : upd H' r (.tup [.int (ps.getD i 0), .int ((lens dss).getD i 0)]) r = some (.tup [.int (ps.getD i 0), .int ((lens dss).getD i 0)]) := upd_same
   generalize upd H' r (.tup [.int (ps.getD i 0), .int ((lens dss).getD i 0)]) = H11 at sr gr ⊢
   refine ⟨r, _, rfl, SqT.of gr, rfl, _, _, rfl, _, _, rfl, rfl, ?_⟩
   refine if0 ?_
   refine ⟨_, rfl, _, rfl, .int (ps.getD i 0), _, 0, _, rfl, rfl, fun H12 s12' => ⟨s'.trans (sr.trans s12'), ?_⟩⟩
   have eL : (lens dss).getD i 0 = ((dss.getD i []).length : Int) := by
    unfold lens
    rw [List.getD_eq_getElem?_getD, List.getElem?_map, List.getElem?_eq_getElem hid, List.getD_eq_getElem?_getD, List.getElem?_eq_getElem hid]
    rfl
   rw [eL, zq6 (getD_nn A.sd.p0 i) (A.sd.pl i), List.replicate_succ', List.map_append]
   rfl
 rintro ys H11 ⟨s11, rfl⟩ l11 hl11
 have allT : ∀ n : Nat, (List.replicate n true).all id = true := fun n => by
  rw [List.all_eq_true]
  intro b hb
  exact (List.mem_replicate.mp hb).2
 generalize hN : (List.map V.int ps).length = N
 have s12' := Same.new hl11 (.lst ((List.replicate N true).map V.bl))
 refine ⟨l11, _, rfl, SqL.of upd_same, _, rfl, ?_⟩
 rw [allT]
 refine iteF ?_
 generalize upd H11 l11 (.lst ((List.replicate N true).map V.bl)) = H12 at s12' ⊢
 have s012 := s010.trans (s11.trans s12')
 refine ⟨_, rfl, c, _, _, _, rfl, rfl, SqT.of (s012 _ _ hc), rfl, q, rfl, ⟨_, SqT.of (s012 _ _ hq)⟩, ?_⟩
 refine lc_tup (xs := ns.map V.int) (fun i ys H' => Same H12 H' ∧ ys = (List.replicate i true).map V.bl) ⟨Same.refl H12, rfl⟩ (fun i ys H' hi ⟨s', e⟩ => ⟨SqT.of (s' _ _ (s012 _ _ hq)), by rw [e, List.length_map, List.length_replicate]; rw [List.length_map] at hi; exact zqr (by have := A.hd.b6; omega)⟩) ?_ ?_
 · rintro i x ys H' hx ⟨s', rfl⟩
   refine gIf0 ?_
   have hi : i < ns.length := by have := (List.getElem?_eq_some_iff.mp hx).1; rw [List.length_map] at this; exact this
   rw [zxx hi] at hx
   cases hx
   refine ⟨_, rfl, .int (ns.getD i 0), _, 0, _, rfl, rfl, fun H13 s13 => ⟨s'.trans s13, ?_⟩⟩
   have h9 := S.n9 (ns.getD i 0) (by rw [List.getD_eq_getElem?_getD, List.getElem?_eq_getElem hi]; exact List.getElem_mem hi)
   rw [zq6 h9.1 h9.2, List.replicate_succ', List.map_append]
   rfl
 · rintro ys H13 ⟨s13, rfl⟩ l13 hl13
   refine ⟨l13, _, rfl, SqL.of upd_same, ?_⟩
   rw [allT]
   exact kk _ (s012.trans (s13.trans (Same.new hl13 _)))
theorem isS_word {x y : Str} : isS x (.say y) = PyData.eqv (toD (.str y)) (toD (.str x)) := by
 show PyData.eqvAll [.str "say", .str y] [.str "say", .str x] = PyData.eqv (.str y) (.str x)
 simp [PyData.eqvAll, PyData.eqv]
theorem isS_act {x w : Str} {b n : Int} {r : List T} : isS x (.act w b n r) = false := by
 cases h : isS x (.act w b n r) with
 | false => rfl
 | true => have := isS_say h; cases this
theorem cnt_says (x : Str) : ∀ ds : List Dd, ((saysT (ds.map Dd.t)).map L2.T.str).countP (fun t => PyData.eqv (toD t) (toD (.str x))) = ds.countP (isS x)
 | [] => rfl
 | d :: ds => by
   have ih := cnt_says x ds
   cases d with
   | say y =>
     have e : saysT ((Dd.say y :: ds).map Dd.t) = y :: saysT (ds.map Dd.t) := rfl
     rw [e, List.map_cons, List.countP_cons, ih, List.countP_cons, isS_word]
   | act w b n r =>
     have e : saysT ((Dd.act w b n r :: ds).map Dd.t) = saysT (ds.map Dd.t) := rfl
     rw [e, ih, List.countP_cons, isS_act]
     simp
theorem tms_at {x : Str} {dss : List (List Dd)} {ps : List Int} {i : Nat} (h : i < dss.length) : (tms x dss ps)[i]? = some ((cntS x (dss.getD i []) (ps.getD i 0) : Nat) : Int) := by
 unfold tms
 rw [List.getElem?_map, List.getElem?_range h]
 rfl
abbrev Sn := List Int × List Int
noncomputable def kS (st : Sn) : KeyN := [st.1, st.2]
noncomputable def tS (st : Sn) : T := tt st.1 st.2
theorem kS_inj {a b : Sn} (h : kS a = kS b) : a = b := by
 obtain ⟨a1, a2⟩ := a
 obtain ⟨b1, b2⟩ := b
 unfold kS at h
 injection h with h1 h2
 injection h2 with h2 _
 rw [show a1 = b1 from h1, show a2 = b2 from h2]
theorem kS_mem {a : Sn} {L : List Sn} : kS a ∈ L.map kS ↔ a ∈ L := by
 rw [List.mem_map]
 constructor
 · rintro ⟨b, hb, e⟩
   rw [← kS_inj e]; exact hb
 · intro h
   exact ⟨a, h, rfl⟩
theorem kS_nodup {L : List Sn} : (L.map kS).Nodup ↔ L.Nodup := by
 show (L.map kS).Pairwise (· ≠ ·) ↔ L.Pairwise (· ≠ ·)
 rw [List.pairwise_map]
 constructor
 · exact fun h => h.imp fun h z => h (by rw [z])
 · exact fun h => h.imp fun h z => h (kS_inj z)
theorem fro_rowS (L : List Sn) : FroL (L.map tS) := FroL.all.mpr fun t ht => by
 obtain ⟨g, _, rfl⟩ := List.mem_map.mp ht
 exact fro_tt
noncomputable def s00 (bx : Int) (dss : List (List Dd)) : Sn := (zs dss.length, zs bx.toNat)
theorem sub_len {α : Type} [DecidableEq α] : ∀ {L M : List α}, L.Nodup → (∀ x ∈ L, x ∈ M) → L.length ≤ M.length
 | [], _, _, _ => Nat.zero_le _
 | a :: L, M, nd, h => by
   rw [List.nodup_cons] at nd
   have ha := h a List.mem_cons_self
   have := sub_len (L := L) (M := M.erase a) nd.2 fun x hx => (List.mem_erase_of_ne (show x ≠ a from fun z => nd.1 (by rw [← z]; exact hx))).mpr (h x (List.mem_cons_of_mem _ hx))
   rw [List.length_erase_of_mem ha] at this
   have : 0 < M.length := List.length_pos_of_mem ha
   rw [List.length_cons]
   omega
noncomputable def Rch (dss : List (List Dd)) (s0 st : Sn) : Prop := ∃ ws, mRun dss s0.1 s0.2 ws = some st
noncomputable def CrD (bx : Int) (dss : List (List Dd)) : Prop := ∀ L : List Sn, L.Nodup → (∀ st ∈ L, Rch dss (s00 bx dss) st) → L.length ≤ 1250
theorem act9 {w : Str} {b n bx beh : Int} {r : List T} (h : mLD (Dd.act w b n r).t bx beh = true) (hn : wEq w "say" = false) : 0 ≤ n ∧ n ≤ 9 := by
 have h : ((decide (1 ≤ (L2.T.int b :: .int n :: r).length) && decide ((L2.T.int b :: .int n :: r).length ≤ 3)) && mLDW w (.int b :: .int n :: r) bx beh) = true := h
 rw [Bool.and_eq_true] at h
 have h2 := h.2
 unfold mLDW at h2
 rw [if_neg (by rw [hn]; decide)] at h2
 split at h2
 · cases h2
 · rw [Bool.and_eq_true, Bool.and_eq_true] at h2
   obtain ⟨i, e, h0, h9⟩ := within_int (show mWithin (.int n) 0 9 = true from h2.2.1)
   cases e
   exact ⟨h0, h9⟩
theorem HD.n9 {bx : Int} {dss : List (List Dd)} (hd : HD bx dss) {ds : List Dd} (hm : ds ∈ dss) {w : Str} {b n : Int} {r : List T} (h : Dd.act w b n r ∈ ds) : 0 ≤ n ∧ n ≤ 9 := by
 have g := hd.good
 have g : (mWithin (.int bx) 0 6 && (mTupW (.tup (dss.map scT)) 1 4 && (dss.map scT).all fun s => mLS s bx)) = true := g
 rw [Bool.and_eq_true, Bool.and_eq_true] at g
 have g3 := (List.all_eq_true.mp g.2.2) (scT ds) (List.mem_map.mpr ⟨ds, hm, rfl⟩)
 have g3 : (mTupW (scT ds) 0 30 && mLDs (ds.map Dd.t) bx) = true := g3
 rw [Bool.and_eq_true] at g3
 obtain ⟨i, hi, e⟩ := List.mem_iff_getElem.mp h
 have g4 := (List.all_eq_true.mp g3.2) i (List.mem_range.mpr (by rw [List.length_map]; exact hi))
 rw [List.getD_eq_getElem?_getD, List.getElem?_map, List.getElem?_eq_getElem hi, e] at g4
 exact act9 g4 (hd.ns ds hm _ h)
theorem SL.step {bx : Int} {dss : List (List Dd)} {ps ns qs ms : List Int} {h : Int} (hd : HD bx dss) (S : SL bx dss ps ns) (e : mStep dss ps ns h = some (qs, ms)) : SL bx dss qs ms := by
 refine ⟨S.sd.step hd e, ?_⟩
 obtain ⟨k, d, rfl, hk, e1, e2, e3⟩ := zxe e
 cases e3
 have hm : dss.getD k [] ∈ dss := by rw [List.getD_eq_getElem?_getD, List.getElem?_eq_getElem hk]; exact List.getElem_mem hk
 have hmem := List.mem_of_getElem? e1
 cases d with
 | say x => exact S.n9
 | act w b n r =>
   have h9 := hd.n9 hm hmem
   show ∀ y ∈ nR w b n (nP w b n ns), 0 ≤ y ∧ y ≤ 9
   have hP : ∀ y ∈ nP w b n ns, 0 ≤ y ∧ y ≤ 9 := fun y hy => by
    unfold nP at hy
    split at hy
    · rcases List.mem_or_eq_of_mem_set hy with z | z
      · exact S.n9 y z
      · rw [z]; exact h9
    · exact S.n9 y hy
   intro y hy
   unfold nR at hy
   split at hy
   · rcases List.mem_or_eq_of_mem_set hy with z | z
     · exact hP y z
     · rw [z]; omega
   · exact hP y hy
theorem SL.first {bx : Int} {dss : List (List Dd)} : SL bx dss (zs dss.length) (zs bx.toNat) := ⟨SD.first, fun n hn => by unfold zs at hn; rw [(List.mem_replicate.mp hn).2]; decide⟩
abbrev s_rowsTo : Stmt := top 32
abbrev s_tried : Stmt := top 48
noncomputable def theLam : Expr := match defBody s_tried with
 | _ :: .Assign _ (.Call _ (_ :: l :: _) _ _) _ :: _ => l
 | _ => .Constant .none 0 ⟨0, 0, 0, 0⟩
noncomputable def lmArgs : Arguments := match theLam with | .Lambda a _ _ _ => a | _ => defArgs s_tried
noncomputable def lmBody : Expr := match theLam with | .Lambda _ b _ _ => b | e => e
noncomputable def lmScope : Scope := match theLam with | .Lambda _ _ s _ => s | _ => defScope s_tried
noncomputable def lmPos : Pos := match theLam with | .Lambda _ _ _ p => p | _ => ⟨0, 0, 0, 0⟩
noncomputable def lmQual : Str := (("tried_loose" : Str) ++ ".<locals>.") ++ "<lambda>"
theorem lm_sc : LamScope lmScope "stand" "house" := ⟨rfl, rfl, rfl, by decide +kernel, rfl, rfl, by decide +kernel⟩
noncomputable def LO (mg : Str → Option Value) (c c' : Addr) (ctv : Value) : Obj := PySem.W.kla_obj "<lambda>" lmQual lmArgs lmBody lmScope [("house", c)] ((mg "__name__").getD .none) c' ctv
noncomputable def LamAt (mg : Str → Option Value) (H : Hp) (f c : Addr) (vh : V) : Prop := ∃ c' ctv oc occ uk, H f = some (kno (LO mg c c' ctv)) ∧ H c' = some (kno occ) ∧ OfCode occ lmQual ∧ H c = some (kno oc) ∧ oc.data = .cell (some uk) ∧ RelV vh uk
theorem LamAt.same {mg : Str → Option Value} {H H' : Hp} {f c : Addr} {vh : V} (h : LamAt mg H f c vh) (s : Same H H') : LamAt mg H' f c vh := by
 obtain ⟨c', ctv, oc, occ, uk, h1, h2, h3, h4, h5⟩ := h
 exact ⟨c', ctv, oc, occ, uk, s _ _ h1, s _ _ h2, h3, s _ _ h4, h5⟩
abbrev Eh := Eg Sn Int Addr
noncomputable def nxL (dss : List (List Dd)) (st : Sn) : List (Int × Sn) := (due dss st.1 st.2).map fun h => (h, nx dss st.1 st.2 h)
theorem mem_nxL {dss : List (List Dd)} {st : Sn} {p : Int × Sn} : p ∈ nxL dss st ↔ mStep dss st.1 st.2 p.1 = some p.2 := by
 unfold nxL
 rw [List.mem_map]
 constructor
 · rintro ⟨h, hm, rfl⟩
   obtain ⟨q, hq⟩ := Option.isSome_iff_exists.mp (mem_due.mp hm)
   show mStep dss st.1 st.2 h = some (nx dss st.1 st.2 h)
   unfold nx
   rw [hq]
   rfl
 · intro e
   refine ⟨p.1, mem_due.mpr (by rw [e]; rfl), ?_⟩
   unfold nx
   rw [e]
   rfl
theorem way_run {dss : List (List Dd)} {s0 : Sn} {row : List Int} {st : Sn} (w : Way (nxL dss) s0 row st) : mRun dss s0.1 s0.2 row = some st := by
 induction w with
 | nil => rfl
 | snoc w hp ih =>
   rw [mRun_append, ih]
   show mRun dss _ _ [_] = _
   rw [mRun_one]
   exact mem_nxL.mp hp
theorem run_way {dss : List (List Dd)} {s0 : Sn} : ∀ (n : Nat) (row : List Int) (st : Sn), row.length = n → mRun dss s0.1 s0.2 row = some st → Way (nxL dss) s0 row st
 | 0, row, st, hl, h => by
   rw [List.length_eq_zero_iff.mp hl] at h ⊢
   cases h
   exact .nil
 | n + 1, row, st, hl, h => by
   obtain ⟨r1, g, rfl⟩ : ∃ r1 g, row = r1 ++ [g] := ⟨row.dropLast, row.getLast (fun z => by rw [z] at hl; cases hl), (List.dropLast_concat_getLast _).symm⟩
   rw [List.length_append] at hl
   have hl : r1.length + 1 = n + 1 := hl
   rw [mRun_append] at h
   cases e : mRun dss s0.1 s0.2 r1 with
   | none => rw [e] at h; cases h
   | some q =>
     rw [e] at h
     have h : mRun dss q.1 q.2 [g] = some st := h
     rw [mRun_one] at h
     exact Way.snoc (p := (g, st)) (run_way n r1 q (by omega) e) (mem_nxL.mpr h)
theorem way_sl {bx : Int} {dss : List (List Dd)} (hd : HD bx dss) {row : List Int} {st : Sn} (w : Way (nxL dss) (s00 bx dss) row st) : SL bx dss st.1 st.2 ∧ Rch dss (s00 bx dss) st := by
 refine ⟨?_, row, way_run w⟩
 induction w with
 | nil => exact SL.first
 | snoc w hp ih => exact SL.step hd ih (mem_nxL.mp hp)
theorem way_len {bx : Int} {dss : List (List Dd)} (hd : HD bx dss) {row : List Int} {st : Sn} (w : Way (nxL dss) (s00 bx dss) row st) : ((row.length : Nat) : Int) ≤ st.1.sum := by
 induction w with
 | nil =>
   show (0 : Int) ≤ (zs dss.length).sum
   exact sum_nonneg fun x hx => by rw [(List.mem_replicate.mp hx).2]; exact Int.le_refl 0
 | @snoc row st p w hp ih =>
   have e := mem_nxL.mp hp
   have S := (way_sl hd w).1
   obtain ⟨k, d, ek, hk, ed, _, er⟩ := zxe e
   rw [er]
   show (((row ++ [p.1]).length : Nat) : Int) ≤ (st.1.set k (st.1.getD k 0 + 1 + aftP d st.2)).sum
   rw [sum_set _ _ _ (by rw [S.sd.lp]; exact hk), List.length_append]
   have := aftP_nn (ns := st.2) (cur_in hd ed)
   show ((row.length + 1 : Nat) : Int) ≤ _
   omega
theorem way_120 {bx : Int} {dss : List (List Dd)} (hd : HD bx dss) {row : List Int} {st : Sn} (w : Way (nxL dss) (s00 bx dss) row st) : row.length ≤ 120 := by
 have h1 := way_len hd w
 have S := (way_sl hd w).1
 have h2 : ∀ x ∈ st.1, x ≤ 30 := fun x hx => by
  obtain ⟨j, hj, rfl⟩ := List.mem_iff_getElem.mp hx
  have := S.sd.pl j
  rw [List.getD_eq_getElem?_getD, List.getElem?_eq_getElem hj] at this
  have h3 : ((dss.getD j []).length : Int) ≤ 30 := by
   have := hd.few (dss.getD j []) (getD_mem (by rw [← S.sd.lp]; exact hj))
   omega
  have this : st.1[j] ≤ ((dss.getD j []).length : Int) := this
  omega
 have h3 := sum_bound h2
 have n4 := hd.n4
 rw [S.sd.lp] at h3
 have : ((dss.length : Nat) : Int) * 30 ≤ 120 := by omega
 omega
noncomputable def kvG (R : List Eh) : List (KeyN × V) := R.map fun r => (kS r.1, V.ref r.2.2)
structure RNt (P : Program) (w : World) (H : Hp) (d : Addr) (R : List Eh) : Prop where
 n : NAt P w H d (kvG R)
 rows : ∀ r ∈ R, H r.2.2 = some (.lst (r.2.1.map V.int))
section
variable {P : Program} {w : World} {H H' : Hp} {d : Addr} {R : List Eh}
theorem RNt.same (r : RNt P w H d R) (s : Same H H') : RNt P w H' d R := ⟨r.n.same s, fun x hx => s _ _ (r.rows x hx)⟩
theorem kvG_keys (R : List Eh) : (kvG R).map (·.1) = (keysG R).map kS := by unfold kvG keysG; rw [List.map_map, List.map_map]; rfl
theorem kvG_len (R : List Eh) : (kvG R).length = R.length := by unfold kvG; rw [List.length_map]
theorem kvG_get {R : List Eh} {st : Sn} (h : st ∈ keysG R) : ∃ r ∈ R, r.1 = st ∧ valV (kvG R) (kS st) = some (.ref r.2.2) := by
 induction R with
 | nil => cases h
 | cons a R ih =>
   by_cases e : a.1 = st
   · exact ⟨a, List.mem_cons_self, e, valV_pos (p := (kS a.1, V.ref a.2.2)) (by show kS a.1 = kS st; rw [e])⟩
   · have h2 : st ∈ keysG R := by
      rcases List.mem_cons.mp (show st ∈ a.1 :: keysG R from h) with z | z
      · exact absurd z.symm e
      · exact z
     obtain ⟨r, h3, h4, h5⟩ := ih h2
     exact ⟨r, List.mem_cons_of_mem _ h3, h4, (valV_neg (p := (kS a.1, V.ref a.2.2)) (fun z => e (kS_inj z))).trans h5⟩
theorem kvG_some (R : List Eh) (st : Sn) : (valV (kvG R) (kS st)).isSome = decide (st ∈ keysG R) := by
 rw [val_mem, kvG_keys]
 by_cases c : st ∈ keysG R
 · rw [decide_eq_true c, decide_eq_true (kS_mem.mpr c)]
 · rw [decide_eq_false c, decide_eq_false (fun z => c (kS_mem.mp z))]
theorem kvG_put {R : List Eh} {st : Sn} (h : st ∉ keysG R) (row : List Int) (a : Addr) : putK (kvG R) (kS st) (.ref a) = kvG (R ++ [(st, row, a)]) := by
 have hv : valV (kvG R) (kS st) = none := by
  cases z : valV (kvG R) (kS st) with
  | none => rfl
  | some v =>
    have := kvG_some R st
    rw [z, decide_eq_false h] at this
    cases this
 rw [putK_new _ hv]
 unfold kvG
 rw [List.map_append]
 rfl
end
theorem few_G {bx : Int} {dss : List (List Dd)} {R : List Eh} (hd : HD bx dss) (C : CrD bx dss) (nd : (keysG R).Nodup) (way : ∀ r ∈ R, Way (nxL dss) (s00 bx dss) r.2.1 r.1) : R.length ≤ 1250 := by
 have := C _ nd fun st hst => by
  obtain ⟨r, hr, rfl⟩ := mem_keysG.mp hst
  exact (way_sl hd (way r hr)).2
 unfold keysG at this
 rwa [List.length_map] at this
structure InN (P : Program) (w : World) (H2 : Hp) (d fa : Addr) (bx : Int) (dss : List (List Dd)) (dep : Nat) (H' : Hp) (R : List Eh) (N L : List Sn) (i : Nat) : Prop where
 b : But2 d fa H2 H'
 r : RNt P w H' d R
 bf : Bg (nxL dss) (s00 bx dss) dep R N L i
 f : ∃ ys, H' fa = some (.lst ys) ∧ L2.IsL H' (L.map tS) ys
 len : L.length ≤ R.length
 nf : ∀ r ∈ R, r.2.2 ≠ fa
theorem InN.same {P : Program} {w : World} {H2 H' H'' : Hp} {d f : Addr} {bx : Int} {dss : List (List Dd)} {dep i : Nat} {R : List Eh} {N L : List Sn} (x : InN P w H2 d f bx dss dep H' R N L i) (s : Same H' H'') : InN P w H2 d f bx dss dep H'' R N L i := by
 obtain ⟨ys, e, il⟩ := x.f
 exact ⟨x.b.trans s.but2, x.r.same s, x.bf, ⟨ys, s _ _ e, il.mono s⟩, x.len, x.nf⟩
theorem del_tups {H : Hp} {c : Addr} {o : Obj} (h : H c = some (kno o)) : Tups H (del H c) := fun b xs e => by rw [zxc (fun z => by rw [z, h] at e; cases e)]; exact e
theorem back_same {H H' : Hp} {c : Addr} {o : Obj} (h : H c = some (kno o)) (s : Same (del H c) H') : Same H (upd H' c (kno o)) := fun b u e => by
 by_cases z : b = c
 · rw [z] at e ⊢
   rw [h] at e
   cases e
   exact upd_same
 · rw [zqf z]
   exact s b u (by rw [zxc z]; exact e)
theorem get_tS {H : Hp} {L : List Sn} {xs : List V} {i : Nat} {x : V} (h : L2.IsL H (L.map tS) xs) (e : xs[i]? = some x) : ∃ st, L[i]? = some st ∧ Is H (tS st) x := by
 obtain ⟨t, ht, it⟩ := h.get' e
 rw [List.getElem?_map] at ht
 cases eg : L[i]? with
 | none => rw [eg] at ht; cases ht
 | some g => rw [eg] at ht; cases ht; exact ⟨g, rfl, it⟩
noncomputable def spRa (P : Program) (w : World) (mg : Str → Option Value) : Sp := fun vs H Q _ => ∃ bx dss v vh f c, vs = [v, .ref f, .int 3000] ∧ HD bx dss ∧ CrD bx dss ∧ Is H (tS (s00 bx dss)) v ∧ Is H (hT bx dss) vh ∧ LamAt mg H f c vh ∧
 ∀ d R H', Same H H' → H d = none → RNt P w H' d R → Bh (nxL dss) (s00 bx dss) R → Q (.ref d) H'
theorem sc_rowsTo : FnScope ["first", "steps", "most", "rows", "newest", "later", "stand", "step", "stand_behind"] ["first", "steps", "most"] (defScope s_rowsTo) := ⟨rfl, rfl, rfl, by decide +kernel, rfl, by decide +kernel, by decide +kernel⟩
theorem ok_rowsTo (D : Def K mg "rows_to_all" s_rowsTo) (T : Txt K mg) (o1 : Ok P w K mg base "steps_from" 5 ["house", "stand"] spSf) : Ok P w K mg base "rows_to_all" 7 ["first", "steps", "most"] (spRa P w mg) := by
 refine mkOk D sc_rowsTo (fun _ _ _ _ _ _ us hl => (match us, hl with | [_, _, _], _ => rfl)) (fun vs H Q E ⟨_, _, _, _, _, _, e, _⟩ => by rw [e]; rfl) fun f cdv A outer s H vs Q E hr h => ?_
 obtain ⟨bx, dss, v, vh, fl, c, rfl, hd, C, hv, hh, hL, q⟩ := h
 have nd := sc_rowsTo.nd
 have hun := hr.units
 have hu3 : A.units + 3 + 3 < cLine := by
  have : (A.deeper (envOfC "rows_to_all" (defScope s_rowsTo) s.heap.objs.size f cdv)).units = A.units + 3 := rfl
  omega
 refine ⟨_, zqb (zqq (i := 3) nd rfl (Or.inl rfl) (pe_ndisp1 hu3 (pv 0) (zxo zqc)))
  (zqb (zqq (i := 4) nd rfl (Or.inl rfl) (zxo (zqa (pv 0) zqc)))
  (zqb (ps_while PassesOwn.never (PW.pt (zxv (pt_truth (pv 4) (fun _ => rfl)) (zxm (zql op_le (zqk call_lenN rfl T.len zqz (zqa (pv 3) zqc)) (pv 2) (nomark _)))))
   (zqb (zqq (i := 5) nd rfl (Or.inl rfl) (zxo zqc))
   (zqb (ps_for PassesOwn.never rfl (zxf (pv 4)) (pg_name (i := 6) nd rfl (Or.inl rfl))
    (zqe (ps_for PassesOwn.never rfl (zxf (pe_callW (i := 1) (qual := lmQual) (params := lmArgs) (body := lmBody) (pm := (mg "__name__").getD .none) lm_sc hr rfl (Or.inl rfl) (fun _ _ _ _ => rfl) (fun _ _ _ _ _ => zqp o1 (hr.deeper _) (zqa (pv 1) (zqa (pv 0) zqc))) (zqa (pv 6) zqc))) (pg_tup rfl (pgs_cons (pg_name (i := 7) nd rfl (Or.inl rfl)) (pgs_cons (pg_name (i := 8) nd rfl (Or.inl rfl)) zxn)))
     (zqe (zqv (pt_cmp (pc_nnotin hu3 (pv 8) (pv 3)))
      (zqb (ps_nput hu3 (pv 3) (pv 8) (zqt op_cat (pe_nget hu3 (pv 3) (pv 6) (fun _ _ => rfl)) (pe_lst (zqa (pv 7) zqc))) rfl)
      (zqe (ps_expr (pe_bm PySem.F.plainAttrs_list PySem.F.slot_list_append PySem.F.type_list_append mt_append (pv 5) (zqa (pv 8) zqc))))) zqi)))))
   (zqe (zqq (i := 4) nd rfl (Or.inl rfl) (pv 5))))))
  (zqe (zqh (pv 3))))), ?_⟩
 obtain ⟨bv, zv, rfl, hbv, izv⟩ := id hv
 refine fun d o0 hd0 hN0 => ⟨_, rfl, by show 0 ≤ 1000; decide, fun r0 H0 s0 hr0 g0 => ⟨bv, kS (s00 bx dss), rfl, (hv.mono (Same.new hd0 _)).mono s0, hN0.same s0, fun o1' hN1 => ?_⟩⟩
 have nr0 : r0 ≠ d := (hN0.same s0).ne g0
 have s1 : Same H (upd H0 d o1') := fun b o e => by rw [zqf (zqg e hd0)]; exact s0 b o (by rw [zqf (zqg e hd0)]; exact e)
 have hR1 : RNt P w (upd H0 d o1') d [(s00 bx dss, [], r0)] := ⟨hN1, fun r hr => by
  rw [List.mem_singleton.mp hr]
  show upd H0 d o1' r0 = some (.lst [])
  rw [zqf nr0]
  exact g0⟩
 generalize upd H0 d o1' = H1 at s1 hR1 ⊢
 refine ⟨_, rfl, by show 1 ≤ 1000; decide, fun nw H2 s2 hnw g2 => ?_⟩
 have s12 := s1.trans s2
 refine ⟨fun n σ H' => ∃ nw N R dep x5 x6 x7 x8, σ = [some (.ref bv), some (.ref fl), some (.int 3000), some (.ref d), some (.ref nw), x5, x6, x7, x8] ∧ Same H H' ∧ RNt P w H' d R ∧ Bg (nxL dss) (s00 bx dss) dep R N [] 0 ∧ (∃ ys, H' nw = some (.lst ys) ∧ L2.IsL H' (N.map tS) ys) ∧ n + dep = 121 ∧ N.length ≤ 1250,
  ⟨121, nw, [s00 bx dss], [(s00 bx dss, [], r0)], 0, none, none, none, none, rfl, s12, hR1.same s2, Bg.start r0, ⟨_, g2, IsL.one (hv.mono s12)⟩, rfl, by show 1 ≤ 1250; decide⟩, ?_⟩
 rintro n σ H2 ⟨nw, N, R, dep, x5, x6, x7, x8, rfl, s2, hR, bf, iN, hn, hfew⟩
 obtain ⟨xs, hl, ixs⟩ := iN
 have hxl := ixs.length
 rw [List.length_map] at hxl
 refine ⟨_, rfl, _, .inl ⟨_, SqL.of hl, rfl⟩, ?_⟩
 cases hN : N with
 | nil =>
   rw [hN] at hxl bf
   have hx0 : xs = [] := List.length_eq_zero_iff.mp hxl
   subst hx0
   refine iteF (iteF ?_)
   exact ⟨_, rfl, q d R H2 s2 hd0 hR bf.end'⟩
 | cons g0 N0 =>
   have hxe : (!xs.isEmpty) = true := by
    cases xs with
    | nil => rw [hN] at hxl; cases hxl
    | cons _ _ => rfl
   rw [hxe]
   have hRl := few_G hd C bf.nd bf.way
   refine iteT ⟨_, rfl, d, kvG R, rfl, hR.n, _, rfl, _, _, rfl, rfl, _, rfl, ?_⟩
   rw [decide_eq_true (show (((kvG R).length : Nat) : Int) ≤ 3000 by rw [kvG_len]; omega)]
   refine iteT ?_
   have hdep : dep ≤ 120 := by
    obtain ⟨r, hr, e1, e2⟩ := bf.nr g0 (by rw [hN]; exact List.mem_cons_self)
    have := way_120 hd (bf.way r hr)
    omega
   refine ⟨fun σ' H' => ∃ n', n' < n ∧ ∃ nw N R dep x5 x6 x7 x8, σ' = [some (.ref bv), some (.ref fl), some (.int 3000), some (.ref d), some (.ref nw), x5, x6, x7, x8] ∧ Same H H' ∧ RNt P w H' d R ∧ Bg (nxL dss) (s00 bx dss) dep R N [] 0 ∧ (∃ ys, H' nw = some (.lst ys) ∧ L2.IsL H' (N.map tS) ys) ∧ n' + dep = 121 ∧ N.length ≤ 1250, fun σ' H' h => h, ?_⟩
   refine ⟨by show 0 ≤ 1000; decide, fun fr H4 s4 hfr g4 => ?_⟩
   have s04 := s2.trans s4
   have hR4 := hR.same s4
   have hl4 := s4 _ _ hl
   have hi4 := ixs.mono s4
   have hfrH : H fr = none := Same.none s2 hfr
   obtain ⟨xs4, hd4, _⟩ := id hR4.n
   have nfd : fr ≠ d := hR4.n.ne g4
   have nld : nw ≠ d := hR4.n.ne hl4
   have nlf : nw ≠ fr := fun y => by rw [← y, hl] at hfr; cases hfr
   have HS : ∀ {H' : Hp}, But2 d fr H4 H' → Same H H' := fun b c o e => b c o (zqg e hd0) (zqg e hfrH) (s04 _ _ e)
   have TP : ∀ {H' : Hp}, But2 d fr H4 H' → Tups H4 H' := fun b c xs e => b c _ (ne_of e hd4 (fun z => by cases z)) (ne_of e g4 (fun z => by cases z)) e
   have I4 : InN P w H4 d fr bx dss dep H4 R N [] 0 := ⟨But2.refl _ _ _, hR4, bf, ⟨[], g4, rfl⟩, Nat.zero_le _, fun r hr z => by
    have h1 := hR.rows r hr
    rw [z, hfr] at h1
    cases h1⟩
   refine ⟨_, rfl, nw, rfl, ⟨_, SqL.of hl4⟩, ?_⟩
   refine for_list (xs := xs) (fun i σ H' => ∃ R L x6 x7 x8, σ = [some (.ref bv), some (.ref fl), some (.int 3000), some (.ref d), some (.ref nw), some (.ref fr), x6, x7, x8] ∧ InN P w H4 d fr bx dss dep H' R N L i) ⟨R, [], _, _, _, rfl, I4⟩ (fun i σ H' _ ⟨_, _, _, _, _, _, x⟩ => SqL.of (x.b _ _ nld nlf hl4)) ?_ ?_
   rotate_left
   · rintro σ H5 ⟨R', L, y6, y7, y8, rfl, I5⟩
     have hRl5 := few_G hd C I5.bf.nd I5.bf.way
     have := I5.len
     have bf5 := I5.bf
     rw [hxl] at bf5
     exact ⟨_, rfl, n - 1, by omega, fr, L, R', dep + 1, _, _, _, _, rfl, HS I5.b, I5.r, bf5.level, I5.f, by omega, by omega⟩
   rintro i x σ H5 hx5 ⟨R', L, y6, y7, y8, rfl, I5⟩
   obtain ⟨st, eg, ig4⟩ := get_tS hi4 hx5
   have hgN := List.mem_of_getElem? eg
   have ig := ig4.tups (TP I5.b) fro_tt
   obtain ⟨r, hr5, er, lr⟩ := I5.bf.nr st hgN
   have Sst : SL bx dss st.1 st.2 := by rw [← er]; exact (way_sl hd (I5.bf.way r hr5)).1
   have hh5 := hh.mono (HS I5.b)
   obtain ⟨c', ctv, oc, occ, uk, L1, L2, L3, L4, L5, L6⟩ := hL.same (HS I5.b)
   refine ⟨_, rfl, _, rfl, x, c, c', ctv, oc, occ, vh, uk, rfl, L1, L2, L3, L4, L5, L6, ?_⟩
   refine ⟨_, rfl, _, rfl, bx, dss, st.1, st.2, vh, x, rfl, (show At H5 bx dss st.1 st.2 vh x from ⟨hd, Sst.sd, hh5, ig⟩).tups (del_tups L4), fun lg ys H' s' hlg g' i' nc' => ?_⟩
   have s6 := back_same L4 s'
   have nlc : lg ≠ c := fun z => by rw [z, nc'] at g'; cases g'
   have hlg5 : H5 lg = none := by rw [← hlg, zxc nlc]
   have g6 : upd H' c (kno oc) lg = some (.lst ys) := by rw [zqf nlc]; exact g'
   have i6 := i'.mono (Same.new nc' (kno oc))
   generalize upd H' c (kno oc) = H6 at s6 g6 i6 ⊢
   clear s' hlg g' i' nc' nlc
   have I6 := I5.same s6
   have ig6 := ig.mono s6
   obtain ⟨ag, zag, rfl, hag, _⟩ := id ig6
   have hyl := i6.length
   rw [List.length_map] at hyl
   obtain ⟨xs6, hd6, _⟩ := id I6.r.n
   obtain ⟨yf6, gf6, _⟩ := id I6.f
   have nlg : lg ≠ d ∧ lg ≠ fr := by
    obtain ⟨yf5, gf5, _⟩ := I5.f
    obtain ⟨xs5, hd5, _⟩ := id I5.r.n
    exact ⟨fun y => (by rw [y, hd5] at hlg5; cases hlg5), fun y => (by rw [y, gf5] at hlg5; cases hlg5)⟩
   refine ⟨lg, rfl, ⟨_, SqL.of g6⟩, ?_⟩
   refine for_list (xs := ys) (fun j σ H' => ∃ R L x7 x8, σ = [some (.ref bv), some (.ref fl), some (.int 3000), some (.ref d), some (.ref nw), some (.ref fr), some (.ref ag), x7, x8] ∧ But2 d fr H6 H' ∧ InN P w H4 d fr bx dss dep H' R N L i ∧ ∀ p ∈ (nxL dss st).take j, p.2 ∈ keysG R) ⟨R', L, _, _, rfl, But2.refl _ _ _, I6, fun g' h => (by cases h)⟩ (fun j σ H' _ ⟨_, _, _, _, _, b, _⟩ => SqL.of (b _ _ nlg.1 nlg.2 g6)) ?_ ?_
   rotate_left
   · rintro σ H8 ⟨R8, L8, z7, z8, rfl, b8, I8, hcl⟩
     have e : ys.length = (nxL dss st).length := by unfold nxL; rw [List.length_map]; exact hyl
     rw [e, List.take_length] at hcl
     exact ⟨R8, L8, _, _, _, rfl, I8.b, I8.r, I8.bf.done eg hcl, I8.f, I8.len, I8.nf⟩
   rintro j x σ H8 hx ⟨R8, L8, z7, z8, rfl, b8, I8, hcl⟩
   have tp8 : Tups H6 H8 := fun c xs e => b8 c _ (ne_of e hd6 (fun z => by cases z)) (ne_of e gf6 (fun z => by cases z)) e
   obtain ⟨t, ht, it⟩ := i6.get' hx
   rw [List.getElem?_map] at ht
   cases eh : (due dss st.1 st.2)[j]? with
   | none => rw [eh] at ht; cases ht
   | some h =>
   rw [eh] at ht
   cases ht
   have hpN : (nxL dss st)[j]? = some (h, nx dss st.1 st.2 h) := by unfold nxL; rw [List.getElem?_map, eh]; rfl
   have hpm := List.mem_of_getElem? hpN
   obtain ⟨ap, zs', rfl, hap, vg, r1, rfl, ivg, vm, r2, rfl, ivm, hnil⟩ := it
   cases (show r2 = [] from hnil)
   cases (show vg = .int h from ivg)
   have hap8 := tp8 _ _ hap
   have ivm8 : Is H8 (tS (nx dss st.1 st.2 h)) vm := ivm.tups tp8 fro_tt
   have igx : Is H8 (tS st) (.ref ag) := ig6.tups tp8 fro_tt
   refine ⟨ap, _, rfl, SqT.of hap8, rfl, _, _, rfl, _, _, rfl, rfl, ?_⟩
   obtain ⟨au, zau, rfl, hau, _⟩ := id ivm8
   refine ⟨_, rfl, _, rfl, d, au, kvG R8, kS (nx dss st.1 st.2 h), rfl, rfl, I8.r.n, ivm8, _, rfl, ?_⟩
   rw [kvG_some]
   have step1 : ∀ {K2 : List Sn}, (∀ q, q ∈ keysG R8 → q ∈ K2) → nx dss st.1 st.2 h ∈ K2 → ∀ p ∈ (nxL dss st).take (j + 1), p.2 ∈ K2 := fun h1 h2 g2 hg2 => by
    rw [List.take_add_one, hpN] at hg2
    rcases List.mem_append.mp hg2 with y | y
    · exact h1 _ (hcl g2 y)
    · have y : g2 ∈ [(h, nx dss st.1 st.2 h)] := y
      rw [List.mem_singleton.mp y]
      exact h2
   by_cases z : nx dss st.1 st.2 h ∈ keysG R8
   · rw [decide_eq_true z]
     exact iteF ⟨R8, L8, _, _, rfl, b8, I8, step1 (fun _ h => h) z⟩
   rw [decide_eq_false z]
   refine iteT ?_
   have hgk : st ∈ keysG R8 := by
    obtain ⟨r, h1, h2, _⟩ := I8.bf.nr st hgN
    exact mem_keysG.mpr ⟨r, h1, h2⟩
   obtain ⟨r8, hr8, er8, hget⟩ := kvG_get hgk
   have lr8 : r8.2.1.length = dep := by
    obtain ⟨r, h1, h2, h3⟩ := I8.bf.nr st hgN
    rw [one_keyG I8.bf.nd hr8 h1 (er8.trans h2.symm)]
    exact h3
   have hrow8 := I8.r.rows r8 hr8
   have hRl8 := few_G hd C I8.bf.nd I8.bf.way
   refine ⟨_, rfl, _, rfl, d, ag, kvG R8, kS st, _, rfl, rfl, I8.r.n, igx, hget, _, rfl, (by show 1 ≤ sizeLine; decide), fun p9 hp9 => ?_⟩
   have s9 := Same.new hp9 (.lst [V.int h])
   have g9 : upd H8 p9 (.lst [V.int h]) p9 = some (.lst [V.int h]) := upd_same
   generalize upd H8 p9 (.lst [V.int h]) = H9 at s9 g9 ⊢
   refine ⟨r8.2.2, p9, _, _, rfl, rfl, s9 _ _ hrow8, g9, zqr (by rw [List.length_map, lr8]; show dep + 1 ≤ 1000; omega), fun pr hpr => ?_⟩
   have s10 := Same.new hpr (.lst (r8.2.1.map V.int ++ [V.int h]))
   have g10 : upd H9 pr (.lst (r8.2.1.map V.int ++ [V.int h])) pr = some (.lst ((r8.2.1 ++ [h]).map V.int)) := by rw [upd_same, List.map_append]; rfl
   generalize upd H9 pr (.lst (r8.2.1.map V.int ++ [V.int h])) = H10 at s10 g10 ⊢
   have s810 := s9.trans s10
   have I10 := I8.same s810
   have b10 := b8.trans (Same.but2 (d := d) (f := fr) s810)
   have iu := ivm8.mono s810
   obtain ⟨yf, gf, if10⟩ := I10.f
   refine ⟨_, rfl, _, rfl, d, au, kvG R8, kS (nx dss st.1 st.2 h), rfl, rfl, I10.r.n, iu, big_lt (by rw [kvG_len]; omega), fun o' hN' => ?_⟩
   rw [kvG_put z (r8.2.1 ++ [h]) pr] at hN'
   have npd : pr ≠ d := I10.r.n.ne g10
   have tpd : Tups H10 (upd H10 d o') := I10.r.n.tups
   have hR11 : RNt P w (upd H10 d o') d (R8 ++ [(nx dss st.1 st.2 h, r8.2.1 ++ [h], pr)]) := ⟨hN', fun r hr => by
    rcases List.mem_append.mp hr with y | y
    · have := I10.r.rows r y
      rw [zqf (I10.r.n.ne this)]
      exact this
    · rw [List.mem_singleton.mp y]
      show upd H10 d o' pr = _
      rw [zqf npd]
      exact g10⟩
   have gf11 : upd H10 d o' fr = some (.lst yf) := by rw [zqf nfd]; exact gf
   have b11 : But2 d fr H10 (upd H10 d o') := But2.updD
   have iu11 := iu.tups tpd fro_tt
   have if11 := if10.tups tpd (fro_rowS L8)
   generalize upd H10 d o' = H11 at hR11 gf11 b11 iu11 if11 ⊢
   have hfl := if11.length
   rw [List.length_map] at hfl
   have hl8 := I8.len
   refine ⟨_, rfl, .inl ⟨rfl, _, SqL.of gf11⟩, _, rfl, fr, yf, _, rfl, rfl, gf11, big_lt (by omega), ?_⟩
   have tpf : Tups H11 (upd H11 fr (.lst (yf ++ [.ref au]))) := Tups.upd gf11 (fun zs z => by cases z)
   have b12 : But2 d fr H11 (upd H11 fr (.lst (yf ++ [.ref au]))) := But2.updF
   have gf12 : upd H11 fr (.lst (yf ++ [.ref au])) fr = some (.lst (yf ++ [.ref au])) := upd_same
   have nf12 : ∀ r ∈ R8 ++ [(nx dss st.1 st.2 h, r8.2.1 ++ [h], pr)], r.2.2 ≠ fr := fun r hr => by
    rcases List.mem_append.mp hr with y | y
    · exact I8.nf r y
    · rw [List.mem_singleton.mp y]
      intro e
      have e : pr = fr := e
      obtain ⟨yf8, gf8, _⟩ := I8.f
      rw [e, s9 _ _ gf8] at hpr
      cases hpr
   have hR12 : RNt P w (upd H11 fr (.lst (yf ++ [.ref au]))) d (R8 ++ [(nx dss st.1 st.2 h, r8.2.1 ++ [h], pr)]) := ⟨hR11.n.by tpf (by rw [zqf (Ne.symm nfd)]), fun r hr => by
    rw [zqf (nf12 r hr)]
    exact hR11.rows r hr⟩
   have iu12 := iu11.tups tpf fro_tt
   have if12 := if11.tups tpf (fro_rowS L8)
   generalize upd H11 fr (.lst (yf ++ [.ref au])) = H12 at b12 gf12 hR12 iu12 if12 ⊢
   have bf12 := I8.bf.step (r := r8) (p := (h, nx dss st.1 st.2 h)) hr8 lr8 (by rw [er8]; exact hpm) z pr
   refine ⟨R8 ++ [(nx dss st.1 st.2 h, r8.2.1 ++ [h], pr)], L8 ++ [nx dss st.1 st.2 h], _, _, rfl, b10.trans (b11.trans b12), ⟨I10.b.trans (b11.trans b12), hR12, bf12, ⟨_, gf12, ?_⟩, ?_, nf12⟩, step1 (fun q hq => ?_) ?_⟩
   · rw [List.map_append]
     exact IsL.append if12 (IsL.one iu12)
   · rw [List.length_append, List.length_append, List.length_singleton, List.length_singleton]
     omega
   · rw [keysG_snoc]
     exact List.mem_append_left _ hq
   · rw [keysG_snoc]
     exact List.mem_append_right _ (List.mem_singleton.mpr rfl)
abbrev s_earlyW : Stmt := top 46
abbrev s_stuckW : Stmt := top 47
noncomputable def eaL (dss : List (List Dd)) (st : Sn) : List Int := (due dss st.1 st.2).filter fun h => eAt dss st.1 st.2 h
noncomputable def spEw (P : Program) (w : World) : Sp := fun vs H Q _ => ∃ bx dss vh d R, vs = [vh, .ref d] ∧ HD bx dss ∧ Is H (hT bx dss) vh ∧ RNt P w H d R ∧ (∀ r ∈ R, SL bx dss r.1.1 r.1.2 ∧ r.2.1.length ≤ 120) ∧ ((∀ r ∈ R, eaL dss r.1 = []) → ∀ H', Same H H' → Q .non H') ∧
 ∀ (i : Nat) (r : Eh) (h : Int) rest, R[i]? = some r → (∀ r' ∈ R.take i, eaL dss r'.1 = []) → eaL dss r.1 = h :: rest → ∀ l H', Same H H' → H l = none → H' l = some (.lst ((r.2.1 ++ [h]).map V.int)) → Q (.ref l) H'
noncomputable def spSw (P : Program) (w : World) : Sp := fun vs H Q _ => ∃ bx dss vh d R, vs = [vh, .ref d] ∧ HD bx dss ∧ Is H (hT bx dss) vh ∧ RNt P w H d R ∧ (∀ r ∈ R, SL bx dss r.1.1 r.1.2 ∧ r.2.1.length ≤ 120) ∧ ((∀ r ∈ R, mStp dss r.1.1 r.1.2 = false) → ∀ H', Same H H' → Q .non H') ∧
 ∀ (i : Nat) (r : Eh), R[i]? = some r → (∀ r' ∈ R.take i, mStp dss r'.1.1 r'.1.2 = false) → mStp dss r.1.1 r.1.2 = true → ∀ H', Same H H' → Q (.ref r.2.2) H'
theorem sc_earlyW : FnScope ["house", "rows", "stand", "row", "early"] ["house", "rows"] (defScope s_earlyW) := ⟨rfl, rfl, rfl, by decide +kernel, rfl, by decide +kernel, by decide +kernel⟩
theorem ok_earlyW (D : Def K mg "early_weaving" s_earlyW) (T : Txt K mg) (o1 : Ok P w K mg base "going" 4 ["house", "stand"] spGo) (o2 : Ok P w K mg base "is_early_go" 2 ["house", "stand", "hand"] spEg) : Ok P w K mg base "early_weaving" 5 ["house", "rows"] (spEw P w) := by
 refine mkOk D sc_earlyW (fun _ _ _ _ _ _ us hl => (match us, hl with | [_, _], _ => rfl)) (fun vs H Q E ⟨_, _, _, _, _, e, _⟩ => by rw [e]; rfl) fun f cdv A outer s H vs Q E hr h => ?_
 obtain ⟨bx, dss, vh, d, R, rfl, hd, hh, hR, hS, q0, q1⟩ := h
 have nd := sc_earlyW.nd
 have r2 := hr.mono (show 2 ≤ 4 by decide)
 refine ⟨_, zqb (ps_frzN (ps_for PassesOwn.never rfl (pi_itemsN (pv 1)) (pg_tup rfl (pgs_cons (pg_name (i := 2) nd rfl (Or.inr rfl)) (pgs_cons (pg_name (i := 3) nd rfl (Or.inl rfl)) zxn)))
   (zqb (ps_lc (i := 4) (own := ["hand"]) (cap := [0, 2]) rfl (lcScope (defScope s_earlyW) rfl rfl (by decide +kernel) (by decide +kernel) (by decide +kernel) ⟨⟨_, rfl, .inl rfl, noLoc rfl⟩, ⟨_, rfl, .inl rfl, noLoc rfl⟩, trivial⟩) (zxf (zqp o1 hr (zqa (pv 0) (zqa (pv 2) zqc))))
    (fun _ _ _ _ => pg_name (i := 0) (by show (["hand", "house", "stand"] : List Str).Nodup; decide +kernel) rfl (Or.inl rfl)) (fun _ _ _ _ => pif_one (zqy (zqp o2 r2 (zqa (pv 1) (zqa (pv 2) (zqa (pv 0) zqc)))))) (fun _ _ _ _ => pv 0) nd rfl rfl (by with_unfolding_all rfl))
   (zqe (zqv (pt_truth (pv 4) (fun _ => rfl)) (zqe (zqh (zqt op_cat (pv 3) (pe_slice sl_list (pv 4) po_none (po_some zqd))))) zqi)))))
  (zqe (zqh pe_non)), ?_⟩
 refine ⟨d, kvG R, hR.n, fun o u hu hF0 => ?_⟩
 have sF : ∀ {H' : Hp}, Same (upd H d (.frz o u)) H' → H' d = some (.frz o u) ∧ Same H (upd H' d u) := fun {H'} s' => by
  refine ⟨s' _ _ upd_same, fun b x e => ?_⟩
  by_cases z : b = d
  · rw [z] at e ⊢
    rw [hu] at e
    cases e
    exact upd_same
  · rw [zqf z]
    exact s' _ _ (by rw [zqf z]; exact e)
 obtain ⟨xs0, hd0, _⟩ := id hR.n
 have tpF : Tups H (upd H d (.frz o u)) := Tups.upd hd0 (fun zs z => by cases z)
 have hhF := hh.tups tpF hd.fro
 have rowF : ∀ r ∈ R, upd H d (.frz o u) r.2.2 = some (.lst (r.2.1.map V.int)) := fun r hr => by
  have := hR.rows r hr
  rw [zqf (hR.n.ne this)]
  exact this
 refine ⟨_, rfl, d, o, kvG R, rfl, hF0, ?_⟩
 refine for_itemsN (fun i σ H' => ∃ x2 x3 x4, σ = [some vh, some (.ref d), x2, x3, x4] ∧ Same (upd H d (.frz o u)) H' ∧ ∀ r' ∈ R.take i, eaL dss r'.1 = []) ⟨_, _, _, rfl, Same.refl _, fun r h => (by cases h)⟩ (fun i σ H' _ ⟨_, _, _, _, s', _⟩ => hF0.same s') ?_ ?_
 rotate_left
 · rintro σ H6 ⟨x2, x3, x4, rfl, s6, hno⟩
   rw [kvG_len, List.take_length] at hno
   obtain ⟨h1, h2⟩ := sF s6
   exact ⟨h1, q0 hno _ h2⟩
 rintro i kv σ H6 hkv ⟨x2, x3, x4, rfl, s6, hno⟩ p b hp hb
 unfold kvG at hkv
 rw [List.getElem?_map] at hkv
 cases er : R[i]? with
 | none => rw [er] at hkv; cases hkv
 | some r =>
 rw [er] at hkv
 cases hkv
 have hr := List.mem_of_getElem? er
 obtain ⟨Sr, hrl⟩ := hS r hr
 have s7 := Same.new hp (.tup [.ref b, .ref r.2.2])
 have g7 : upd H6 p (.tup [.ref b, .ref r.2.2]) p = some (.tup [.ref b, .ref r.2.2]) := upd_same
 generalize upd H6 p (.tup [.ref b, .ref r.2.2]) = H7 at s7 g7 ⊢
 have s07 := s6.trans s7
 refine ⟨p, _, rfl, SqT.of g7, rfl, _, _, rfl, _, _, rfl, rfl, ?_⟩
 have A7 : At H7 bx dss r.1.1 r.1.2 vh (.ref b) := ⟨hd, Sr.sd, hhF.mono s07, (show Is H6 (tS r.1) (.ref b) from hb).mono s7⟩
 refine ⟨_, rfl, _, rfl, bx, dss, r.1.1, r.1.2, vh, .ref b, rfl, A7, fun lg H8 s8 hlg g8 => ?_⟩
 have n4 := hd.n4
 have hfew : (due dss r.1.1 r.1.2).length ≤ 4 := by
  unfold due
  refine Nat.le_trans (List.length_filter_le _ _) ?_
  rw [List.length_map, List.length_range]
  exact n4
 refine ⟨lg, rfl, ⟨_, SqL.of g8⟩, ?_⟩
 refine lc_list (xs := (due dss r.1.1 r.1.2).map V.int) (fun j ys H' => Same H8 H' ∧ ys = (((due dss r.1.1 r.1.2).take j).filter fun h => eAt dss r.1.1 r.1.2 h).map V.int) ⟨Same.refl H8, rfl⟩ (fun j ys H' hj ⟨s9, e⟩ => ⟨SqL.of (s9 _ _ g8), by rw [e, List.length_map]; have := List.length_filter_le (fun h => eAt dss r.1.1 r.1.2 h) ((due dss r.1.1 r.1.2).take j); rw [List.length_take] at this; exact zqr (by omega)⟩) ?_ ?_
 · rintro j x ys H9 hx ⟨s9, rfl⟩
   rw [List.getElem?_map] at hx
   cases eh : (due dss r.1.1 r.1.2)[j]? with
   | none => rw [eh] at hx; cases hx
   | some h =>
   rw [eh] at hx
   cases hx
   obtain ⟨q', hq'⟩ := Option.isSome_iff_exists.mp (mem_due.mp (List.mem_of_getElem? eh))
   obtain ⟨k, dd, ek, hk, ed, _, _⟩ := zxe hq'
   refine ⟨_, rfl, _, rfl, _, rfl, bx, dss, r.1.1, r.1.2, vh, .ref b, k, dd, by rw [ek]; rfl, (A7.same s8).same s9, hk, ed, fun H10 s10 => ⟨_, rfl, ?_⟩⟩
   have ee : eAt dss r.1.1 r.1.2 h = mEg dss r.1.1 k dd := by
    unfold eAt
    rw [hq', ek, Int.toNat_natCast, ed]
   rw [List.take_add_one, eh, List.filter_append, List.map_append]
   refine ite2 (fun z => ?_) (fun z => ?_)
   · refine ⟨_, rfl, s9.trans s10, ?_⟩
     have : ([h].filter fun h => eAt dss r.1.1 r.1.2 h) = [h] := by simp [ee, z]
     show _ = _ ++ ([h].filter fun h => eAt dss r.1.1 r.1.2 h).map V.int
     rw [this]
     rfl
   · refine ⟨s9.trans s10, ?_⟩
     have : ([h].filter fun h => eAt dss r.1.1 r.1.2 h) = [] := by simp [ee, z]
     show _ = _ ++ ([h].filter fun h => eAt dss r.1.1 r.1.2 h).map V.int
     rw [this, List.map_nil, List.append_nil]
 rintro ys H9 ⟨s9, rfl⟩ le hle
 rw [List.length_map, List.take_length, show ((due dss r.1.1 r.1.2).filter fun h => eAt dss r.1.1 r.1.2 h) = eaL dss r.1 from rfl]
 have s10 := Same.new hle (.lst ((eaL dss r.1).map V.int))
 have g10 : upd H9 le (.lst ((eaL dss r.1).map V.int)) le = some (.lst ((eaL dss r.1).map V.int)) := upd_same
 generalize upd H9 le (.lst ((eaL dss r.1).map V.int)) = H10 at s10 g10 ⊢
 have s710 := s8.trans (s9.trans s10)
 have s010 := s07.trans s710
 refine ⟨_, rfl, _, .inl ⟨_, SqL.of g10, rfl⟩, ?_⟩
 cases ee : eaL dss r.1 with
 | nil =>
   refine iteF ⟨_, _, _, rfl, s010, fun r' hr' => ?_⟩
   rw [List.take_add_one, er] at hr'
   rcases List.mem_append.mp hr' with y | y
   · exact hno r' y
   · have y : r' ∈ [r] := y
     rw [List.mem_singleton.mp y]
     exact ee
 | cons h rest =>
   rw [ee] at g10
   refine iteT ⟨_, rfl, _, rfl, 1, rfl, le, _, rfl, SqL.of g10, fun p11 hp11 => ?_⟩
   have ecut : cutV ((h :: rest).map V.int) none (some 1) = [V.int h] := (cut_to ((h :: rest).map V.int) 1).trans rfl
   rw [ecut]
   have s11 := Same.new hp11 (.lst [V.int h])
   have g11 : upd H10 p11 (.lst [V.int h]) p11 = some (.lst [V.int h]) := upd_same
   generalize upd H10 p11 (.lst [V.int h]) = H11 at s11 g11 ⊢
   have s011 := s010.trans s11
   refine ⟨r.2.2, p11, _, _, rfl, rfl, s011 _ _ (rowF r hr), g11, zqr (by rw [List.length_map]; show r.2.1.length + 1 ≤ 1000; omega), fun l hl => ?_⟩
   have s12 := Same.new hl (.lst (r.2.1.map V.int ++ [V.int h]))
   have g12 : upd H11 l (.lst (r.2.1.map V.int ++ [V.int h])) l = some (.lst ((r.2.1 ++ [h]).map V.int)) := by rw [upd_same, List.map_append]; rfl
   generalize upd H11 l (.lst (r.2.1.map V.int ++ [V.int h])) = H12 at s12 g12 ⊢
   obtain ⟨h1, h2⟩ := sF (s011.trans s12)
   have nld : l ≠ d := fun z => by rw [z, (sF s011).1] at hl; cases hl
   refine ⟨h1, q1 i r h rest er hno ee l _ h2 ?_ (by rw [zqf nld]; exact g12)⟩
   cases z : H l with
   | none => rfl
   | some x => rw [s011 l x (by rw [zqf nld]; exact z)] at hl; cases hl
theorem sc_stuckW : FnScope ["house", "rows", "stand", "row"] ["house", "rows"] (defScope s_stuckW) := ⟨rfl, rfl, rfl, by decide +kernel, rfl, by decide +kernel, by decide +kernel⟩
theorem ok_stuckW (D : Def K mg "stuck_weaving" s_stuckW) (T : Txt K mg) (o1 : Ok P w K mg base "stops" 5 ["house", "stand"] spSp2) : Ok P w K mg base "stuck_weaving" 6 ["house", "rows"] (spSw P w) := by
 refine mkOk D sc_stuckW (fun _ _ _ _ _ _ us hl => (match us, hl with | [_, _], _ => rfl)) (fun vs H Q E ⟨_, _, _, _, _, e, _⟩ => by rw [e]; rfl) fun f cdv A outer s H vs Q E hr h => ?_
 obtain ⟨bx, dss, vh, d, R, rfl, hd, hh, hR, hS, q0, q1⟩ := h
 have nd := sc_stuckW.nd
 refine ⟨_, zqb (ps_frzN (ps_for PassesOwn.never rfl (pi_itemsN (pv 1)) (pg_tup rfl (pgs_cons (pg_name (i := 2) nd rfl (Or.inl rfl)) (pgs_cons (pg_name (i := 3) nd rfl (Or.inl rfl)) zxn)))
   (zqe (zqv (zqy (zqp o1 hr (zqa (pv 0) (zqa (pv 2) zqc)))) (zqe (zqh (pv 3))) zqi))))
  (zqe (zqh pe_non)), ?_⟩
 refine ⟨d, kvG R, hR.n, fun o u hu hF0 => ?_⟩
 have sF : ∀ {H' : Hp}, Same (upd H d (.frz o u)) H' → H' d = some (.frz o u) ∧ Same H (upd H' d u) := fun {H'} s' => by
  refine ⟨s' _ _ upd_same, fun b x e => ?_⟩
  by_cases z : b = d
  · rw [z] at e ⊢
    rw [hu] at e
    cases e
    exact upd_same
  · rw [zqf z]
    exact s' _ _ (by rw [zqf z]; exact e)
 obtain ⟨xs0, hd0, _⟩ := id hR.n
 have tpF : Tups H (upd H d (.frz o u)) := Tups.upd hd0 (fun zs z => by cases z)
 have hhF := hh.tups tpF hd.fro
 refine ⟨_, rfl, d, o, kvG R, rfl, hF0, ?_⟩
 refine for_itemsN (fun i σ H' => ∃ x2 x3, σ = [some vh, some (.ref d), x2, x3] ∧ Same (upd H d (.frz o u)) H' ∧ ∀ r' ∈ R.take i, mStp dss r'.1.1 r'.1.2 = false) ⟨_, _, rfl, Same.refl _, fun r h => (by cases h)⟩ (fun i σ H' _ ⟨_, _, _, s', _⟩ => hF0.same s') ?_ ?_
 rotate_left
 · rintro σ H6 ⟨x2, x3, rfl, s6, hno⟩
   rw [kvG_len, List.take_length] at hno
   obtain ⟨h1, h2⟩ := sF s6
   exact ⟨h1, q0 hno _ h2⟩
 rintro i kv σ H6 hkv ⟨x2, x3, rfl, s6, hno⟩ p b hp hb
 unfold kvG at hkv
 rw [List.getElem?_map] at hkv
 cases er : R[i]? with
 | none => rw [er] at hkv; cases hkv
 | some r =>
 rw [er] at hkv
 cases hkv
 have hr := List.mem_of_getElem? er
 obtain ⟨Sr, hrl⟩ := hS r hr
 have s7 := Same.new hp (.tup [.ref b, .ref r.2.2])
 have g7 : upd H6 p (.tup [.ref b, .ref r.2.2]) p = some (.tup [.ref b, .ref r.2.2]) := upd_same
 generalize upd H6 p (.tup [.ref b, .ref r.2.2]) = H7 at s7 g7 ⊢
 have s07 := s6.trans s7
 refine ⟨p, _, rfl, SqT.of g7, rfl, _, _, rfl, _, _, rfl, rfl, ?_⟩
 have A7 : At H7 bx dss r.1.1 r.1.2 vh (.ref b) := ⟨hd, Sr.sd, hhF.mono s07, (show Is H6 (tS r.1) (.ref b) from hb).mono s7⟩
 refine ⟨_, rfl, _, rfl, bx, dss, r.1.1, r.1.2, vh, .ref b, rfl, A7, fun H8 s8 => ⟨_, rfl, ?_⟩⟩
 have s08 := s07.trans s8
 refine ite2 (fun z => ?_) (fun z => ?_)
 · obtain ⟨h1, h2⟩ := sF s08
   exact ⟨_, rfl, h1, q1 i r er hno z _ h2⟩
 · refine ⟨_, _, rfl, s08, fun r' hr' => ?_⟩
   rw [List.take_add_one, er] at hr'
   rcases List.mem_append.mp hr' with y | y
   · exact hno r' y
   · have y : r' ∈ [r] := y
     rw [List.mem_singleton.mp y]
     simpa using z
theorem sc_tried : FnScope ["house", "p", "rows", "early", "stuck"] ["house", "p"] (defScope s_tried) := ⟨rfl, rfl, rfl, by decide +kernel, rfl, by decide +kernel, by decide +kernel⟩
noncomputable def DefC (K : PySem.W.Frag) (mg : Str → Option Value) (x : Str) (st : Stmt) (c : Addr) : Prop := ∃ f fd, Fun K x x st f fd ∧ mg x = some (.ref f) ∧ fd.code = .ref c
theorem mkOkC {x : Str} {st : Stmt} {N ps : List Str} {k : Nat} {sp : Sp} {c : Addr} (D : DefC K mg x st c) (S : FnScope N ps (defScope st))
  (hb : ∀ (kV doc pm : Value) (an : Option Addr) (cdv ct : Value) (us : List Value), us.length = ps.length → bindArgs (PySem.W.fnOf x x (defArgs st) (defBody st) (defScope st) .none kV doc pm an cdv ct) ⟨us, []⟩ = pure (ps.zip us))
  (len : ∀ vs H Q E, sp vs H Q E → vs.length = ps.length)
  (hbody : ∀ (f : Addr) (A : Around) (outer : List Env) (s : Shared) (H : Hp) (vs : List V) (Q : VK) (E : XK), Room k (A.deeper (envOfC x (defScope st) s.heap.objs.size f (.ref c))) → sp vs H Q E →
   ∃ t, PSs (cxOf CX0 P w K mg base N x (defScope st) f (.ref c) A outer s H E).nox (defBody st) t ∧ t { nx := fun _ H' => Q .non H', rt := Q } (start N vs) H) : Ok P w K mg base x (k + 1) ps sp := by
 obtain ⟨f, fd, F, hm, hcode⟩ := D
 refine ⟨f, fd, ?_, F.binds hb, F.kp, hm⟩
 obtain ⟨oc, od, kV, doc, pm, an, cdv, ct, osl, rfl, lk, hcd⟩ := F.ex
 have e : cdv = .ref c := hcode
 subst e
 refine fn_of lk hcd S len fun A outer s H vs Q E hr hsp => ?_
 obtain ⟨t, h, q⟩ := hbody f A outer s H vs Q E hr hsp
 exact ⟨t, h.nox, q⟩
noncomputable def Bt (tb : Addr) (H H' : Hp) : Prop := ∀ b o, b ≠ tb → H b = some o → H' b = some o
noncomputable def IsTb (tb : Addr) (H : Hp) : Prop := ∃ ps, H tb = some (.tbl ps)
theorem tb_is {tb : Addr} {pos : Pos} {qual : Str} {H : Hp} (h : TbOk tb pos qual H) : IsTb tb H := let ⟨ps, h, _⟩ := h; ⟨ps, h⟩
theorem Bt.tups {tb : Addr} {H H' : Hp} (b : Bt tb H H') (t : IsTb tb H) : Tups H H' := fun c xs e => b c _ (fun z => by obtain ⟨ps, h⟩ := t; rw [z, h] at e; cases e) e
abbrev WayH (bx : Int) (dss : List (List Dd)) (row : List Int) (st : Sn) : Prop := Way (nxL dss) (s00 bx dss) row st
noncomputable def NoE (bx : Int) (dss : List (List Dd)) : Prop := ∀ row st h, WayH bx dss row st → eAt dss st.1 st.2 h = false
noncomputable def NoS (bx : Int) (dss : List (List Dd)) : Prop := ∀ row st, WayH bx dss row st → mStp dss st.1 st.2 = false
noncomputable def TriedIs (bx : Int) (dss : List (List Dd)) (H' : Hp) (a : Addr) : Prop :=
 (∃ l row h st, H' a = some (.tup [.str "early", .ref l]) ∧ H' l = some (.lst ((row ++ [h]).map V.int)) ∧ WayH bx dss row st ∧ eAt dss st.1 st.2 h = true ∧ ∀ row' st' h', WayH bx dss row' st' → eAt dss st'.1 st'.2 h' = true → row.length ≤ row'.length) ∨
 (∃ l row st, H' a = some (.tup [.str "stuck", .ref l]) ∧ H' l = some (.lst (row.map V.int)) ∧ WayH bx dss row st ∧ mStp dss st.1 st.2 = true ∧ NoE bx dss) ∨
 (∃ l, ∃ L : List Sn, ∃ ys, H' a = some (.tup [.str "holds", .ref l]) ∧ H' l = some (.lst ys) ∧ L2.IsL H' (L.map tS) ys ∧ L.length ≤ 1250 ∧ L.Nodup ∧ (∀ st, st ∈ L ↔ ∃ row, WayH bx dss row st) ∧ NoE bx dss ∧ NoS bx dss)
noncomputable def spTr (tb : Addr) : Sp := fun vs H Q _ => ∃ bx dss vh p, vs = [vh, .int p] ∧ HD bx dss ∧ WD p dss ∧ CrD bx dss ∧ Is H (hT bx dss) vh ∧ TbOk tb lmPos lmQual H ∧
 ∀ a H', Bt tb H H' → TbOk tb lmPos lmQual H' → TriedIs bx dss H' a → Q (.ref a) H'
theorem eAt_due {dss : List (List Dd)} {st : Sn} {h : Int} (e : eAt dss st.1 st.2 h = true) : h ∈ due dss st.1 st.2 := by
 refine mem_due.mpr ?_
 unfold eAt at e
 cases z : mStep dss st.1 st.2 h with
 | none => rw [z] at e; cases e
 | some q => rfl
theorem noE_of {bx : Int} {dss : List (List Dd)} {R : List Eh} (B : Bh (nxL dss) (s00 bx dss) R) (h : ∀ r ∈ R, eaL dss r.1 = []) : NoE bx dss := fun row st hh w => by
 obtain ⟨r, hr, e, _⟩ := B.all row st w
 cases z : eAt dss st.1 st.2 hh with
 | false => rfl
 | true =>
   have : hh ∈ eaL dss st := List.mem_filter.mpr ⟨eAt_due z, z⟩
   rw [← e, h r hr] at this
   cases this
theorem RNt.del {H : Hp} {d c : Addr} {o : Obj} {R : List Eh} (r : RNt P w H d R) (h : H c = some (kno o)) : RNt P w (del H c) d R := by
 obtain ⟨xs, e, _⟩ := id r.n
 refine ⟨r.n.by (del_tups h) ?_, fun x hx => ?_⟩
 · rw [zxc (fun z => by rw [← z, e] at h; cases h)]
 · have := r.rows x hx
   rw [zxc (fun z => by rw [z, h] at this; cases this)]
   exact this
theorem ok_tried {c tb : Addr} (B : BMain mg base) (CH : PySem.W.CodeHd base c tb) (D : DefC K mg "tried_loose" s_tried c) (T : Txt K mg) (o1 : Ok P w K mg base "need_loose_wall" 7 ["house", "p"] spNw) (o2 : Ok P w K mg base "rows_to_all" 7 ["first", "steps", "most"] (spRa P w mg)) (o3 : Ok P w K mg base "at_first" 1 ["house"] spFi)
  (o4 : Ok P w K mg base "early_weaving" 5 ["house", "rows"] (spEw P w)) (o5 : Ok P w K mg base "stuck_weaving" 6 ["house", "rows"] (spSw P w)) : Ok P w K mg base "tried_loose" 8 ["house", "p"] (spTr tb) := by
 refine mkOkC D sc_tried (fun _ _ _ _ _ _ us hl => (match us, hl with | [_, _], _ => rfl)) (fun vs H Q E ⟨_, _, _, _, e, _⟩ => by rw [e]; rfl) fun f A outer s H vs Q E hr h => ?_
 obtain ⟨bx, dss, vh, p, rfl, hd, hw, C, hh, hT, q⟩ := h
 obtain ⟨f2, fd2, F2, hb2, hk2, hm2⟩ := o2
 have nd := sc_tried.nd
 refine ⟨_, zqb (ps_expr (zqp o1 hr (zqa (pv 0) (zqa (pv 1) zqc))))
  (zqb (zqq (i := 2) nd rfl (Or.inl rfl) (pe_callV (c := s.heap.objs.size + 1) (i := 0) F2 hr hm2 hk2 hb2 rfl rfl rfl rfl (zqa (zqp o3 (hr.mono (show 1 ≤ 7 by decide)) (zqa (pv 0) zqc)) (zqa (pe_lam (clos := [("house", s.heap.objs.size + 1)]) B CH rfl rfl rfl) (zqa (zqx T.MOST_STANDS) zqc)))))
  (zqb (zqv (zql op_gt (zqk call_lenN rfl T.len zqz (zqa (pv 2) zqc)) (zqx T.MOST_STANDS) (nomark _)) (zqe zxr) zqi)
  (zqb (zqq (i := 3) nd rfl (Or.inl rfl) (zqp o4 (hr.mono (show 5 ≤ 7 by decide)) (zqa (pv 0) (zqa (pv 2) zqc))))
  (zqb (zqv (zql op_notN (pv 3) pe_non (nomark _)) (zqe (zqh (zxg (zqa zqm (zqa (pv 3) zqc))))) zqi)
  (zqb (zqq (i := 4) nd rfl (Or.inl rfl) (zqp o5 (hr.mono (show 6 ≤ 7 by decide)) (zqa (pv 0) (zqa (pv 2) zqc))))
  (zqb (zqv (zql op_notN (pv 4) pe_non (nomark _)) (zqe (zqh (zxg (zqa zqm (zqa (pv 4) zqc))))) zqi)
  (zqe (zqh (zxg (zqa zqm (zqa (zq1 (call_listN rfl) rfl T.list bt_list (zqa (pv 2) zqc)) zqc))))))))))), ?_⟩
 refine ⟨_, rfl, _, rfl, vh, bx, p, dss, rfl, hd, hw, hh, fun H1 s1 => ?_⟩
 have hh1 := hh.mono s1
 refine ⟨_, rfl, bx, dss, vh, rfl, hd, hh1, fun v2 H2 s2 iv2 => ?_⟩
 have hT2 := (hT.same s1).same s2
 refine ⟨hT2, fun fl c' occ ctv H3 b3 hT3 hc' ho hfl0 hfl => ?_⟩
 have b3 : Bt tb H2 H3 := b3
 have tp3 := b3.tups (tb_is hT2)
 refine ⟨vh, rfl, fun oc uk hoc ruk hcn => ?_⟩
 have s34 := Same.new hcn (kno oc)
 have hh3 := (hh1.mono s2).tups tp3 hd.fro
 have iv3 := (show Is H2 (tS (s00 bx dss)) v2 from iv2).tups tp3 fro_tt
 refine ⟨bx, dss, v2, vh, fl, s.heap.objs.size + 1, rfl, hd, C, iv3.mono s34, hh3.mono s34, ⟨c', ctv, oc, occ, uk, s34 _ _ hfl, s34 _ _ hc', ho, upd_same, hoc, ruk⟩, fun d R H4 s4 hd0 hR bd hcK => ?_⟩
 have hR5 := hR.del hcK
 have s35 : Same H3 (del H4 (s.heap.objs.size + 1)) := fun b o e => by
  rw [zxc (zqg e hcn)]
  exact s4 _ _ (s34 _ _ e)
 generalize del H4 (s.heap.objs.size + 1) = H5 at hR5 s35 ⊢
 clear hR hcK s4 hd0 s34
 have b5 : Bt tb H H5 := fun b o n e => s35 _ _ (b3 b o n (s2 _ _ (s1 _ _ e)))
 have hT5 := hT3.same s35
 have hh5 := hh3.mono s35
 have hRl := few_G hd C bd.nd bd.way
 have hSL : ∀ r ∈ R, SL bx dss r.1.1 r.1.2 ∧ r.2.1.length ≤ 120 := fun r hr => ⟨(way_sl hd (bd.way r hr)).1, way_120 hd (bd.way r hr)⟩
 refine ⟨_, rfl, d, kvG R, rfl, hR5.n, _, _, rfl, rfl, _, rfl, ?_⟩
 rw [decide_eq_false (show ¬ (((kvG R).length : Nat) : Int) > 3000 by rw [kvG_len]; omega)]
 refine iteF ?_
 refine ⟨_, rfl, _, rfl, bx, dss, vh, d, R, rfl, hd, hh5, hR5, hSL, fun hno H6 s6 => ?_, fun i r h rest er hno ee l H6 s6 hl g6 => ?_⟩
 · have hNoE := noE_of bd hno
   refine ⟨_, rfl, rfl, _, rfl, iteF ?_⟩
   refine ⟨_, rfl, _, rfl, bx, dss, vh, d, R, rfl, hd, hh5.mono s6, hR5.same s6, hSL, fun hnos H7 s7 => ?_, fun i r er hnos es H7 s7 => ?_⟩
   · refine ⟨_, rfl, rfl, _, rfl, iteF ?_⟩
     have s67 := s6.trans s7
     refine ⟨_, rfl, d, kvG R, rfl, hR5.n.same s67, fun ys l H8 s8 hl g8 i8 => ?_⟩
     refine ⟨by show 2 ≤ 1000; decide, fun a H9 s9 ha g9 => ?_⟩
     have s69 := s67.trans (s8.trans s9)
     refine q a H9 (fun b o n e => s69 _ _ (b5 b o n e)) (hT5.same s69) (.inr (.inr ⟨l, keysG R, ys, g9, s9 _ _ g8, ?_, ?_, bd.nd, fun st => ⟨fun h => ?_, fun ⟨row, wy⟩ => ?_⟩, hNoE, fun row st wy => ?_⟩))
     · have e : ((kvG R).map fun kv => tN kv.1) = (keysG R).map tS := by unfold kvG keysG; rw [List.map_map, List.map_map]; rfl
       rw [e] at i8
       exact i8.mono s9
     · unfold keysG; rw [List.length_map]; exact hRl
     · obtain ⟨r, hr, rfl⟩ := mem_keysG.mp h
       exact ⟨r.2.1, bd.way r hr⟩
     · obtain ⟨r, hr, e, _⟩ := bd.all row st wy
       exact mem_keysG.mpr ⟨r, hr, e⟩
     · obtain ⟨r, hr, e, _⟩ := bd.all row st wy
       rw [← e]
       exact hnos r hr
   · refine ⟨_, rfl, rfl, _, rfl, iteT ?_⟩
     have hr := List.mem_of_getElem? er
     refine ⟨_, rfl, by show 2 ≤ 1000; decide, fun a H9 s9 ha g9 => ?_⟩
     have s69 := s6.trans (s7.trans s9)
     exact q a H9 (fun b o n e => s69 _ _ (b5 b o n e)) (hT5.same s69) (.inr (.inl ⟨r.2.2, r.2.1, r.1, g9, s69 _ _ (hR5.rows r hr), bd.way r hr, es, hNoE⟩))
 · refine ⟨_, rfl, rfl, _, rfl, iteT ?_⟩
   have hr := List.mem_of_getElem? er
   have hea : eAt dss r.1.1 r.1.2 h = true := by
    have : h ∈ eaL dss r.1 := by rw [ee]; exact List.mem_cons_self
    exact (List.mem_filter.mp this).2
   refine ⟨_, rfl, by show 2 ≤ 1000; decide, fun a H9 s9 ha g9 => ?_⟩
   have s69 := s6.trans s9
   refine q a H9 (fun b o n e => s69 _ _ (b5 b o n e)) (hT5.same s69) (.inl ⟨l, r.2.1, h, r.1, g9, s9 _ _ g6, bd.way r hr, hea, fun row' st' h' wy e' => ?_⟩)
   obtain ⟨r', hr', er', hle⟩ := bd.all row' st' wy
   have hi : i < R.length := (List.getElem?_eq_some_iff.mp er).1
   have eR : R[i] = r := (List.getElem?_eq_some_iff.mp er).2
   obtain ⟨j, hj, ej⟩ := List.mem_iff_getElem.mp hr'
   have hij : i ≤ j := by
    by_cases y : i ≤ j
    · exact y
    · exfalso
      have hm' : r' ∈ R.take i := by rw [← ej]; exact List.mem_take_iff_getElem.mpr ⟨j, by omega, rfl⟩
      have h1 := hno r' hm'
      have : h' ∈ eaL dss st' := List.mem_filter.mpr ⟨eAt_due e', e'⟩
      rw [← er', h1] at this
      cases this
   have h2 : r.2.1.length ≤ r'.2.1.length := by
    rcases Nat.lt_or_eq_of_le hij with y | y
    · have := List.pairwise_iff_getElem.mp bd.ord i j hi hj y
      rw [eR, ej] at this
      exact this
    · subst y
      rw [← ej, eR]
      exact Nat.le_refl _
   omega
theorem cnt_skip {bx p : Int} {dss : List (List Dd)} (hw : WD p dss) {k i m : Nat} {d : Dd} (hk : k < dss.length) (e : (dss.getD k [])[i]? = some d) (hm : m ≤ skM d.t) (x : Str) :
  cntS x (dss.getD k []) (((i + 1 + m : Nat) : Nat) : Int) = cntS x (dss.getD k []) (i : Int) + if isS x d = true then 1 else 0 := by
 have hn := hw.nsk _ (getD_mem hk) i d.t (by rw [List.getElem?_map, e]; rfl)
 have h0 : (((dss.getD k []).drop (i + 1)).take (skM d.t)).countP (isS x) = 0 := by
  rw [← cnt_says x, List.map_take, List.map_drop, hn]
  rfl
 have h1 : (((dss.getD k []).drop (i + 1)).take m).countP (isS x) = 0 := by
  have : ((dss.getD k []).drop (i + 1)).take m = (((dss.getD k []).drop (i + 1)).take (skM d.t)).take m := by rw [List.take_take, Nat.min_eq_left hm]
  rw [this]
  have := List.Sublist.countP_le (p := isS x) (List.take_sublist m (((dss.getD k []).drop (i + 1)).take (skM d.t)))
  omega
 have h2 := cnt_step (x := x) e
 unfold cntS at h2 ⊢
 rw [show (((i : Nat) : Int) + 1).toNat = i + 1 from by omega] at h2
 rw [Int.toNat_natCast, List.take_add, List.countP_append, h1, h2]
 rfl
theorem cnt_after {bx p : Int} {dss : List (List Dd)} {ps ns : List Int} (hd : HD bx dss) (hw : WD p dss) (sd : SD bx dss ps ns) {k : Nat} {d : Dd} (hk : k < dss.length) (e : cur dss ps k = some d) (x : Str) (j : Nat) :
  cntS x (dss.getD j []) ((ps.set k (ps.getD k 0 + 1 + aftP d ns)).getD j 0) = cntS x (dss.getD j []) (ps.getD j 0) + if j = k ∧ isS x d = true then 1 else 0 := by
 by_cases c : j = k
 · subst c
   have hkp : j < ps.length := by rw [sd.lp]; exact hk
   have h0 := getD_nn sd.p0 j
   have a0 := aftP_nn (ns := ns) (cur_in hd e)
   have a1 := aftP_sk (ns := ns) (cur_in hd e)
   rw [set_at hkp]
   have e1 : ps.getD j 0 + 1 + aftP d ns = ((((ps.getD j 0).toNat + 1 + (aftP d ns).toNat : Nat) : Nat) : Int) := by omega
   have e2 : ps.getD j 0 = (((ps.getD j 0).toNat : Nat) : Int) := by omega
   have h := cnt_skip (bx := bx) hw hk (show (dss.getD j [])[(ps.getD j 0).toNat]? = some d from e) (m := (aftP d ns).toNat) (by omega) x
   rw [e1, h, ← e2]
   simp
 · rw [List.getD_eq_getElem?_getD (l := ps.set k _), List.getElem?_set_ne (Ne.symm c), ← List.getD_eq_getElem?_getD, if_neg (fun z => c z.1)]
   rfl
theorem he_no {dss : List (List Dd)} {ps : List Int} : mHe dss ps = false ↔ ∀ i j, i < dss.length → j < dss.length → cntS "go" (dss.getD i []) (ps.getD i 0) ≤ cntS "come" (dss.getD j []) (ps.getD j 0) := by
 unfold mHe
 rw [List.any_eq_false]
 constructor
 · intro h i j hi hj
   have h1 := h _ (List.mem_of_getElem? (tms_at (x := "go") (ps := ps) hi))
   have h1 : ¬ ((tms "come" dss ps).any fun c => decide (c < ((cntS "go" (dss.getD i []) (ps.getD i 0) : Nat) : Int))) = true := h1
   rw [List.any_eq_true] at h1
   by_cases z : cntS "go" (dss.getD i []) (ps.getD i 0) ≤ cntS "come" (dss.getD j []) (ps.getD j 0)
   · exact z
   · exact absurd ⟨_, List.mem_of_getElem? (tms_at (x := "come") (ps := ps) hj), decide_eq_true (by omega)⟩ h1
 · intro h g hg hc
   obtain ⟨i, hi, rfl⟩ := List.mem_map.mp hg
   obtain ⟨c, hc1, hc2⟩ := List.any_eq_true.mp hc
   obtain ⟨j, hj, rfl⟩ := List.mem_map.mp hc1
   have := h i j (List.mem_range.mp hi) (List.mem_range.mp hj)
   have hc2 := of_decide_eq_true hc2
   omega
theorem eg_no {dss : List (List Dd)} {ps : List Int} {k : Nat} {d : Dd} (hk : k < dss.length) (hg : isS "go" d = true) : mEg dss ps k d = false ↔ ∀ j, j < dss.length → cntS "go" (dss.getD k []) (ps.getD k 0) < cntS "come" (dss.getD j []) (ps.getD j 0) := by
 have eg : (tms "go" dss ps).getD k 0 = ((cntS "go" (dss.getD k []) (ps.getD k 0) : Nat) : Int) := by
  rw [List.getD_eq_getElem?_getD, tms_at hk]
  rfl
 unfold mEg
 rw [hg, Bool.true_and, eg, List.any_eq_false]
 constructor
 · intro h j hj
   have h1 := h _ (List.mem_of_getElem? (tms_at (x := "come") (ps := ps) hj))
   by_cases z : cntS "go" (dss.getD k []) (ps.getD k 0) < cntS "come" (dss.getD j []) (ps.getD j 0)
   · exact z
   · exact absurd (decide_eq_true (by omega)) h1
 · intro h c hc hc2
   obtain ⟨j, hj, rfl⟩ := List.mem_map.mp hc
   have := h j (List.mem_range.mp hj)
   have hc2 := of_decide_eq_true hc2
   omega
theorem come_no_go {d : Dd} (h : isS "go" d = true) : isS "come" d = false := by rw [isS_say h]; exact goes_no_come
theorem noHe {bx p : Int} {dss : List (List Dd)} (hd : HD bx dss) (hw : WD p dss) (hN : NoE bx dss) {row : List Int} {st : Sn} (w : WayH bx dss row st) : mHe dss st.1 = false := by
 induction w with
 | nil =>
   refine he_no.mpr fun i j _ _ => ?_
   have : ((s00 bx dss).1).getD i 0 = 0 := by
    show (List.replicate dss.length (0 : Int)).getD i 0 = 0
    rw [List.getD_eq_getElem?_getD, List.getElem?_replicate]
    split <;> rfl
   rw [this]
   exact Nat.zero_le _
 | @snoc row st q w hq ih =>
   have e := mem_nxL.mp hq
   have S := (way_sl hd w).1
   obtain ⟨k, d, ek, hk, ed, _, er⟩ := zxe e
   have hne := hN row st q.1 w
   have hne : mEg dss st.1 k d = false := by
    unfold eAt at hne
    rw [e, ek, Int.toNat_natCast, ed] at hne
    exact hne
   rw [er]
   refine he_no.mpr fun i j hi hj => ?_
   show cntS "go" (dss.getD i []) ((st.1.set k (st.1.getD k 0 + 1 + aftP d st.2)).getD i 0) ≤ cntS "come" (dss.getD j []) ((st.1.set k (st.1.getD k 0 + 1 + aftP d st.2)).getD j 0)
   rw [cnt_after hd hw S.sd hk ed "go" i, cnt_after hd hw S.sd hk ed "come" j]
   have h0 := he_no.mp ih i j hi hj
   by_cases c : i = k ∧ isS "go" d = true
   · rw [if_pos c, if_neg (fun z => by rw [come_no_go c.2] at z; cases z.2)]
     have := (eg_no hk c.2).mp hne j hj
     rw [c.1]
     omega
   · rw [if_neg c]
     omega
abbrev s_keptAt : Stmt := top 52
abbrev s_holdsBy : Stmt := top 53
noncomputable def mKept (dss : List (List Dd)) (ks : List KeyN) (ps ns : List Int) : Bool := !(mStp dss ps ns) && (!(mHe dss ps) && (due dss ps ns).all fun h => decide (kS (nx dss ps ns h) ∈ ks))
noncomputable def mHold (bx : Int) (dss : List (List Dd)) (L : List Sn) : Bool := decide L.Nodup && (decide ((zs dss.length, zs bx.toNat) ∈ L) && L.all fun st => mKept dss (L.map kS) st.1 st.2)
structure Rs (H : Hp) (l : Addr) (bx : Int) (dss : List (List Dd)) (L : List Sn) : Prop where
 at' : ∃ xs, H l = some (.lst xs) ∧ IsL H (L.map tS) xs
 few : L.length ≤ 3000
 each : ∀ st ∈ L, SL bx dss st.1 st.2
theorem Rs.same {H H' : Hp} {l : Addr} {bx : Int} {dss : List (List Dd)} {L : List Sn} (r : Rs H l bx dss L) (s : Same H H') : Rs H' l bx dss L := by
 obtain ⟨xs, e, i⟩ := r.at'
 exact ⟨⟨xs, s _ _ e, i.mono s⟩, r.few, r.each⟩
theorem Rs.is {H : Hp} {l : Addr} {bx : Int} {dss : List (List Dd)} {L : List Sn} (r : Rs H l bx dss L) : Is H (.lst (L.map tS)) (.ref l) := by
 obtain ⟨xs, e, i⟩ := r.at'
 exact ⟨l, xs, rfl, e, i⟩
theorem tS_open {H : Hp} {st : Sn} {v : V} (h : Is H (tS st) v) : ∃ a, v = .ref a := by
 obtain ⟨a, _, e, _⟩ := h
 exact ⟨a, e⟩
noncomputable def spKa (P : Program) (w : World) : Sp := fun vs H Q _ => ∃ bx dss ps ns vh vst d kvs, vs = [vh, vst, .ref d] ∧ At H bx dss ps ns vh vst ∧ NAt P w H d kvs ∧ ∀ H', Same H H' → Q (.bl (mKept dss (kvs.map (·.1)) ps ns)) H'
noncomputable def spHb : Sp := fun vs H Q _ => ∃ bx p dss vh l L, vs = [vh, .int p, .ref l] ∧ HD bx dss ∧ WD p dss ∧ Is H (hT bx dss) vh ∧ Rs H l bx dss L ∧ ∀ H', Same H H' → Q (.bl (mHold bx dss L)) H'
theorem sc_keptAt : FnScope ["house", "stand", "listed"] ["house", "stand", "listed"] (defScope s_keptAt) := ⟨rfl, rfl, rfl, by decide +kernel, rfl, by decide +kernel, by decide +kernel⟩
theorem ok_keptAt (D : Def K mg "is_kept_at" s_keptAt) (T : Txt K mg) (o1 : Ok P w K mg base "stops" 5 ["house", "stand"] spSp2) (o2 : Ok P w K mg base "has_early" 2 ["house", "stand"] spHe) (o3 : Ok P w K mg base "steps_from" 5 ["house", "stand"] spSf) : Ok P w K mg base "is_kept_at" 6 ["house", "stand", "listed"] (spKa P w) := by
 refine mkOk D sc_keptAt (fun _ _ _ _ _ _ us hl => (match us, hl with | [_, _, _], _ => rfl)) (fun vs H Q E ⟨_, _, _, _, _, _, _, _, e, _⟩ => by rw [e]; rfl) fun f cdv A outer s H vs Q E hr h => ?_
 obtain ⟨bx, dss, ps, ns, vh, vst, d, kvs, rfl, A, hN, kk⟩ := h
 have nd := sc_keptAt.nd
 have hun := hr.units
 have hu3 := Nat.lt_of_le_of_lt (Nat.add_le_add_left (by decide : 3 ≤ 64) _) hun
 have ndc : (["hand", "stand_behind", "listed"] : List Str).Nodup := by decide +kernel
 refine ⟨_, zqb (zqv (PW.pt (pw_or (zqy (zqp o1 hr (zqa (pv 0) (zqa (pv 1) zqc)))) (zxh (zqy (zqp o2 (hr.mono (show 2 ≤ 5 by decide)) (zqa (pv 0) (zqa (pv 1) zqc))))))) (zqe (zqh zq9)) zqi)
  (zqe (zqh (zqk (zq8 rfl) rfl T.all bt_all (zqa (zxl (own := ["hand", "stand_behind"]) (cap := [2]) (g := gTup K 2 (gCons (gName 0) (gCons (gName 1) gNil))) (te := tNIn P w id (tVar 1) (tVar 2)) rfl (lcScope (defScope s_keptAt) rfl rfl (by decide +kernel) (by decide +kernel) (by decide +kernel) ⟨⟨_, rfl, .inl rfl, noLoc rfl⟩, trivial⟩) (zxf (zqp o3 hr (zqa (pv 0) (zqa (pv 1) zqc))))
   (fun _ _ _ _ => pg_tup rfl (pgs_cons (pg_name (i := 0) ndc rfl (Or.inl rfl)) (pgs_cons (pg_name (i := 1) ndc rfl (Or.inl rfl)) zxn))) (fun _ _ _ _ => zq2)
   (fun _ _ _ _ => pe_cmp (pc_nin hu3 (pv 1) (pv 2)))) zqc)))), ?_⟩
 unfold mKept at kk
 refine ⟨_, rfl, _, rfl, bx, dss, ps, ns, vh, vst, rfl, A, fun H1 s1 => ⟨_, rfl, ?_⟩⟩
 cases z1 : mStp dss ps ns with
 | true =>
   rw [z1] at kk
   exact iteT (iteT (kk H1 s1))
 | false =>
 rw [z1] at kk
 refine iteF ?_
 refine ⟨_, rfl, _, rfl, bx, dss, ps, ns, vh, vst, rfl, A.same s1, fun H2 s2 => ⟨_, rfl, ?_⟩⟩
 have s02 := s1.trans s2
 cases z2 : mHe dss ps with
 | true =>
   rw [z2] at kk
   exact iteT (kk H2 s02)
 | false =>
 rw [z2] at kk
 refine iteF ?_
 refine ⟨_, rfl, _, rfl, bx, dss, ps, ns, vh, vst, rfl, A.same s02, fun l xs H3 s3 _ g3 i3 => ?_⟩
 have s03 := s02.trans s3
 have hxl := i3.length
 rw [List.length_map] at hxl
 have hfew : (due dss ps ns).length ≤ 4 := by
  unfold due
  refine Nat.le_trans (List.length_filter_le _ _) ?_
  rw [List.length_map, List.length_range]
  exact A.hd.n4
 refine ⟨l, rfl, ⟨_, SqL.of g3⟩, ?_⟩
 refine lc_list (xs := xs) (fun i ys H' => Same H3 H' ∧ ys = (((due dss ps ns).take i).map fun h => decide (kS (nx dss ps ns h) ∈ kvs.map (·.1))).map V.bl) ⟨Same.refl H3, rfl⟩ (fun i ys H' hi ⟨s2, e⟩ => ⟨SqL.of (s2 _ _ g3), by rw [e, List.length_map, List.length_map, List.length_take]; exact zqr (by omega)⟩) ?_ ?_
 · rintro i x ys H' hx ⟨s', rfl⟩
   obtain ⟨t, ht, it⟩ := (i3.mono s').get' hx
   rw [List.getElem?_map] at ht
   cases eh : (due dss ps ns)[i]? with
   | none => rw [eh] at ht; cases ht
   | some h =>
     rw [eh] at ht
     cases ht
     obtain ⟨b, zz, rfl, hb, v1, r1, rfl, i1, v2, r2, rfl, i2, hnil⟩ := it
     cases (show r2 = [] from hnil)
     refine ⟨b, _, rfl, SqT.of hb, rfl, _, _, rfl, _, _, rfl, rfl, ?_⟩
     refine if0 ?_
     obtain ⟨b2, rfl⟩ := tS_open (st := nx dss ps ns h) i2
     refine ⟨_, rfl, _, rfl, d, b2, kvs, kS (nx dss ps ns h), rfl, rfl, hN.same (s03.trans s'), i2, s', ?_⟩
     rw [List.take_add_one, eh, List.map_append, List.map_append, val_mem]
     rfl
 · rintro ys H' ⟨s', rfl⟩ p hp
   refine ⟨p, _, rfl, SqL.of upd_same, ?_⟩
   rw [hxl, List.take_length, List.all_map]
   exact kk _ (s03.trans (s'.trans (Same.new hp _)))
theorem sc_holdsBy : FnScope ["house", "p", "stands", "listed"] ["house", "p", "stands"] (defScope s_holdsBy) := ⟨rfl, rfl, rfl, by decide +kernel, rfl, by decide +kernel, by decide +kernel⟩
theorem ok_holdsBy (D : Def K mg "holds_by" s_holdsBy) (T : Txt K mg) (o1 : Ok P w K mg base "need_loose_wall" 7 ["house", "p"] spNw) (o2 : Ok P w K mg base "is_stand_like" 3 ["house", "thing"] spLk) (o3 : Ok P w K mg base "at_first" 1 ["house"] spFi) (o4 : Ok P w K mg base "is_kept_at" 6 ["house", "stand", "listed"] (spKa P w)) : Ok P w K mg base "holds_by" 8 ["house", "p", "stands"] spHb := by
 refine mkOk D sc_holdsBy (fun _ _ _ _ _ _ us hl => (match us, hl with | [_, _, _], _ => rfl)) (fun vs H Q E ⟨_, _, _, _, _, _, e, _⟩ => by rw [e]; rfl) fun f cdv A outer s H vs Q E hr h => ?_
 obtain ⟨bx, p, dss, vh, l, L, rfl, hd, hw, ih, R, q⟩ := h
 have nd := sc_holdsBy.nd
 have hun := hr.units
 have hu3 := Nat.lt_of_le_of_lt (Nat.add_le_add_left (by decide : 3 ≤ 64) _) hun
 have hu8 := Nat.lt_of_le_of_lt (Nat.add_le_add_left (by decide : 8 ≤ 64) _) hun
 refine ⟨_, zqb (ps_expr (zqp o1 hr (zqa (pv 0) (zqa (pv 1) zqc))))
  (zqb (zqv (PW.pt (pw_or (zq3 (zqy (zxw T.isi T.list bt_list (pv 2)))) (zxh (zql op_gt (zqk zqj rfl T.len zqz (zqa (pv 2) zqc)) (zqx T.MOST_STANDS) (nomark _))))) (zqe (zqh zq9)) zqi)
  (zqb (zqv (zq3 (zqy (zqk (zq8 rfl) rfl T.all bt_all (zqa (zxl (own := ["stand"]) (cap := [0]) rfl (lcScope (defScope s_holdsBy) rfl rfl (by decide +kernel) (by decide +kernel) (by decide +kernel) ⟨⟨_, rfl, .inl rfl, noLoc rfl⟩, trivial⟩) (zxf (pv 2))
   (fun _ _ _ _ => pg_name (i := 0) (by show (["stand", "house"] : List Str).Nodup; decide +kernel) rfl (Or.inl rfl)) (fun _ _ _ _ => zq2) (fun _ _ _ _ => zqp o2 (hr.mono (show 3 ≤ 7 by decide)) (zqa (pv 1) (zqa (pv 0) zqc)))) zqc)))) (zqe (zqh zq9)) zqi)
  (zqb (zqq (i := 3) nd rfl (Or.inr rfl) (zq1 (call_dictN rfl hu8) rfl T.dict bt_dict (zqa (zxl (own := ["stand"]) (cap := []) rfl (lcScope (defScope s_holdsBy) rfl rfl (by decide +kernel) (by decide +kernel) (by decide +kernel) trivial) (zxf (pv 2))
   (fun _ _ _ _ => pg_name (i := 0) (by show (["stand"] : List Str).Nodup; decide +kernel) rfl (Or.inl rfl)) (fun _ _ _ _ => zq2) (fun _ _ _ _ => zxg (zqa (pv 0) (zqa zq9 zqc)))) zqc)) (hs := by with_unfolding_all rfl))
  (zqb (zqv (PW.pt (pw_or (zql op_ne (zqk call_lenN rfl T.len zqz (zqa (pv 3) zqc)) (zqk zqj rfl T.len zqz (zqa (pv 2) zqc)) (nomark _)) (zxh (pt_cmp (pc_nnotin hu3 (zqp o3 (hr.mono (show 1 ≤ 7 by decide)) (zqa (pv 0) zqc)) (pv 3)))))) (zqe (zqh zq9)) zqi)
  (zqe (zqh (zqk (zq8 rfl) rfl T.all bt_all (zqa (zxl (own := ["stand"]) (cap := [0, 3]) rfl (lcScope (defScope s_holdsBy) rfl rfl (by decide +kernel) (by decide +kernel) (by decide +kernel) ⟨⟨_, rfl, .inl rfl, noLoc rfl⟩, ⟨_, rfl, .inl rfl, noLoc rfl⟩, trivial⟩) (zxf (pv 2))
   (fun _ _ _ _ => pg_name (i := 0) (by show (["stand", "house", "listed"] : List Str).Nodup; decide +kernel) rfl (Or.inl rfl)) (fun _ _ _ _ => zq2) (fun _ _ _ _ => zqp o4 (hr.mono (show 6 ≤ 7 by decide)) (zqa (pv 1) (zqa (pv 0) (zqa (pv 2) zqc))))) zqc)))))))), ?_⟩
 have few := R.few
 refine ⟨_, rfl, _, rfl, vh, bx, p, dss, rfl, hd, hw, ih, fun H1 s1 => ?_⟩
 obtain ⟨xs, hl, ixs⟩ := (R.same s1).at'
 have hxl := ixs.length
 rw [List.length_map] at hxl
 have ih1 := ih.mono s1
 refine ⟨_, rfl, _, "list", _, _, rfl, Is.ty (R.same s1).is, kit_list, _, rfl, iteF ?_⟩
 refine ⟨_, rfl, l, _, rfl, .inl (SqL.of hl), _, _, rfl, rfl, _, rfl, ?_⟩
 rw [decide_eq_false (show ¬ ((xs.length : Int) > 3000) by omega)]
 refine iteF ?_
 have AT : ∀ {H' : Hp} {st : Sn} {x : V}, Same H1 H' → st ∈ L → Is H' (tS st) x → At H' bx dss st.1 st.2 vh x := fun {H' st x} s' hm ix => ⟨hd, (R.each st hm).sd, ih1.mono s', ix⟩
 refine ⟨_, rfl, l, rfl, ⟨_, SqL.of hl⟩, ?_⟩
 refine lc_list (xs := xs) (fun i ys H' => Same H1 H' ∧ ys = (List.replicate i true).map V.bl) ⟨Same.refl H1, rfl⟩ (fun i ys H' hi ⟨s2, e⟩ => ⟨SqL.of (s2 _ _ hl), by rw [e, List.length_map, List.length_replicate]; exact big_le (by omega)⟩) ?_ ?_
 · rintro i x ys H' hx ⟨s2, rfl⟩
   refine gIf0 ?_
   obtain ⟨st, es, ist⟩ := get_tS (ixs.mono s2) hx
   have hm := List.mem_of_getElem? es
   refine ⟨_, rfl, _, rfl, bx, dss, st.1, st.2, vh, x, rfl, AT s2 hm ist, R.each st hm, fun H3 s3 => ⟨s2.trans s3, ?_⟩⟩
   rw [List.replicate_succ', List.map_append]
   rfl
 rintro ys H2 ⟨s2, rfl⟩ p2 hp2
 generalize hN : xs.length = N
 have s3 := Same.new hp2 (.lst ((List.replicate N true).map V.bl))
 have allT : (List.replicate N true).all id = true := by
  rw [List.all_eq_true]
  intro b hb
  exact (List.mem_replicate.mp hb).2
 refine ⟨p2, _, rfl, SqL.of upd_same, _, rfl, ?_⟩
 rw [allT]
 refine iteF ?_
 generalize upd H2 p2 (.lst ((List.replicate N true).map V.bl)) = H3 at s3 ⊢
 have s13 := s2.trans s3
 have hl3 := s13 _ _ hl
 refine ⟨_, rfl, l, rfl, ⟨_, SqL.of hl3⟩, ?_⟩
 refine lc_list (xs := xs) (fun i ys H' => Same H3 H' ∧ ∃ bs : List Addr, ys = bs.map V.ref ∧ Paired (PnAt H') bs ((L.take i).map fun st => (kS st, V.bl true))) ⟨Same.refl H3, [], rfl, .nil⟩ (fun i ys H' hi ⟨s', bs, e, pp⟩ => ⟨SqL.of (s' _ _ hl3), ?_⟩) ?_ ?_
 · have := Paired.length pp
   rw [e, List.length_map, this, List.length_map, List.length_take]
   exact big_le (by omega)
 · rintro i x ys H' hx ⟨s', bs, rfl, pp⟩
   refine gIf0 ?_
   obtain ⟨st, es, ist⟩ := get_tS (ixs.mono (s13.trans s')) hx
   obtain ⟨kb, rfl⟩ := tS_open ist
   refine ⟨_, rfl, by show 2 ≤ 1000; decide, fun b4 H4 s4 _ g4 => ⟨s'.trans s4, bs ++ [b4], ?_, ?_⟩⟩
   · rw [List.map_append]; rfl
   · rw [List.take_add_one, es, List.map_append]
     exact Paired.snoc (Paired.mapP pp fun b r hp => PnAt.same hp s4) ⟨kb, g4, ist.mono s4⟩
 rintro ys H4 ⟨s4, bs, rfl, pp⟩ p4 hp4
 rw [hxl, List.take_length] at pp
 have s5 := Same.new hp4 (.lst (bs.map V.ref))
 have g5 : upd H4 p4 (.lst (bs.map V.ref)) p4 = some (.lst (bs.map V.ref)) := upd_same
 generalize upd H4 p4 (.lst (bs.map V.ref)) = H5 at s5 g5 ⊢
 refine ⟨p4, bs, _, rfl, g5, Paired.mapP pp fun b r hp => PnAt.same hp s5, fun d H6 s6 hd0 hD => ?_⟩
 have s16 := s13.trans (s4.trans (s5.trans s6))
 have hl6 := s16 _ _ hl
 generalize hkv : putAll (L.map fun st => (kS st, V.bl true)) [] = kvs at hD
 have ekeys : kvs.map (·.1) = dedupN (L.map kS) := by
  rw [← hkv, putAll_keys, List.map_map]
  rfl
 have elen : kvs.length = (dedupN (L.map kS)).length := by rw [← ekeys, List.length_map]
 refine ⟨_, rfl, d, kvs, rfl, hD, _, rfl, l, _, rfl, .inl (SqL.of hl6), rfl, _, rfl, ?_⟩
 rw [hxl, elen]
 unfold mHold at q
 have ednd : (!decide (V.int (((dedupN (L.map kS)).length : Nat) : Int) = V.int ((L.length : Nat) : Int))) = !decide L.Nodup := by
  congr 1
  rw [decide_eq_decide, ← kS_nodup, ← dedup_lenN, List.length_map]
  constructor
  · intro h
    injection h with h
    omega
  · intro h
    rw [h]
 rw [ednd]
 by_cases z2 : L.Nodup
 rotate_left
 · rw [decide_eq_false z2, Bool.false_and] at q
   rw [decide_eq_false z2]
   exact iteT (iteT (q H6 (s1.trans s16)))
 rw [decide_eq_true z2, Bool.true_and] at q
 rw [decide_eq_true z2]
 refine iteF ?_
 refine ⟨_, rfl, bx, dss, vh, rfl, hd, ih1.mono s16, fun vf H7 s7 iF => ?_⟩
 have iF : Is H7 (tS (zs dss.length, zs bx.toNat)) vf := iF
 obtain ⟨af, rfl⟩ := tS_open iF
 refine ⟨_, rfl, d, af, kvs, kS (zs dss.length, zs bx.toNat), rfl, rfl, hD.same s7, iF, _, rfl, ?_⟩
 have s17 := s16.trans s7
 have emem : ∀ st : Sn, (kS st ∈ kvs.map (·.1)) ↔ st ∈ L := fun st => by rw [ekeys, mem_dedupN, kS_mem]
 rw [val_mem, decide_eq_decide.mpr (emem _)]
 by_cases z3 : (zs dss.length, zs bx.toNat) ∈ L
 rotate_left
 · rw [decide_eq_false z3, Bool.false_and] at q
   rw [decide_eq_false z3]
   exact iteT (q H7 (s1.trans s17))
 rw [decide_eq_true z3, Bool.true_and] at q
 rw [decide_eq_true z3]
 refine iteF ?_
 have hl7 := s17 _ _ hl
 have hD7 := hD.same s7
 refine ⟨_, rfl, l, rfl, ⟨_, SqL.of hl7⟩, ?_⟩
 refine lc_list (xs := xs) (fun i ys H' => Same H7 H' ∧ ys = ((L.take i).map fun st => mKept dss (kvs.map (·.1)) st.1 st.2).map V.bl) ⟨Same.refl H7, rfl⟩ (fun i ys H' hi ⟨s2, e⟩ => ⟨SqL.of (s2 _ _ hl7), by rw [e, List.length_map, List.length_map, List.length_take]; exact big_le (by omega)⟩) ?_ ?_
 · rintro i x ys H' hx ⟨s2, rfl⟩
   refine gIf0 ?_
   obtain ⟨st, es, ist⟩ := get_tS (ixs.mono (s17.trans s2)) hx
   have hm := List.mem_of_getElem? es
   refine ⟨_, rfl, _, rfl, _, rfl, bx, dss, st.1, st.2, vh, x, d, kvs, rfl, AT (s17.trans s2) hm ist, hD7.same s2, fun H3 s3 => ⟨s2.trans s3, ?_⟩⟩
   rw [List.take_add_one, es, List.map_append, List.map_append]
   rfl
 · rintro ys H9 ⟨s9, rfl⟩ p9 hp9
   refine ⟨p9, _, rfl, SqL.of upd_same, ?_⟩
   rw [hxl, List.take_length, List.all_map]
   have eK : (id ∘ fun (st : Sn) => mKept dss (kvs.map (·.1)) st.1 st.2) = fun st => mKept dss (L.map kS) st.1 st.2 := by
    funext st
    show mKept dss (kvs.map (·.1)) st.1 st.2 = _
    unfold mKept
    congr 2
    congr 1
    funext h
    rw [decide_eq_decide, emem, kS_mem]
   rw [eK]
   exact q _ (s1.trans (s17.trans (s9.trans (Same.new hp9 _))))
inductive Ad where
 | come
 | go
 | rs (b : Nat)
 | sm (b c : Nat)
deriving DecidableEq
noncomputable def Ad.d (y : Int) : Ad → Dd
 | .come => .say "come"
 | .go => .say "go"
 | .rs b => .act "raise" (b : Int) y []
 | .sm b c => .act "same" (b : Int) (((c : Nat) : Int) * y % 10) []
noncomputable def isR (b : Nat) : Ad → Bool | .rs b' => Nat.beq b' b | _ => false
noncomputable def isC : Ad → Bool | .come => true | _ => false
noncomputable def isG : Ad → Bool | .go => true | _ => false
noncomputable def cA (f : Ad → Bool) (as : List Ad) (p : Nat) : Nat := (as.take p).countP f
noncomputable def cnt (b : Nat) : List (List Ad) → List Nat → Nat
 | a :: as, p :: ps => cA (isR b) a p + cnt b as ps
 | _, _ => 0
noncomputable def eA (As : List (List Ad)) (ps : List Nat) (k : Nat) : Option Ad := (As.getD k [])[ps.getD k 0]?
noncomputable def enA (As : List (List Ad)) (ps : List Nat) (k : Nat) : Bool := match eA As ps k with
 | none => false
 | some (.sm b c) => Nat.beq (cnt b As ps) c
 | some _ => true
noncomputable def eaA (As : List (List Ad)) (ps : List Nat) (k : Nat) : Bool := match eA As ps k with
 | some .go => (List.range As.length).any fun j => Nat.ble (cA isC (As.getD j []) (ps.getD j 0)) (cA isG (As.getD k []) (ps.getD k 0))
 | _ => false
noncomputable def upA (ps : List Nat) (k : Nat) : List Nat := ps.set k (ps.getD k 0 + 1)
noncomputable def zI (ps : List Nat) : List Int := ps.map fun (p : Nat) => (p : Int)
noncomputable def nB (As : List (List Ad)) (y : Int) (bx : Nat) (ps : List Nat) : List Int := (List.range bx).map fun b => ((cnt b As ps : Nat) : Int) * y % 10
noncomputable def dsA (y : Int) (As : List (List Ad)) : List (List Dd) := As.map fun as => as.map (Ad.d y)
noncomputable def phiA (As : List (List Ad)) (y : Int) (bx : Nat) (ps : List Nat) : Sn := (zI ps, nB As y bx ps)
theorem cA_up {f : Ad → Bool} {as : List Ad} {p : Nat} {a : Ad} (h : as[p]? = some a) : cA f as (p + 1) = cA f as p + if f a = true then 1 else 0 := by
 unfold cA
 rw [List.take_add_one, h, List.countP_append]
 show _ = _ + _
 congr 1
 show List.countP f [a] = _
 rw [List.countP_cons, List.countP_nil, Nat.zero_add]
theorem cnt_up {b : Nat} : ∀ {As : List (List Ad)} {ps : List Nat} {k : Nat} {a : Ad}, ps.length = As.length → eA As ps k = some a → cnt b As (upA ps k) = cnt b As ps + if isR b a = true then 1 else 0
 | [], ps, k, a, _, e => by
   unfold eA at e
   simp at e
 | as :: As, [], k, a, hl, _ => by cases hl
 | as :: As, p :: ps, 0, a, _, e => by
   have e : as[p]? = some a := e
   show cA (isR b) as (p + 1) + cnt b As ps = _
   rw [cA_up e]
   show _ = cA (isR b) as p + cnt b As ps + _
   omega
 | as :: As, p :: ps, k + 1, a, hl, e => by
   have e : eA As ps k = some a := e
   have hl : ps.length = As.length := by simpa using hl
   show cA (isR b) as p + cnt b As (upA ps k) = cA (isR b) as p + cnt b As ps + _
   rw [cnt_up hl e]
   omega
theorem zI_getD (ps : List Nat) (k : Nat) : (zI ps).getD k 0 = ((ps.getD k 0 : Nat) : Int) := by
 unfold zI
 rw [List.getD_eq_getElem?_getD, List.getElem?_map, List.getD_eq_getElem?_getD]
 cases ps[k]? <;> rfl
theorem dsA_getD (y : Int) (As : List (List Ad)) (k : Nat) : (dsA y As).getD k [] = (As.getD k []).map (Ad.d y) := by
 unfold dsA
 rw [List.getD_eq_getElem?_getD, List.getElem?_map, List.getD_eq_getElem?_getD]
 cases As[k]? <;> rfl
theorem cur_A (y : Int) (As : List (List Ad)) (ps : List Nat) (k : Nat) : cur (dsA y As) (zI ps) k = (eA As ps k).map (Ad.d y) := by
 unfold cur eA
 rw [dsA_getD, zI_getD, Int.toNat_natCast, List.getElem?_map]
theorem zI_up (ps : List Nat) (k : Nat) : (zI ps).set k ((zI ps).getD k 0 + 1 + 0) = zI (upA ps k) := by
 rw [zI_getD]
 unfold zI upA
 rw [List.map_set]
 congr 1
structure Hok (As : List (List Ad)) (y : Int) (bx : Nat) : Prop where
 y : y = 1 ∨ y = 3 ∨ y = 7 ∨ y = 9
 rs : ∀ as ∈ As, ∀ b, Ad.rs b ∈ as → b < bx
 sm : ∀ as ∈ As, ∀ b c, Ad.sm b c ∈ as → b < bx ∧ c ≤ 9
 tot : ∀ b, b < bx → (As.map fun as => as.countP (isR b)).sum ≤ 9
theorem cnt_le {b : Nat} : ∀ {As : List (List Ad)} {ps : List Nat}, cnt b As ps ≤ (As.map fun as => as.countP (isR b)).sum
 | [], ps => by cases ps <;> exact Nat.zero_le _
 | as :: As, [] => Nat.zero_le _
 | as :: As, p :: ps => by
   have h1 := cnt_le (b := b) (As := As) (ps := ps)
   have h2 : cA (isR b) as p ≤ as.countP (isR b) := List.Sublist.countP_le (List.take_sublist p as)
   show cA (isR b) as p + cnt b As ps ≤ (as.countP (isR b) :: As.map fun as => as.countP (isR b)).sum
   rw [List.sum_cons]
   omega
theorem eA_mem {As : List (List Ad)} {ps : List Nat} {k : Nat} {a : Ad} (e : eA As ps k = some a) : ∃ as ∈ As, a ∈ as := by
 unfold eA at e
 have h := List.mem_of_getElem? e
 rw [List.getD_eq_getElem?_getD] at h
 cases z : As[k]? with
 | none => rw [z] at h; cases h
 | some as =>
   rw [z] at h
   exact ⟨as, List.mem_of_getElem? z, h⟩
theorem nB_at {As : List (List Ad)} {y : Int} {bx b : Nat} {ps : List Nat} (h : b < bx) : (nB As y bx ps).getD b 0 = ((cnt b As ps : Nat) : Int) * y % 10 := by
 unfold nB
 rw [List.getD_eq_getElem?_getD, List.getElem?_map, List.getElem?_range h]
 rfl
theorem nB_same {As : List (List Ad)} {y : Int} {bx : Nat} {ps qs : List Nat} (h : ∀ b, b < bx → cnt b As qs = cnt b As ps) : nB As y bx qs = nB As y bx ps := by
 unfold nB
 refine List.map_congr_left fun b hb => ?_
 rw [h b (List.mem_range.mp hb)]
theorem nB_rs {As : List (List Ad)} {y : Int} {bx b : Nat} {ps qs : List Nat} (hb : b < bx) (h : ∀ b', cnt b' As qs = cnt b' As ps + if b = b' then 1 else 0) : nB As y bx qs = (nB As y bx ps).set b (((nB As y bx ps).getD b 0 + y) % 10) := by
 rw [nB_at hb]
 refine List.ext_getElem? fun i => ?_
 rw [List.getElem?_set]
 unfold nB
 rw [List.length_map, List.length_range, List.getElem?_map, List.getElem?_map]
 by_cases c : b = i
 · subst c
   rw [if_pos rfl, if_pos hb, List.getElem?_range hb]
   show some (((cnt b As qs : Nat) : Int) * y % 10) = _
   rw [h b, if_pos rfl]
   congr 1
   rw [Int.natCast_add, Int.add_mul]
   generalize ((cnt b As ps : Nat) : Int) * y = m
   show (m + 1 * y) % 10 = _
   rw [Int.one_mul]
   omega
 · rw [if_neg c]
   by_cases hi : i < bx
   · rw [List.getElem?_range hi]
     show some (((cnt i As qs : Nat) : Int) * y % 10) = some (((cnt i As ps : Nat) : Int) * y % 10)
     rw [h i, if_neg c]
     rfl
   · rw [List.getElem?_eq_none (by rw [List.length_range]; omega)]
     rfl
theorem sq_eq {y : Int} {m c : Nat} (hy : y = 1 ∨ y = 3 ∨ y = 7 ∨ y = 9) (hm : m ≤ 9) (hc : c ≤ 9) : ((m : Int) * y % 10 = (c : Int) * y % 10) ↔ m = c := by
 rcases hy with rfl | rfl | rfl | rfl <;> omega
theorem w_rs : wEq "raise" "same" = false ∧ wEq "raise" "put" = false ∧ wEq "raise" "raise" = true ∧ wEq "raise" "skip" = false := by decide +kernel
theorem w_sm : wEq "same" "same" = true ∧ wEq "same" "put" = false ∧ wEq "same" "raise" = false ∧ wEq "same" "skip" = false := by decide +kernel
theorem step_A {As : List (List Ad)} {y : Int} {bx : Nat} {ps : List Nat} (O : Hok As y bx) (hl : ps.length = As.length) {k : Nat} (hk : k < As.length) :
  mStep (dsA y As) (zI ps) (nB As y bx ps) (k : Int) = if enA As ps k = true then some (phiA As y bx (upA ps k)) else none := by
 have h9 : ∀ b, b < bx → cnt b As ps ≤ 9 := fun b hb => Nat.le_trans cnt_le (O.tot b hb)
 have hk' : k < (dsA y As).length := by unfold dsA; rw [List.length_map]; exact hk
 rw [step_in hk', cur_A]
 unfold enA
 cases e : eA As ps k with
 | none => rfl
 | some a =>
   have up : ∀ b, cnt b As (upA ps k) = cnt b As ps + if isR b a = true then 1 else 0 := fun b => cnt_up hl e
   obtain ⟨as, has, ha⟩ := eA_mem e
   cases a with
   | come =>
     show (if false = true then none else some ((zI ps).set k ((zI ps).getD k 0 + 1 + 0), nB As y bx ps)) = some (phiA As y bx (upA ps k))
     rw [if_neg (by decide), zI_up]
     unfold phiA
     rw [nB_same fun b _ => by rw [up b]; rfl]
   | go =>
     show (if false = true then none else some ((zI ps).set k ((zI ps).getD k 0 + 1 + 0), nB As y bx ps)) = some (phiA As y bx (upA ps k))
     rw [if_neg (by decide), zI_up]
     unfold phiA
     rw [nB_same fun b _ => by rw [up b]; rfl]
   | rs b =>
     have hb := O.rs as has b ha
     have e1 : stops (nB As y bx ps) (Ad.d y (.rs b)) = false := by
      show (wEq "raise" "same" && !iEq ((nB As y bx ps).getD ((b : Nat) : Int).toNat 0) y) = false
      rw [w_rs.1]; rfl
     have e2 : aftN (Ad.d y (.rs b)) (nB As y bx ps) = nB As y bx (upA ps k) := by
      show nR "raise" (b : Int) y (nP "raise" (b : Int) y (nB As y bx ps)) = _
      rw [show nP "raise" (b : Int) y (nB As y bx ps) = nB As y bx ps from if_neg (by rw [w_rs.2.1]; decide)]
      unfold nR
      rw [if_pos w_rs.2.2.1, Int.toNat_natCast]
      refine (nB_rs hb fun b' => ?_).symm
      rw [up b']
      show _ + (if Nat.beq b b' = true then 1 else 0) = _
      by_cases c : b = b'
      · rw [if_pos c, if_pos (Nat.beq_eq ▸ c)]
      · rw [if_neg c, if_neg (fun z => c (Nat.eq_of_beq_eq_true z))]
     have e3 : aftP (Ad.d y (.rs b)) (nB As y bx ps) = 0 := by
      show pS "raise" _ _ _ _ = 0
      unfold pS
      rw [w_rs.2.2.2]; rfl
     show (if stops (nB As y bx ps) (Ad.d y (.rs b)) = true then none else some ((zI ps).set k ((zI ps).getD k 0 + 1 + aftP (Ad.d y (.rs b)) (nB As y bx ps)), aftN (Ad.d y (.rs b)) (nB As y bx ps))) = some (phiA As y bx (upA ps k))
     rw [e1, e2, e3, zI_up, if_neg (by decide)]
     rfl
   | sm b c =>
     obtain ⟨hb, hc⟩ := O.sm as has b c ha
     have e0 : iEq ((nB As y bx ps).getD ((b : Nat) : Int).toNat 0) (((c : Nat) : Int) * y % 10) = Nat.beq (cnt b As ps) c := by
      rw [Int.toNat_natCast, nB_at hb]
      have h1 := sq_eq O.y (h9 b hb) hc
      by_cases z : cnt b As ps = c
      · rw [show Nat.beq (cnt b As ps) c = true from by rw [z]; exact Nat.beq_refl c]
        exact decide_eq_true (by rw [h1.mpr z])
      · rw [show Nat.beq (cnt b As ps) c = false from by
         cases q : Nat.beq (cnt b As ps) c with
         | false => rfl
         | true => exact absurd (Nat.eq_of_beq_eq_true q) z]
        exact decide_eq_false fun q => z (h1.mp (by injection q))
     have e1 : stops (nB As y bx ps) (Ad.d y (.sm b c)) = !Nat.beq (cnt b As ps) c := by
      show (wEq "same" "same" && !iEq _ _) = _
      rw [w_sm.1, e0]; rfl
     have e2 : aftN (Ad.d y (.sm b c)) (nB As y bx ps) = nB As y bx (upA ps k) := by
      show nR "same" (b : Int) (((c : Nat) : Int) * y % 10) (nP "same" (b : Int) (((c : Nat) : Int) * y % 10) (nB As y bx ps)) = _
      rw [show nP "same" (b : Int) (((c : Nat) : Int) * y % 10) (nB As y bx ps) = nB As y bx ps from if_neg (by rw [w_sm.2.1]; decide)]
      rw [show nR "same" (b : Int) (((c : Nat) : Int) * y % 10) (nB As y bx ps) = nB As y bx ps from if_neg (by rw [w_sm.2.2.1]; decide)]
      exact (nB_same fun b _ => by rw [up b]; rfl).symm
     have e3 : aftP (Ad.d y (.sm b c)) (nB As y bx ps) = 0 := by
      show pS "same" _ _ _ _ = 0
      unfold pS
      rw [w_sm.2.2.2]; rfl
     show (if stops (nB As y bx ps) (Ad.d y (.sm b c)) = true then none else some ((zI ps).set k ((zI ps).getD k 0 + 1 + aftP (Ad.d y (.sm b c)) (nB As y bx ps)), aftN (Ad.d y (.sm b c)) (nB As y bx ps))) = if Nat.beq (cnt b As ps) c = true then some (phiA As y bx (upA ps k)) else none
     rw [e1, e2, e3, zI_up]
     cases Nat.beq (cnt b As ps) c with
     | true => rfl
     | false => rfl
noncomputable def zN (n : Nat) : List Nat := List.replicate n 0
theorem cnt_zero {b : Nat} : ∀ (As : List (List Ad)), cnt b As (zN As.length) = 0
 | [] => rfl
 | as :: As => by
   show cA (isR b) as 0 + cnt b As (zN As.length) = 0
   rw [cnt_zero As]
   rfl
theorem phi0 (As : List (List Ad)) (y : Int) (bx : Nat) : phiA As y bx (zN As.length) = s00 (bx : Int) (dsA y As) := by
 unfold phiA s00 zs
 refine Prod.ext ?_ ?_
 · show zI (zN As.length) = List.replicate (dsA y As).length 0
   unfold zI zN dsA
   rw [List.map_replicate, List.length_map]
   rfl
 · show nB As y bx (zN As.length) = List.replicate ((bx : Nat) : Int).toNat 0
   rw [Int.toNat_natCast]
   unfold nB
   refine List.ext_getElem (by rw [List.length_map, List.length_range, List.length_replicate]) fun i h1 h2 => ?_
   rw [List.getElem_map, List.getElem_replicate, cnt_zero]
   show (0 : Int) * y % 10 = 0
   rw [Int.zero_mul]
   rfl
theorem dsA_len (y : Int) (As : List (List Ad)) : (dsA y As).length = As.length := by unfold dsA; rw [List.length_map]
theorem up_len (ps : List Nat) (k : Nat) : (upA ps k).length = ps.length := by unfold upA; rw [List.length_set]
theorem en_lt {As : List (List Ad)} {ps : List Nat} {k L : Nat} (hL : ∀ as ∈ As, as.length ≤ L) (h : enA As ps k = true) : ps.getD k 0 < L := by
 unfold enA at h
 cases e : eA As ps k with
 | none => rw [e] at h; cases h
 | some a =>
   unfold eA at e
   have h1 := (List.getElem?_eq_some_iff.mp e).1
   rw [List.getD_eq_getElem?_getD (l := As)] at h1
   cases z : As[k]? with
   | none => rw [z] at h1; exact absurd h1 (Nat.not_lt_zero _)
   | some as =>
     rw [z] at h1
     have h1 : ps.getD k 0 < as.length := h1
     have := hL as (List.mem_of_getElem? z)
     omega
theorem up_le {ps : List Nat} {k L : Nat} (h : ∀ p ∈ ps, p ≤ L) (hk : ps.getD k 0 < L) : ∀ p ∈ upA ps k, p ≤ L := fun p hp => by
 unfold upA at hp
 rcases List.mem_or_eq_of_mem_set hp with z | z
 · exact h p z
 · omega
theorem step_A' {As : List (List Ad)} {y : Int} {bx : Nat} {ps : List Nat} (O : Hok As y bx) (hl : ps.length = As.length) {h : Int} {q : Sn} (e : mStep (dsA y As) (phiA As y bx ps).1 (phiA As y bx ps).2 h = some q) : ∃ k : Nat, h = (k : Int) ∧ k < As.length ∧ enA As ps k = true ∧ q = phiA As y bx (upA ps k) := by
 obtain ⟨k, d, rfl, hk, _⟩ := zxe e
 rw [dsA_len] at hk
 have := step_A O hl hk
 rw [show mStep (dsA y As) (zI ps) (nB As y bx ps) (k : Int) = some q from e] at this
 cases z : enA As ps k with
 | false => rw [z] at this; cases this
 | true =>
   rw [z] at this
   exact ⟨k, rfl, hk, z, Option.some.inj this⟩
theorem way_J {As : List (List Ad)} {y : Int} {bx L : Nat} (O : Hok As y bx) (hL : ∀ as ∈ As, as.length ≤ L) (J : List Nat → Prop) (h0 : J (zN As.length)) (hs : ∀ ps k, J ps → ps.length = As.length → (∀ p ∈ ps, p ≤ L) → k < As.length → enA As ps k = true → J (upA ps k))
  {row : List Int} {st : Sn} (w : WayH (bx : Int) (dsA y As) row st) : ∃ ps, st = phiA As y bx ps ∧ ps.length = As.length ∧ (∀ p ∈ ps, p ≤ L) ∧ J ps := by
 induction w with
 | nil => exact ⟨_, (phi0 As y bx).symm, List.length_replicate, fun p hp => by rw [(List.mem_replicate.mp hp).2]; exact Nat.zero_le _, h0⟩
 | @snoc row st q w hq ih =>
   obtain ⟨ps, rfl, hl, hp, hj⟩ := ih
   obtain ⟨k, _, hk, he, eq⟩ := step_A' O hl (mem_nxL.mp hq)
   exact ⟨upA ps k, eq, by rw [up_len, hl], up_le hp (en_lt hL he), hs ps k hj hl hp hk he⟩
noncomputable def vecN : Nat → Nat → List (List Nat)
 | 0, _ => [[]]
 | n + 1, m => (List.range (m + 1)).flatMap fun p => (vecN n m).map (p :: ·)
theorem mem_vecN : ∀ {n m : Nat} {ps : List Nat}, ps.length = n → (∀ p ∈ ps, p ≤ m) → ps ∈ vecN n m
 | 0, m, [], _, _ => List.mem_singleton.mpr rfl
 | n + 1, m, p :: ps, hl, h => List.mem_flatMap.mpr ⟨p, List.mem_range.mpr (by have := h p List.mem_cons_self; omega), List.mem_map.mpr ⟨ps, mem_vecN (by simpa using hl) (fun q hq => h q (List.mem_cons_of_mem _ hq)), rfl⟩⟩
theorem few_A {As : List (List Ad)} {y : Int} {bx L : Nat} (O : Hok As y bx) (hL : ∀ as ∈ As, as.length ≤ L) (hv : (vecN As.length L).length ≤ 1250) : CrD (bx : Int) (dsA y As) := fun M nd h => by
 refine Nat.le_trans (sub_len (M := (vecN As.length L).map (phiA As y bx)) nd fun st hst => ?_) (by rw [List.length_map]; exact hv)
 obtain ⟨ws, hr⟩ := h st hst
 obtain ⟨ps, rfl, hl, hp, _⟩ := way_J O hL (fun _ => True) trivial (fun _ _ _ _ _ _ _ => trivial) (run_way (s0 := s00 (bx : Int) (dsA y As)) _ ws st rfl hr)
 exact List.mem_map.mpr ⟨ps, mem_vecN hl hp, rfl⟩
theorem isS_C (y : Int) (a : Ad) : isS "come" (Ad.d y a) = isC a := by
 cases a with
 | come => kernel_rfl
 | go => exact goes_no_come
 | rs b => exact isS_act
 | sm b c => exact isS_act
theorem come_no : isS "go" (.say "come") = false := by kernel_rfl
theorem isS_G (y : Int) (a : Ad) : isS "go" (Ad.d y a) = isG a := by
 cases a with
 | come => exact come_no
 | go => exact isS_go
 | rs b => exact isS_act
 | sm b c => exact isS_act
theorem cntS_A {x : Str} {f : Ad → Bool} {y : Int} (h : ∀ a, isS x (Ad.d y a) = f a) (As : List (List Ad)) (ps : List Nat) (k : Nat) : cntS x ((dsA y As).getD k []) ((zI ps).getD k 0) = cA f (As.getD k []) (ps.getD k 0) := by
 unfold cntS cA
 rw [dsA_getD, zI_getD, Int.toNat_natCast, ← List.map_take, List.countP_map]
 congr 1
 funext a
 exact h a
theorem ea_no {As : List (List Ad)} {y : Int} {bx : Nat} {ps : List Nat} (O : Hok As y bx) (hl : ps.length = As.length) (h : ∀ k, k < As.length → eaA As ps k = false) (x : Int) : eAt (dsA y As) (phiA As y bx ps).1 (phiA As y bx ps).2 x = false := by
 unfold eAt
 cases z : mStep (dsA y As) (phiA As y bx ps).1 (phiA As y bx ps).2 x with
 | none => rfl
 | some q =>
   obtain ⟨k, rfl, hk, he, _⟩ := step_A' O hl z
   rw [Int.toNat_natCast, show cur (dsA y As) (phiA As y bx ps).1 k = _ from cur_A y As ps k]
   have hh := h k hk
   unfold eaA at hh
   cases e : eA As ps k with
   | none => rfl
   | some a =>
     rw [e] at hh
     show mEg (dsA y As) (zI ps) k (Ad.d y a) = false
     cases a with
     | go =>
       refine (eg_no (by rw [dsA_len]; exact hk) isS_go).mpr fun j hj => ?_
       rw [dsA_len] at hj
       rw [cntS_A (isS_G y), cntS_A (isS_C y)]
       have h1 := List.any_eq_false.mp hh j (List.mem_range.mpr hj)
       have h1 : ¬ (cA isC (As.getD j []) (ps.getD j 0) ≤ cA isG (As.getD k []) (ps.getD k 0)) := fun z => h1 (Nat.ble_eq.mpr z)
       omega
     | come => unfold mEg; rw [isS_G]; rfl
     | rs b => unfold mEg; rw [isS_G]; rfl
     | sm b c => unfold mEg; rw [isS_G]; rfl
theorem ea_yes {As : List (List Ad)} {y : Int} {bx : Nat} {ps : List Nat} (O : Hok As y bx) (hl : ps.length = As.length) {k : Nat} (hk : k < As.length) (h : eaA As ps k = true) : eAt (dsA y As) (phiA As y bx ps).1 (phiA As y bx ps).2 (k : Int) = true := by
 unfold eaA at h
 cases e : eA As ps k with
 | none => rw [e] at h; cases h
 | some a =>
   rw [e] at h
   cases a with
   | go =>
     have hs : mStep (dsA y As) (phiA As y bx ps).1 (phiA As y bx ps).2 (k : Int) = some (phiA As y bx (upA ps k)) := by
      have := step_A O hl hk
      unfold enA at this
      rw [e] at this
      exact this
     unfold eAt
     rw [hs, Int.toNat_natCast, show cur (dsA y As) (phiA As y bx ps).1 k = _ from cur_A y As ps k, e]
     show mEg (dsA y As) (zI ps) k (.say "go") = true
     cases z : mEg (dsA y As) (zI ps) k (.say "go") with
     | true => rfl
     | false =>
       have h1 := (eg_no (by rw [dsA_len]; exact hk) isS_go).mp z
       obtain ⟨j, hj, h2⟩ := List.any_eq_true.mp h
       have hj := List.mem_range.mp hj
       have h3 := h1 j (by rw [dsA_len]; exact hj)
       rw [cntS_A (isS_G y), cntS_A (isS_C y)] at h3
       have := Nat.ble_eq.mp h2
       omega
   | come => cases h
   | rs b => cases h
   | sm b c => cases h
noncomputable def stA (As : List (List Ad)) (ps : List Nat) : Bool := ((List.range As.length).all fun k => !enA As ps k) && !decide (ps = As.map List.length)
theorem lens_A (y : Int) (As : List (List Ad)) : lens (dsA y As) = zI (As.map List.length) := by
 unfold lens dsA zI
 rw [List.map_map, List.map_map]
 refine List.map_congr_left fun as _ => ?_
 show (((as.map (Ad.d y)).length : Nat) : Int) = _
 rw [List.length_map]
 rfl
theorem zI_inj {ps qs : List Nat} (h : zI ps = zI qs) : ps = qs := List.map_inj_right (fun a b e => by omega) |>.mp h
theorem stp_A {As : List (List Ad)} {y : Int} {bx : Nat} {ps : List Nat} (O : Hok As y bx) (hl : ps.length = As.length) : mStp (dsA y As) (phiA As y bx ps).1 (phiA As y bx ps).2 = stA As ps := by
 unfold stA
 by_cases c : ∃ k, k < As.length ∧ enA As ps k = true
 · obtain ⟨k, hk, he⟩ := c
   rw [stp_no (h := (k : Int)) (by rw [show mStep (dsA y As) (phiA As y bx ps).1 (phiA As y bx ps).2 (k : Int) = _ from step_A O hl hk, he]; rfl)]
   have : ((List.range As.length).all fun k => !enA As ps k) = false := List.all_eq_false.mpr ⟨k, List.mem_range.mpr hk, by rw [he]; decide⟩
   rw [this]
   rfl
 · have h1 : ((List.range As.length).all fun k => !enA As ps k) = true := List.all_eq_true.mpr fun k hk => by
    cases z : enA As ps k with
    | false => rfl
    | true => exact absurd ⟨k, List.mem_range.mp hk, z⟩ c
   have h2 : due (dsA y As) (phiA As y bx ps).1 (phiA As y bx ps).2 = [] := List.eq_nil_iff_forall_not_mem.mpr fun h hh => by
    obtain ⟨q, hq⟩ := Option.isSome_iff_exists.mp (mem_due.mp hh)
    obtain ⟨k, _, hk, he, _⟩ := step_A' O hl hq
    exact c ⟨k, hk, he⟩
   unfold mStp
   rw [h1, h2, lens_A]
   show (true && !decide (zI ps = zI (As.map List.length))) = (true && _)
   congr 2
   exact decide_eq_decide.mpr ⟨zI_inj, fun z => by rw [z]⟩
noncomputable def codeA (r : Nat) : List Nat → Nat
 | [] => 0
 | p :: ps => p + r * codeA r ps
noncomputable def inM (m r : Nat) (ps : List Nat) : Bool := Nat.testBit m (codeA r ps)
noncomputable def chkA (As : List (List Ad)) (L m : Nat) (q : List Nat → Bool) : Bool := inM m (L + 1) (zN As.length) && (vecN As.length L).all fun ps => !inM m (L + 1) ps || (q ps && (List.range As.length).all fun k => !enA As ps k || inM m (L + 1) (upA ps k))
theorem chk_A {As : List (List Ad)} {y : Int} {bx L m : Nat} {q : List Nat → Bool} (O : Hok As y bx) (hL : ∀ as ∈ As, as.length ≤ L) (h : chkA As L m q = true) {row : List Int} {st : Sn} (w : WayH (bx : Int) (dsA y As) row st) : ∃ ps, st = phiA As y bx ps ∧ ps.length = As.length ∧ q ps = true := by
 unfold chkA at h
 obtain ⟨h0, h1⟩ := Bool.and_eq_true _ _ ▸ h
 have h1 := List.all_eq_true.mp h1
 have key : ∀ ps, inM m (L + 1) ps = true → ps.length = As.length → (∀ p ∈ ps, p ≤ L) → q ps = true ∧ ∀ k, k < As.length → enA As ps k = true → inM m (L + 1) (upA ps k) = true := fun ps hj hl hp => by
  have h2 := h1 ps (mem_vecN hl hp)
  rw [hj] at h2
  have h2 : (q ps && (List.range As.length).all fun k => !enA As ps k || inM m (L + 1) (upA ps k)) = true := h2
  obtain ⟨h3, h4⟩ := Bool.and_eq_true _ _ ▸ h2
  refine ⟨h3, fun k hk he => ?_⟩
  have h5 := List.all_eq_true.mp h4 k (List.mem_range.mpr hk)
  rw [he] at h5
  exact h5
 obtain ⟨ps, e, hl, hp, hj⟩ := way_J O hL (fun ps => inM m (L + 1) ps = true) h0 (fun ps k hj hl hp hk he => (key ps hj hl hp).2 k hk he) w
 exact ⟨ps, e, hl, (key ps hj hl hp).1⟩
noncomputable def runA (As : List (List Ad)) : List Nat → List Nat → Option (List Nat)
 | [], ps => some ps
 | k :: r, ps => if (Nat.blt k As.length && enA As ps k) = true then runA As r (upA ps k) else none
theorem run_A {As : List (List Ad)} {y : Int} {bx : Nat} (O : Hok As y bx) : ∀ {row ps qs : List Nat}, ps.length = As.length → runA As row ps = some qs → qs.length = As.length ∧ mRun (dsA y As) (phiA As y bx ps).1 (phiA As y bx ps).2 (zI row) = some (phiA As y bx qs)
 | [], ps, qs, hl, e => by
   cases e
   exact ⟨hl, rfl⟩
 | k :: r, ps, qs, hl, e => by
   unfold runA at e
   by_cases c : (Nat.blt k As.length && enA As ps k) = true
   · rw [if_pos c] at e
     obtain ⟨c1, c2⟩ := Bool.and_eq_true _ _ ▸ c
     have hk : k < As.length := Nat.blt_eq.mp c1
     obtain ⟨h1, h2⟩ := run_A O (by rw [up_len, hl]) e
     refine ⟨h1, ?_⟩
     have hs := step_A O hl hk
     rw [if_pos c2] at hs
     show mRun (dsA y As) (phiA As y bx ps).1 (phiA As y bx ps).2 ((k : Int) :: zI r) = _
     unfold mRun
     rw [show mStep (dsA y As) (phiA As y bx ps).1 (phiA As y bx ps).2 (k : Int) = _ from hs]
     exact h2
   · rw [if_neg c] at e
     cases e
theorem run_W {As : List (List Ad)} {y : Int} {bx : Nat} (O : Hok As y bx) {row qs : List Nat} (e : runA As row (zN As.length) = some qs) : qs.length = As.length ∧ WayH (bx : Int) (dsA y As) (zI row) (phiA As y bx qs) := by
 obtain ⟨h1, h2⟩ := run_A O List.length_replicate e
 refine ⟨h1, run_way (s0 := s00 (bx : Int) (dsA y As)) _ _ _ rfl ?_⟩
 rw [← phi0]
 exact h2
noncomputable def noEa (As : List (List Ad)) (ps : List Nat) : Bool := (List.range As.length).all fun k => !eaA As ps k
noncomputable def okA (As : List (List Ad)) (L : Nat) (e m : Nat) (row : List Nat) : Bool := match e with
 | 0 => chkA As L m fun ps => noEa As ps && !stA As ps
 | 1 => match row.reverse with
   | [] => false
   | k :: r => match runA As r.reverse (zN As.length) with
     | some ps => Nat.blt k As.length && eaA As ps k
     | none => false
 | _ => chkA As L m (noEa As) && match runA As row (zN As.length) with
     | some ps => stA As ps
     | none => false
noncomputable def Res (bx : Int) (dss : List (List Dd)) (e : Nat) : Prop := match e with
 | 0 => NoE bx dss ∧ NoS bx dss
 | 1 => ∃ row st h, WayH bx dss row st ∧ eAt dss st.1 st.2 h = true
 | _ => NoE bx dss ∧ ∃ row st, WayH bx dss row st ∧ mStp dss st.1 st.2 = true
theorem noEa_at {As : List (List Ad)} {ps : List Nat} (h : noEa As ps = true) : ∀ k, k < As.length → eaA As ps k = false := fun k hk => by
 have := List.all_eq_true.mp h k (List.mem_range.mpr hk)
 simpa using this
theorem res_A {As : List (List Ad)} {y : Int} {bx L e m : Nat} {row : List Nat} (O : Hok As y bx) (hL : ∀ as ∈ As, as.length ≤ L) (h : okA As L e m row = true) : Res (bx : Int) (dsA y As) e := by
 unfold okA at h
 match e, h with
 | 0, h =>
   refine ⟨fun row st x w => ?_, fun row st w => ?_⟩
   · obtain ⟨ps, rfl, hl, hq⟩ := chk_A O hL h w
     exact ea_no O hl (noEa_at (Bool.and_eq_true _ _ ▸ hq).1) x
   · obtain ⟨ps, rfl, hl, hq⟩ := chk_A O hL h w
     rw [stp_A O hl]
     have := (Bool.and_eq_true _ _ ▸ hq).2
     simpa using this
 | 1, h =>
   show ∃ row st h, _
   cases hr : row.reverse with
   | nil => rw [hr] at h; cases h
   | cons k r =>
     rw [hr] at h
     cases hu : runA As r.reverse (zN As.length) with
     | none => simp only [hu] at h; cases h
     | some ps =>
       simp only [hu] at h
       obtain ⟨h1, h2⟩ := Bool.and_eq_true _ _ ▸ h
       obtain ⟨hl, w⟩ := run_W O hu
       exact ⟨_, _, (k : Int), w, ea_yes O hl (Nat.blt_eq.mp h1) h2⟩
 | n + 2, h =>
   obtain ⟨h1, h2⟩ := Bool.and_eq_true _ _ ▸ h
   refine ⟨fun row st x w => ?_, ?_⟩
   · obtain ⟨ps, rfl, hl, hq⟩ := chk_A O hL h1 w
     exact ea_no O hl (noEa_at hq) x
   · cases hu : runA As row (zN As.length) with
     | none => rw [hu] at h2; cases h2
     | some ps =>
       rw [hu] at h2
       obtain ⟨hl, w⟩ := run_W O hu
       exact ⟨_, _, w, by rw [stp_A O hl]; exact h2⟩
noncomputable def phA (b c bent : Nat) : List Ad := match bent with
 | 0 => [.come, .rs b, .sm b c, .go]
 | 1 => [.come, .sm b c, .go, .rs b]
 | _ => [.come, .rs b, .go, .sm b c]
noncomputable def boxK (kd ph : Nat) : Nat := if Nat.beq kd 1 then 0 else ph
noncomputable def dueK (crew kd ph when : Nat) : Nat := if Nat.beq kd 1 then crew * (ph + 1) else if Nat.beq ph when && Nat.beq kd 2 then crew - 1 else if Nat.beq ph when && Nat.beq kd 3 then crew + 1 else crew
noncomputable def bentK (kd hand who ph when : Nat) : Nat := if Nat.beq hand who && Nat.beq ph when then (if Nat.beq kd 4 then 1 else if Nat.beq kd 5 then 2 else 0) else 0
noncomputable def handA (crew phases kd who when hand : Nat) : List Ad := (List.range phases).flatMap fun ph => phA (boxK kd ph) (dueK crew kd ph when) (bentK kd hand who ph when)
noncomputable def asK (crew phases kd who when : Nat) : List (List Ad) := (List.range crew).map (handA crew phases kd who when)
noncomputable def codeK (crew phases kd : Nat) : Nat := if Nat.beq kd 1 && Nat.blt 1 crew && Nat.blt 1 phases then 2 else if Nat.beq kd 2 then (if Nat.beq crew 1 then 2 else 1) else if Nat.beq kd 3 || Nat.beq kd 4 then 2 else if Nat.beq kd 5 && Nat.blt 1 crew then 1 else 0
noncomputable def tabK : List ((Nat × Nat × Nat × Nat × Nat) × Nat × List Nat) := [((1,1,0,0,0),0x1f,[]),
 ((1,1,1,0,0),0x1f,[]),
 ((1,1,2,0,0),0x7,[0,0]),
 ((1,1,3,0,0),0x7,[0,0]),
 ((1,1,4,0,0),0x3,[0]),
 ((1,1,5,0,0),0x1f,[]),
 ((1,2,0,0,0),0x1ff,[]),
 ((1,2,1,0,0),0x1ff,[]),
 ((1,2,2,0,0),0x7,[0,0]),
 ((1,2,2,0,1),0x7f,[0,0,0,0,0,0]),
 ((1,2,3,0,0),0x7,[0,0]),
 ((1,2,3,0,1),0x7f,[0,0,0,0,0,0]),
 ((1,2,4,0,0),0x3,[0]),
 ((1,2,4,0,1),0x3f,[0,0,0,0,0]),
 ((1,2,5,0,0),0x1ff,[]),
 ((1,2,5,0,1),0x1ff,[]),
 ((1,3,0,0,0),0x1fff,[]),
 ((1,3,1,0,0),0x1fff,[]),
 ((1,3,2,0,0),0x7,[0,0]),
 ((1,3,2,0,1),0x7f,[0,0,0,0,0,0]),
 ((1,3,2,0,2),0x7ff,[0,0,0,0,0,0,0,0,0,0]),
 ((1,3,3,0,0),0x7,[0,0]),
 ((1,3,3,0,1),0x7f,[0,0,0,0,0,0]),
 ((1,3,3,0,2),0x7ff,[0,0,0,0,0,0,0,0,0,0]),
 ((1,3,4,0,0),0x3,[0]),
 ((1,3,4,0,1),0x3f,[0,0,0,0,0]),
 ((1,3,4,0,2),0x3ff,[0,0,0,0,0,0,0,0,0]),
 ((1,3,5,0,0),0x1fff,[]),
 ((1,3,5,0,1),0x1fff,[]),
 ((1,3,5,0,2),0x1fff,[]),
 ((2,1,0,0,0),0x1ce7ce7,[]),
 ((2,1,1,0,0),0x1ce7ce7,[]),
 ((2,1,2,0,0),0,[0,0,0,0]),
 ((2,1,3,0,0),0x1ce7,[0,0,1,1]),
 ((2,1,4,0,0),0xc63,[0,1,1]),
 ((2,1,4,1,0),0xe7,[0,0,1]),
 ((2,1,5,0,0),0,[0,0,0]),
 ((2,1,5,1,0),0,[1,1,1]),
 ((2,2,0,0,0),0x1c0e07f0f87c3e1fc0e07,[]),
 ((2,2,1,0,0),0x1c0e07f0f87c3e1fc0e07,[0,0,1,1,0,0,0,0]),
 ((2,2,2,0,0),0,[0,0,0,0]),
 ((2,2,2,0,1),0,[0,0,1,1,0,0,0,0,0,0]),
 ((2,2,3,0,0),0x1c0e07,[0,0,1,1]),
 ((2,2,3,0,1),0x1f0f87c3e1fc0e07,[0,0,1,1,0,0,0,0,1,1,1,1]),
 ((2,2,4,0,0),0xc0603,[0,1,1]),
 ((2,2,4,0,1),0xf0783c1e0fc0e07,[0,0,1,1,0,0,0,1,1,1,1]),
 ((2,2,4,1,0),0xe07,[0,0,1]),
 ((2,2,4,1,1),0xf87c3e1fc0e07,[0,0,1,1,0,0,0,0,1,1,1]),
 ((2,2,5,0,0),0,[0,0,0]),
 ((2,2,5,0,1),0,[0,0,1,1,0,0,0,0,0]),
 ((2,2,5,1,0),0,[1,1,1]),
 ((2,2,5,1,1),0,[0,0,1,1,1,1,1,1,1]),
 ((2,3,0,0,0),0x1c00e007f00f807c03e01ff00f807c03e01fc00e007,[]),
 ((2,3,1,0,0),0x1c00e007f00f807c03e01ff00f807c03e01fc00e007,[0,0,1,1,0,0,0,0]),
 ((2,3,2,0,0),0,[0,0,0,0]),
 ((2,3,2,0,1),0,[0,0,1,1,0,0,0,0,0,0]),
 ((2,3,2,0,2),0,[0,0,1,1,0,0,0,0,1,1,1,1,0,0,0,0,0,0]),
 ((2,3,3,0,0),0x1c00e007,[0,0,1,1]),
 ((2,3,3,0,1),0x1f00f807c03e01fc00e007,[0,0,1,1,0,0,0,0,1,1,1,1]),
 ((2,3,3,0,2),0x1f00f807c03e01ff00f807c03e01fc00e007,[0,0,1,1,0,0,0,0,1,1,1,1,0,0,0,0,1,1,1,1]),
 ((2,3,4,0,0),0xc006003,[0,1,1]),
 ((2,3,4,0,1),0xf007803c01e00fc00e007,[0,0,1,1,0,0,0,1,1,1,1]),
 ((2,3,4,0,2),0xf007803c01e00ff00f807c03e01fc00e007,[0,0,1,1,0,0,0,0,1,1,1,1,0,0,0,1,1,1,1]),
 ((2,3,4,1,0),0xe007,[0,0,1]),
 ((2,3,4,1,1),0xf807c03e01fc00e007,[0,0,1,1,0,0,0,0,1,1,1]),
 ((2,3,4,1,2),0xf807c03e01ff00f807c03e01fc00e007,[0,0,1,1,0,0,0,0,1,1,1,1,0,0,0,0,1,1,1]),
 ((2,3,5,0,0),0,[0,0,0]),
 ((2,3,5,0,1),0,[0,0,1,1,0,0,0,0,0]),
 ((2,3,5,0,2),0,[0,0,1,1,0,0,0,0,1,1,1,1,0,0,0,0,0]),
 ((2,3,5,1,0),0,[1,1,1]),
 ((2,3,5,1,1),0,[0,0,1,1,1,1,1,1,1]),
 ((2,3,5,1,2),0,[0,0,1,1,0,0,0,0,1,1,1,1,1,1,1,1,1]),
 ((3,1,0,0,0),0x1ce7000e73800739f39c0039ce001ce7,[]),
 ((3,1,1,0,0),0x1ce7000e73800739f39c0039ce001ce7,[]),
 ((3,1,2,0,0),0,[0,0,1,1,0,0]),
 ((3,1,3,0,0),0x739c0039ce001ce7,[0,0,1,1,2,2]),
 ((3,1,4,0,0),0x318c0018c6000c63,[0,1,1,2,2]),
 ((3,1,4,1,0),0x39c0001ce0000e7,[0,0,1,2,2]),
 ((3,1,4,2,0),0x39ce001ce7,[0,0,1,1,2]),
 ((3,1,5,0,0),0,[0,0,0]),
 ((3,1,5,1,0),0,[1,1,1]),
 ((3,1,5,2,0),0,[2,2,2]),
 ((3,2,0,0,0),0x1c0e07000000000000000e070380000000000000070381fc3e1f0f87c0000000003e1f0f87c3e0000000001f0f87c3e1f0000000000f87c3e1f0f80000000007c3e1f0f87f0381c00000000000000381c0e000000000000001c0e07,[]),
 ((3,2,1,0,0),0x1c0e07000000000000000e070380000000000000070381fc3e1f0f87c0000000003e1f0f87c3e0000000001f0f87c3e1f0000000000f87c3e1f0f80000000007c3e1f0f87f0381c00000000000000381c0e000000000000001c0e07,[0,0,1,1,2,2,0,0,0,0]),
 ((3,2,2,0,0),0,[0,0,1,1,0,0]),
 ((3,2,2,0,1),0,[0,0,1,1,2,2,0,0,0,0,1,1,1,1,0,0]),
 ((3,2,3,0,0),0x70381c00000000000000381c0e000000000000001c0e07,[0,0,1,1,2,2]),
 ((3,2,3,0,1),0x7c3e1f0f87c0000000003e1f0f87c3e0000000001f0f87c3e1f0000000000f87c3e1f0f80000000007c3e1f0f87f0381c00000000000000381c0e000000000000001c0e07,[0,0,1,1,2,2,0,0,0,0,1,1,1,1,2,2,2,2]),
 ((3,2,4,0,0),0x30180c00000000000000180c06000000000000000c0603,[0,1,1,2,2]),
 ((3,2,4,0,1),0x3c1e0f0783c0000000001e0f0783c1e0000000000f0783c1e0f0000000000783c1e0f0780000000003c1e0f0783f0381c00000000000000381c0e000000000000001c0e07,[0,0,1,1,2,2,0,0,0,1,1,1,1,2,2,2,2]),
 ((3,2,4,1,0),0x381c00000000000000001c0e00000000000000000e07,[0,0,1,2,2]),
 ((3,2,4,1,1),0x3e1f0f87c000000000001f0f87c3e000000000000f87c3e1f0000000000007c3e1f0f8000000000003e1f0f87f0381c00000000000000381c0e000000000000001c0e07,[0,0,1,1,2,2,0,0,0,0,1,1,1,2,2,2,2]),
 ((3,2,4,2,0),0x381c0e000000000000001c0e07,[0,0,1,1,2]),
 ((3,2,4,2,1),0x3e1f0f87c3e0000000001f0f87c3e1f0000000000f87c3e1f0f80000000007c3e1f0f87f0381c00000000000000381c0e000000000000001c0e07,[0,0,1,1,2,2,0,0,0,0,1,1,1,1,2,2,2]),
 ((3,2,5,0,0),0,[0,0,0]),
 ((3,2,5,0,1),0,[0,0,1,1,2,2,0,0,0,0,0]),
 ((3,2,5,1,0),0,[1,1,1]),
 ((3,2,5,1,1),0,[0,0,1,1,2,2,1,1,1,1,1]),
 ((3,2,5,2,0),0,[2,2,2]),
 ((3,2,5,2,1),0,[0,0,1,1,2,2,2,2,2,2,2]),
 ((4,1,0,0,0),0x1ce7000e73800739c000000000000000e73800739c0039ce000000000000000739c0039ce001ce7ce7000e73800739c000000000000000e73800739c0039ce000000000000000739c0039ce001ce7,[]),
 ((4,1,1,0,0),0x1ce7000e73800739c000000000000000e73800739c0039ce000000000000000739c0039ce001ce7ce7000e73800739c000000000000000e73800739c0039ce000000000000000739c0039ce001ce7,[]),
 ((4,1,2,0,0),0,[0,0,1,1,2,2,0,0]),
 ((4,1,3,0,0),0x1ce7000e73800739c000000000000000e73800739c0039ce000000000000000739c0039ce001ce7,[0,0,1,1,2,2,3,3]),
 ((4,1,4,0,0),0xc63000631800318c000000000000000631800318c0018c6000000000000000318c0018c6000c63,[0,1,1,2,2,3,3]),
 ((4,1,4,1,0),0xe7000073800039c000000000000000073800039c0001ce000000000000000039c0001ce0000e7,[0,0,1,2,2,3,3]),
 ((4,1,4,2,0),0xe73800739c000000000000000000000739c0039ce00000000000000000000039ce001ce7,[0,0,1,1,2,3,3]),
 ((4,1,4,3,0),0xe73800739c0039ce000000000000000739c0039ce001ce7,[0,0,1,1,2,2,3]),
 ((4,1,5,0,0),0,[0,0,0]),
 ((4,1,5,1,0),0,[1,1,1]),
 ((4,1,5,2,0),0,[2,2,2]),
 ((4,1,5,3,0),0,[3,3,3])]
theorem tab_ok : (tabK.all fun e => okA (asK e.1.1 e.1.2.1 e.1.2.2.1 e.1.2.2.2.1 e.1.2.2.2.2) (4 * e.1.2.1) (codeK e.1.1 e.1.2.1 e.1.2.2.1) e.2.1 e.2.2) = true := by decide +kernel
noncomputable def adS : Ad → Option Bool | .come => some true | .go => some false | _ => none
noncomputable def goodA (bx : Nat) : Ad → Bool
 | .rs b => Nat.blt b bx
 | .sm b c => Nat.blt b bx && Nat.ble c 9
 | _ => true
noncomputable def hokB (As : List (List Ad)) (crew bx : Nat) : Bool := Nat.beq As.length crew && (As.all fun as => (as.all (goodA bx)) && (Nat.ble as.length (4 * bx) && decide (as.filterMap adS = (List.range (2 * bx)).map fun i => Nat.beq (i % 2) 0))) && ((List.range bx).all fun b => Nat.ble (As.map fun as => as.countP (isR b)).sum 9)
noncomputable def mxP (c : Nat) : Nat := [3, 3, 2, 1].getD c 0
noncomputable def covK (crew phases kd who when : Nat) : Bool := hokB (asK crew phases kd who when) crew phases && (Nat.ble (vecN crew (4 * phases)).length 1250 && tabK.any fun e => Nat.beq e.1.1 crew && (Nat.beq e.1.2.1 phases && (Nat.beq e.1.2.2.1 kd && decide (asK e.1.1 e.1.2.1 e.1.2.2.1 e.1.2.2.2.1 e.1.2.2.2.2 = asK crew phases kd who when))))
theorem cov_ok : ((List.range 4).all fun c => (List.range (mxP c)).all fun f => (List.range 6).all fun kd => (List.range (c + 1)).all fun who => (List.range (f + 1)).all fun when => covK (c + 1) (f + 1) kd who when) = true := by decide +kernel
structure Par (crew phases kd who when : Nat) : Prop where
 c1 : 1 ≤ crew
 c4 : crew ≤ 4
 f1 : 1 ≤ phases
 fm : phases ≤ mxP (crew - 1)
 k : kd < 6
 w : who < crew
 h : when < phases
theorem Par.f3 {crew phases kd who when : Nat} (p : Par crew phases kd who when) : phases ≤ 3 := by
 have h1 := p.c1; have h2 := p.c4; have h3 := p.fm
 have : crew = 1 ∨ crew = 2 ∨ crew = 3 ∨ crew = 4 := by omega
 rcases this with rfl | rfl | rfl | rfl
 · exact h3
 · exact h3
 · exact Nat.le_trans h3 (by decide)
 · exact Nat.le_trans h3 (by decide)
theorem par_cov {crew phases kd who when : Nat} (p : Par crew phases kd who when) : covK crew phases kd who when = true := by
 have h1 := p.c1; have h2 := p.c4; have h3 := p.f1; have h4 := p.fm; have h5 := p.w; have h6 := p.h
 have a := List.all_eq_true.mp cov_ok (crew - 1) (List.mem_range.mpr (by omega))
 have a := List.all_eq_true.mp a (phases - 1) (List.mem_range.mpr (by omega))
 have a := List.all_eq_true.mp a kd (List.mem_range.mpr p.k)
 have a := List.all_eq_true.mp a who (List.mem_range.mpr (by omega))
 have a := List.all_eq_true.mp a when (List.mem_range.mpr (by omega))
 rw [show crew - 1 + 1 = crew by omega, show phases - 1 + 1 = phases by omega] at a
 exact a
noncomputable def Yb (y : Int) : Prop := y = 1 ∨ y = 3 ∨ y = 7 ∨ y = 9
theorem hokB_ok {As : List (List Ad)} {crew bx : Nat} {y : Int} (h : hokB As crew bx = true) (hy : Yb y) : As.length = crew ∧ Hok As y bx ∧ (∀ as ∈ As, as.length ≤ 4 * bx) ∧ (∀ as ∈ As, as.filterMap adS = (List.range (2 * bx)).map fun i => Nat.beq (i % 2) 0) ∧ ∀ as ∈ As, ∀ a ∈ as, goodA bx a = true := by
 unfold hokB at h
 simp only [Bool.and_eq_true] at h
 obtain ⟨⟨h1, h2⟩, h3⟩ := h
 have h2 := List.all_eq_true.mp h2
 have h3 := List.all_eq_true.mp h3
 have hg : ∀ as ∈ As, ∀ a ∈ as, goodA bx a = true := fun as has a ha => by
  have := h2 as has
  simp only [Bool.and_eq_true] at this
  exact List.all_eq_true.mp this.1 a ha
 refine ⟨Nat.eq_of_beq_eq_true h1, ⟨hy, fun as has b hb => ?_, fun as has b c hb => ?_, fun b hb => ?_⟩, fun as has => ?_, fun as has => ?_, hg⟩
 · exact Nat.blt_eq.mp (hg as has _ hb)
 · have : (Nat.blt b bx && Nat.ble c 9) = true := hg as has _ hb
   simp only [Bool.and_eq_true] at this
   exact ⟨Nat.blt_eq.mp this.1, Nat.ble_eq.mp this.2⟩
 · exact Nat.ble_eq.mp (h3 b (List.mem_range.mpr hb))
 · have := h2 as has
   simp only [Bool.and_eq_true] at this
   exact Nat.ble_eq.mp this.2.1
 · have := h2 as has
   simp only [Bool.and_eq_true, decide_eq_true_eq] at this
   exact this.2.2
theorem y_in {y : Int} (h : Yb y) : 1 ≤ y ∧ y ≤ 9 := by rcases h with rfl | rfl | rfl | rfl <;> exact ⟨by decide, by decide⟩
theorem gd_A {bx : Nat} {y : Int} {a : Ad} (hy : Yb y) (h : goodA bx a = true) : Gd (bx : Int) 0 (Ad.d y a).t := by
 have ⟨y1, y9⟩ := y_in hy
 cases a with
 | come => exact g_say (.inl rfl)
 | go => exact g_say (.inr rfl)
 | rs b =>
   have h : b < bx := Nat.blt_eq.mp h
   exact g_raise (by omega) (by omega) y1 y9
 | sm b c =>
   have h : (Nat.blt b bx && Nat.ble c 9) = true := h
   simp only [Bool.and_eq_true] at h
   have h1 : b < bx := Nat.blt_eq.mp h.1
   exact g_same (by omega) (by omega) (Int.emod_nonneg _ (by decide)) (by have := Int.emod_lt_of_pos (((c : Nat) : Int) * y) (show (0 : Int) < 10 by decide); omega)
theorem ns_w : wEq "raise" "say" = false ∧ wEq "same" "say" = false := by decide +kernel
theorem in_A {bx : Nat} {y : Int} {a : Ad} (h : goodA bx a = true) : (Ad.d y a).In (bx : Int) ∧ (Ad.d y a).NS := by
 cases a with
 | come => exact ⟨trivial, trivial⟩
 | go => exact ⟨trivial, trivial⟩
 | rs b =>
   have h : b < bx := Nat.blt_eq.mp h
   exact ⟨⟨by omega, by omega, fun z => (by rw [w_rs.2.2.2] at z; cases z)⟩, ns_w.1⟩
 | sm b c =>
   have h : (Nat.blt b bx && Nat.ble c 9) = true := h
   simp only [Bool.and_eq_true] at h
   have h1 : b < bx := Nat.blt_eq.mp h.1
   exact ⟨⟨by omega, by omega, fun z => (by rw [w_sm.2.2.2] at z; cases z)⟩, ns_w.2⟩
noncomputable def bS (b : Bool) : Str := if b = true then "come" else "go"
theorem says_A (y : Int) : ∀ as : List Ad, saysT ((as.map (Ad.d y)).map Dd.t) = (as.filterMap adS).map bS
 | [] => rfl
 | a :: as => by
   have ih := says_A y as
   cases a with
   | come =>
     show ("come" : Str) :: saysT ((as.map (Ad.d y)).map Dd.t) = bS true :: (as.filterMap adS).map bS
     rw [ih]; rfl
   | go =>
     show ("go" : Str) :: saysT ((as.map (Ad.d y)).map Dd.t) = bS false :: (as.filterMap adS).map bS
     rw [ih]; rfl
   | rs b => exact ih
   | sm b c => exact ih
theorem sk_A (y : Int) (a : Ad) : skM (Ad.d y a).t = 0 := by cases a <;> rfl
theorem gds_all {bx : Int} {ts : List T} (h : ∀ t ∈ ts, Gd bx 0 t) : Gds bx ts := fun i t e => by
 have hi := (List.getElem?_eq_some_iff.mp e).1
 exact (h t (List.mem_of_getElem? e)).mono (by omega)
theorem cgo_A (n : Nat) : ((List.range (2 * n)).map fun i => Nat.beq (i % 2) 0).map bS = cgo (2 * ((n : Nat) : Int)).toNat := by
 rw [show (2 * ((n : Nat) : Int)).toNat = 2 * n by omega]
 unfold cgo
 rw [List.map_map]
 refine List.map_congr_left fun i _ => ?_
 show bS (Nat.beq (i % 2) 0) = cg1 i
 unfold bS cg1
 by_cases c : i % 2 = 0
 · rw [c]; rfl
 · rw [if_neg c, if_neg (fun z => c (Nat.eq_of_beq_eq_true z))]
theorem kind_ok {crew phases kd who when : Nat} {y : Int} (p : Par crew phases kd who when) (hy : Yb y) :
  HD ((phases : Nat) : Int) (dsA y (asK crew phases kd who when)) ∧ WD ((phases : Nat) : Int) (dsA y (asK crew phases kd who when)) ∧ CrD ((phases : Nat) : Int) (dsA y (asK crew phases kd who when)) ∧ Res ((phases : Nat) : Int) (dsA y (asK crew phases kd who when)) (codeK crew phases kd) := by
 have hc := par_cov p
 unfold covK at hc
 simp only [Bool.and_eq_true] at hc
 obtain ⟨h1, h2, h3⟩ := hc
 obtain ⟨hn, O, hL, hS, hg⟩ := hokB_ok h1 hy
 have f1 := p.f1; have f3 := p.f3; have c1 := p.c1; have c4 := p.c4
 have hR : Res ((phases : Nat) : Int) (dsA y (asK crew phases kd who when)) (codeK crew phases kd) := by
  obtain ⟨e, he, hh⟩ := List.any_eq_true.mp h3
  simp only [Bool.and_eq_true, decide_eq_true_eq] at hh
  obtain ⟨e1, e2, e3, e4⟩ := hh
  have e1 := Nat.eq_of_beq_eq_true e1
  have e2 := Nat.eq_of_beq_eq_true e2
  have e3 := Nat.eq_of_beq_eq_true e3
  have := List.all_eq_true.mp tab_ok e he
  rw [e4, e1, e2, e3] at this
  exact res_A O hL this
 refine ⟨?_, ?_, few_A O hL (by rw [hn]; exact Nat.ble_eq.mp h2), hR⟩
 · have LL : LH ((phases : Nat) : Int) ((phases : Nat) : Int) ((dsA y (asK crew phases kd who when)).map scT) := ⟨by omega, by omega, by omega, by omega, by rw [List.length_map, dsA_len, hn]; exact c1, by rw [List.length_map, dsA_len, hn]; exact c4, fun s hs => by
    obtain ⟨ds, hds, rfl⟩ := List.mem_map.mp hs
    obtain ⟨as, has, rfl⟩ := List.mem_map.mp hds
    refine ⟨_, rfl, gds_all fun t ht => ?_, ?_, ?_, ?_⟩
    · obtain ⟨d, hd, rfl⟩ := List.mem_map.mp ht
      obtain ⟨a, ha, rfl⟩ := List.mem_map.mp hd
      exact gd_A hy (hg as has a ha)
    · rw [List.length_map, List.length_map]
      have := hL as has
      omega
    · rw [says_A, hS as has, cgo_A]
    · intro i t e
      have ht := List.mem_of_getElem? e
      obtain ⟨d, hd, rfl⟩ := List.mem_map.mp ht
      obtain ⟨a, ha, rfl⟩ := List.mem_map.mp hd
      rw [sk_A]
      rfl⟩
   have g := lh_good LL
   have f := LH.fro LL.each
   refine ⟨LL.b0, by omega, by rw [dsA_len, hn]; exact c1, by rw [dsA_len, hn]; exact c4, fun ds hds => ?_, fun ds hds d hd => ?_, g.1, g.2, by unfold hT Fro FroL; exact ⟨by unfold Fro; trivial, by unfold FroL; exact ⟨by unfold Fro; exact f, by unfold FroL; trivial⟩⟩, fun ds hds d hd => ?_, fun ds hds d hd => ?_, fun ds hds i d e => ?_⟩
   · obtain ⟨as, has, rfl⟩ := List.mem_map.mp hds
     rw [List.length_map]
     have := hL as has
     omega
   · obtain ⟨as, has, rfl⟩ := List.mem_map.mp hds
     obtain ⟨a, ha, rfl⟩ := List.mem_map.mp hd
     exact (in_A (hg as has a ha)).1
   · obtain ⟨as, has, rfl⟩ := List.mem_map.mp hds
     obtain ⟨a, ha, rfl⟩ := List.mem_map.mp hd
     exact (in_A (hg as has a ha)).2
   · obtain ⟨as, has, rfl⟩ := List.mem_map.mp hds
     obtain ⟨a, ha, rfl⟩ := List.mem_map.mp hd
     exact (gd_A hy (hg as has a ha)).lay
   · obtain ⟨as, has, rfl⟩ := List.mem_map.mp hds
     have hi := (List.getElem?_eq_some_iff.mp e).1
     obtain ⟨a, ha, rfl⟩ := List.mem_map.mp (List.mem_of_getElem? e)
     rw [sk_A]
     omega
 · refine ⟨by omega, by omega, fun ds hds => ?_, fun ds hds => ?_⟩
   · obtain ⟨as, has, rfl⟩ := List.mem_map.mp hds
     rw [says_A, hS as has, cgo_A]
   · obtain ⟨as, has, rfl⟩ := List.mem_map.mp hds
     intro i t e
     obtain ⟨d, hd, rfl⟩ := List.mem_map.mp (List.mem_of_getElem? e)
     obtain ⟨a, ha, rfl⟩ := List.mem_map.mp hd
     rw [sk_A]
     rfl
abbrev s_phaseF : Stmt := top 57
abbrev s_dueF : Stmt := top 59
abbrev s_showsF : Stmt := top 60
theorem decStr (x : Str) : decide (V.str x = V.str x) = true := decide_eq_true rfl
theorem eh : decide (V.str "early" = V.str "holds") = false ∧ decide (V.str "stuck" = V.str "holds") = false ∧ decide (V.str "stuck" = V.str "early") = false ∧ decide (V.str "holds" = V.str "early") = false ∧ decide (V.str "holds" = V.str "stuck") = false := by decide +kernel
theorem way_app {bx : Int} {dss : List (List Dd)} {row : List Int} {st q : Sn} {h : Int} (w : WayH bx dss row st) (e : mStep dss st.1 st.2 h = some q) : WayH bx dss (row ++ [h]) q := Way.snoc (p := (h, q)) w (mem_nxL.mpr e)
noncomputable def bW (n : Nat) : Str := match n with | 0 => "" | 1 => "late" | _ => "quick"
noncomputable def kW (n : Nat) : Str := match n with | 0 => "each" | 1 => "one" | 2 => "few" | 3 => "many" | 4 => "late" | _ => "quick"
noncomputable def rW (n : Nat) : Str := match n with | 0 => "holds" | 1 => "early" | _ => "stuck"
theorem bW_is : ∀ n, n < 3 → decide (V.str (bW n) = V.str "late") = Nat.beq n 1 ∧ decide (V.str (bW n) = V.str "quick") = Nat.beq n 2 := by decide +kernel
theorem kW_is : ∀ n, n < 6 → decide (V.str (kW n) = V.str "one") = Nat.beq n 1 ∧ decide (V.str (kW n) = V.str "few") = Nat.beq n 2 ∧ decide (V.str (kW n) = V.str "many") = Nat.beq n 3 ∧ decide (V.str (kW n) = V.str "late") = Nat.beq n 4 ∧ decide (V.str (kW n) = V.str "quick") = Nat.beq n 5 := by decide +kernel
noncomputable def spPh : Sp := fun vs H Q _ => ∃ b c bn : Nat, ∃ y : Int, vs = [.int (b : Int), .int (((c : Nat) : Int) * y % 10), .int y, .str (bW bn)] ∧ bn < 3 ∧ ∀ l xs H', Same H H' → H' l = some (.lst xs) → L2.IsL H' (((phA b c bn).map (Ad.d y)).map Dd.t) xs → Q (.ref l) H'
noncomputable def spDu : Sp := fun vs H Q _ => ∃ crew phases kd : Nat, vs = [.int (crew : Int), .int (phases : Int), .str (kW kd)] ∧ kd < 6 ∧ ∀ H', Same H H' → Q (.str (rW (codeK crew phases kd))) H'
theorem isD2 {H : Hp} {a : Addr} {x z : Str} (g : H a = some (.tup [.str x, .str z])) : Is H (.tup [.str x, .str z]) (.ref a) := ⟨_, _, rfl, g, _, _, rfl, rfl, _, _, rfl, rfl, rfl⟩
theorem isD3 {H : Hp} {a : Addr} {x : Str} {i j : Int} (g : H a = some (.tup [.str x, .int i, .int j])) : Is H (.tup [.str x, .int i, .int j]) (.ref a) := ⟨_, _, rfl, g, _, _, rfl, rfl, _, _, rfl, rfl, _, _, rfl, rfl, rfl⟩
theorem sc_phaseF : FnScope ["box", "due", "by", "bent", "deeds"] ["box", "due", "by", "bent"] (defScope s_phaseF) := ⟨rfl, rfl, rfl, by decide +kernel, rfl, by decide +kernel, by decide +kernel⟩
theorem ok_phaseF (D : Def K mg "_law_e_phase" s_phaseF) : Ok P w K mg base "_law_e_phase" 1 ["box", "due", "by", "bent"] spPh := by
 refine mkOk D sc_phaseF (fun _ _ _ _ _ _ us hl => (match us, hl with | [_, _, _, _], _ => rfl)) (fun vs H Q E ⟨_, _, _, _, e, _⟩ => by rw [e]; rfl) fun f cdv A outer s H vs Q E hr h => ?_
 obtain ⟨b, c, bn, y, rfl, hb, kk⟩ := h
 have nd := sc_phaseF.nd
 refine ⟨_, zqb (zqq (i := 4) nd rfl (Or.inl rfl) (zxo (zqa (zxg (zqa zqm (zqa zqm zqc))) (zqa (zxg (zqa zqm (zqa (pv 0) (zqa (pv 2) zqc)))) (zqa (zxg (zqa zqm (zqa (pv 0) (zqa (pv 1) zqc)))) (zqa (zxg (zqa zqm (zqa zqm zqc))) zqc))))))
  (zqb (zqv (zql zq4 (pv 3) zqm (nomark _)) (zqe (zqh (zxo (zqa (zqn zqu (pv 4) zqd (fun _ _ => rfl)) (zqa (zqn zqu (pv 4) zqd (fun _ _ => rfl)) (zqa (zqn zqu (pv 4) zqd (fun _ _ => rfl)) (zqa (zqn zqu (pv 4) zqd (fun _ _ => rfl)) zqc))))))) zqi)
  (zqb (zqv (zql zq4 (pv 3) zqm (nomark _)) (zqe (zqh (zxo (zqa (zqn zqu (pv 4) zqd (fun _ _ => rfl)) (zqa (zqn zqu (pv 4) zqd (fun _ _ => rfl)) (zqa (zqn zqu (pv 4) zqd (fun _ _ => rfl)) (zqa (zqn zqu (pv 4) zqd (fun _ _ => rfl)) zqc))))))) zqi)
  (zqe (zqh (pv 4))))), ?_⟩
 refine ⟨by show 2 ≤ 1000; decide, fun a1 H1 s1 _ g1 => ?_⟩
 refine ⟨_, rfl, _, rfl, by show 3 ≤ 1000; decide, fun a2 H2 s2 _ g2 => ?_⟩
 refine ⟨_, rfl, _, rfl, by show 3 ≤ 1000; decide, fun a3 H3 s3 _ g3 => ?_⟩
 refine ⟨by show 2 ≤ 1000; decide, fun a4 H4 s4 _ g4 => ?_⟩
 refine ⟨by show 4 ≤ 1000; decide, fun l H5 s5 _ g5 => ?_⟩
 have s45 := s4.trans s5
 have s35 := s3.trans s45
 have s25 := s2.trans s35
 have s05 := s1.trans s25
 have i1 : Is H5 (Ad.d y .come).t (.ref a1) := isD2 (s25 _ _ g1)
 have i2 : Is H5 (Ad.d y (.rs b)).t (.ref a2) := isD3 (s35 _ _ g2)
 have i3 : Is H5 (Ad.d y (.sm b c)).t (.ref a3) := isD3 (s45 _ _ g3)
 have i4 : Is H5 (Ad.d y .go).t (.ref a4) := isD2 (s5 _ _ g4)
 clear g1 g2 g3 g4
 have hw := bW_is bn hb
 refine ⟨_, rfl, rfl, _, rfl, ?_⟩
 rw [hw.1]
 match bn, hb, hw, kk with
 | 0, _, hw, kk =>
   refine iteF ⟨_, rfl, rfl, _, rfl, ?_⟩
   rw [hw.2]
   refine iteF ?_
   exact ⟨_, rfl, kk l _ H5 s05 g5 ⟨_, _, rfl, i1, _, _, rfl, i2, _, _, rfl, i3, _, _, rfl, i4, rfl⟩⟩
 | 1, _, hw, kk =>
   refine iteT ?_
   refine ⟨_, rfl, l, _, _, _, rfl, rfl, SqL.of g5, at0, _, rfl, l, _, _, _, rfl, rfl, SqL.of g5, at2, _, rfl, l, _, _, _, rfl, rfl, SqL.of g5, at3, _, rfl, l, _, _, _, rfl, rfl, SqL.of g5, at1, by show 4 ≤ 1000; decide, fun l' H6 s6 _ g6 => ?_⟩
   exact kk l' _ H6 (s05.trans s6) g6 ⟨_, _, rfl, i1.mono s6, _, _, rfl, i3.mono s6, _, _, rfl, i4.mono s6, _, _, rfl, i2.mono s6, rfl⟩
 | 2, _, hw, kk =>
   refine iteF ⟨_, rfl, rfl, _, rfl, ?_⟩
   rw [hw.2]
   refine iteT ?_
   refine ⟨_, rfl, l, _, _, _, rfl, rfl, SqL.of g5, at0, _, rfl, l, _, _, _, rfl, rfl, SqL.of g5, at1, _, rfl, l, _, _, _, rfl, rfl, SqL.of g5, at3, _, rfl, l, _, _, _, rfl, rfl, SqL.of g5, at2, by show 4 ≤ 1000; decide, fun l' H6 s6 _ g6 => ?_⟩
   exact kk l' _ H6 (s05.trans s6) g6 ⟨_, _, rfl, i1.mono s6, _, _, rfl, i2.mono s6, _, _, rfl, i4.mono s6, _, _, rfl, i3.mono s6, rfl⟩
theorem sc_dueF : FnScope ["crew", "phases", "kind"] ["crew", "phases", "kind"] (defScope s_dueF) := ⟨rfl, rfl, rfl, by decide +kernel, rfl, by decide +kernel, by decide +kernel⟩
theorem ok_dueF (D : Def K mg "_law_e_due" s_dueF) (T : Txt K mg) : Ok P w K mg base "_law_e_due" 1 ["crew", "phases", "kind"] spDu := by
 refine mkOk D sc_dueF (fun _ _ _ _ _ _ us hl => (match us, hl with | [_, _, _], _ => rfl)) (fun vs H Q E ⟨_, _, _, e, _⟩ => by rw [e]; rfl) fun f cdv A outer s H vs Q E hr h => ?_
 obtain ⟨crew, phases, kd, rfl, hk, kk⟩ := h
 have nd := sc_dueF.nd
 refine ⟨_, zqb (zqv (PW.pt (zxv (zql zq4 (pv 2) zqm (nomark _)) (zxv (zql op_gt (pv 0) zqd (nomark _)) (zxm (zql op_gt (pv 1) zqd (nomark _)))))) (zqe (zqh zqm)) zqi)
  (zqb (zqv (zql zq4 (pv 2) zqm (nomark _)) (zqe (zqh (zqn zqu (pe_lst (zqa zqm (zqa zqm zqc))) (zq1 call_int1 rfl T.int bt_int (zqa (zq0 zq4 (pv 0) zqd (nomark _)) zqc)) (fun _ _ => rfl)))) zqi)
  (zqb (zqv (PW.pt (pw_or (zql zq4 (pv 2) zqm (nomark _)) (zxh (zql zq4 (pv 2) zqm (nomark _))))) (zqe (zqh zqm)) zqi)
  (zqb (zqv (PW.pt (zxv (zql zq4 (pv 2) zqm (nomark _)) (zxm (zql op_gt (pv 0) zqd (nomark _))))) (zqe (zqh zqm)) zqi)
  (zqe (zqh zqm))))), ?_⟩
 obtain ⟨w1, w2, w3, w4, w5⟩ := kW_is kd hk
 have gt1 : ∀ n : Nat, decide (((n : Nat) : Int) > 1) = Nat.blt 1 n := fun n => by
  rw [Bool.eq_iff_iff, decide_eq_true_eq, Nat.blt_eq]
  omega
 have f : ∀ n H', Same H H' → codeK crew phases kd = n → Q (.str (rW n)) H' := fun n H' s' e => by rw [← e]; exact kk H' s'
 clear kk
 refine ⟨_, rfl, rfl, _, rfl, ?_⟩
 rw [w1]
 match kd, hk, w2, w3, w4, w5, f with
 | 0, _, w2, w3, w4, w5, f =>
   refine iteF (iteF ⟨_, rfl, rfl, _, rfl, ?_⟩)
   rw [w2]
   refine iteF ⟨_, rfl, rfl, _, rfl, ?_⟩
   rw [w3]
   refine iteF ⟨_, rfl, rfl, _, rfl, ?_⟩
   rw [w4]
   refine iteF ⟨_, rfl, rfl, _, rfl, ?_⟩
   rw [w5]
   exact iteF (iteF (f 0 H (Same.refl H) rfl))
 | 1, _, w2, w3, w4, w5, f =>
   have rest : codeK crew phases 1 = 0 → _ := fun e => f 0 H (Same.refl H) e
   refine iteT ⟨_, rfl, _, _, rfl, rfl, _, rfl, ?_⟩
   rw [gt1]
   cases h1 : Nat.blt 1 crew with
   | true =>
     refine iteT ⟨_, rfl, _, _, rfl, rfl, _, rfl, ?_⟩
     rw [gt1]
     cases h2 : Nat.blt 1 phases with
     | true => exact iteT (f 2 H (Same.refl H) (by unfold codeK; rw [h1, h2]; rfl))
     | false =>
       refine iteF ⟨_, rfl, rfl, _, rfl, ?_⟩
       rw [w2]
       refine iteF ⟨_, rfl, rfl, _, rfl, ?_⟩
       rw [w3]
       refine iteF ⟨_, rfl, rfl, _, rfl, ?_⟩
       rw [w4]
       refine iteF ⟨_, rfl, rfl, _, rfl, ?_⟩
       rw [w5]
       exact iteF (iteF (rest (by unfold codeK; rw [h1, h2]; rfl)))
   | false =>
     refine iteF (iteF ⟨_, rfl, rfl, _, rfl, ?_⟩)
     rw [w2]
     refine iteF ⟨_, rfl, rfl, _, rfl, ?_⟩
     rw [w3]
     refine iteF ⟨_, rfl, rfl, _, rfl, ?_⟩
     rw [w4]
     refine iteF ⟨_, rfl, rfl, _, rfl, ?_⟩
     rw [w5]
     exact iteF (iteF (rest (by unfold codeK; rw [h1]; rfl)))
 | 2, _, w2, w3, w4, w5, f =>
   refine iteF (iteF ⟨_, rfl, rfl, _, rfl, ?_⟩)
   rw [w2]
   refine iteT ?_
   refine ⟨by show 2 ≤ sizeLine; decide, fun l hl => ?_⟩
   have s4 := Same.new hl (.lst [.str "early", .str "stuck"])
   have g4 : upd H l (.lst [.str "early", .str "stuck"]) l = some (.lst [.str "early", .str "stuck"]) := upd_same
   generalize upd H l (.lst [.str "early", .str "stuck"]) = H4 at s4 g4 ⊢
   refine ⟨_, rfl, rfl, ?_⟩
   refine .inr ⟨_, rfl, ?_⟩
   by_cases c : crew = 1
   · subst c
     rw [show decide (V.int ((1 : Nat) : Int) = V.int 1) = true from rfl]
     exact ⟨l, _, _, _, rfl, rfl, SqL.of g4, at1, f 2 H4 s4 rfl⟩
   · rw [show decide (V.int ((crew : Nat) : Int) = V.int 1) = false from decide_eq_false fun z => c (by injection z with z; omega)]
     refine ⟨l, _, _, _, rfl, rfl, SqL.of g4, at0, f 1 H4 s4 ?_⟩
     show (if Nat.beq crew 1 = true then 2 else 1) = 1
     rw [if_neg (fun z => c (Nat.eq_of_beq_eq_true z))]
 | 3, _, w2, w3, w4, w5, f =>
   refine iteF (iteF ⟨_, rfl, rfl, _, rfl, ?_⟩)
   rw [w2]
   refine iteF ⟨_, rfl, rfl, _, rfl, ?_⟩
   rw [w3]
   exact iteT (iteT (f 2 H (Same.refl H) rfl))
 | 4, _, w2, w3, w4, w5, f =>
   refine iteF (iteF ⟨_, rfl, rfl, _, rfl, ?_⟩)
   rw [w2]
   refine iteF ⟨_, rfl, rfl, _, rfl, ?_⟩
   rw [w3]
   refine iteF ⟨_, rfl, rfl, _, rfl, ?_⟩
   rw [w4]
   exact iteT (f 2 H (Same.refl H) rfl)
 | 5, _, w2, w3, w4, w5, f =>
   refine iteF (iteF ⟨_, rfl, rfl, _, rfl, ?_⟩)
   rw [w2]
   refine iteF ⟨_, rfl, rfl, _, rfl, ?_⟩
   rw [w3]
   refine iteF ⟨_, rfl, rfl, _, rfl, ?_⟩
   rw [w4]
   refine iteF ⟨_, rfl, rfl, _, rfl, ?_⟩
   rw [w5]
   refine iteT ⟨_, rfl, _, _, rfl, rfl, _, rfl, ?_⟩
   rw [gt1]
   cases h1 : Nat.blt 1 crew with
   | true => exact iteT (f 1 H (Same.refl H) (by unfold codeK; rw [h1]; rfl))
   | false => exact iteF (f 0 H (Same.refl H) (by unfold codeK; rw [h1]; rfl))
noncomputable def spSs : Sp := fun vs H Q _ => ∃ bx dss vh p a, vs = [vh, .int p, .ref a] ∧ HD bx dss ∧ WD p dss ∧ Is H (hT bx dss) vh ∧ TriedIs bx dss H a ∧ ∀ H', Same H H' → Q (.bl true) H'
theorem sc_showsF : FnScope ["house", "phases", "found"] ["house", "phases", "found"] (defScope s_showsF) := ⟨rfl, rfl, rfl, by decide +kernel, rfl, by decide +kernel, by decide +kernel⟩
theorem ok_showsF (D : Def K mg "_law_e_shows" s_showsF) (T : Txt K mg) (o1 : Ok P w K mg base "is_early" 8 ["house", "p", "weaving"] spEa) (o2 : Ok P w K mg base "is_stuck" 7 ["house", "weaving"] spSu) (o3 : Ok P w K mg base "holds_by" 8 ["house", "p", "stands"] spHb) :
  Ok P w K mg base "_law_e_shows" 9 ["house", "phases", "found"] spSs := by
 refine mkOk D sc_showsF (fun _ _ _ _ _ _ us hl => (match us, hl with | [_, _, _], _ => rfl)) (fun vs H Q E ⟨_, _, _, _, _, e, _⟩ => by rw [e]; rfl) fun f cdv A outer s H vs Q E hr h => ?_
 obtain ⟨bx, dss, vh, p, a, rfl, hd, hw, hh, tr, kk⟩ := h
 have nd := sc_showsF.nd
 refine ⟨_, zqb (zqv (zql zq4 (zqn zqo (pv 2) zqd (fun _ _ => rfl)) zqm (nomark _)) (zqe (zqh (zq0 op_isB (zqp o1 hr (zqa (pv 0) (zqa (pv 1) (zqa (zqn zqo (pv 2) zqd (fun _ _ => rfl)) zqc)))) zq9 (nomark _)))) zqi)
  (zqb (zqv (zql zq4 (zqn zqo (pv 2) zqd (fun _ _ => rfl)) zqm (nomark _)) (zqe (zqh (zq0 op_isB (zqp o2 (hr.mono (show 7 ≤ 8 by decide)) (zqa (pv 0) (zqa (zqn zqo (pv 2) zqd (fun _ _ => rfl)) zqc))) zq9 (nomark _)))) zqi)
  (zqe (zqh (zq0 op_isB (zqp o3 hr (zqa (pv 0) (zqa (pv 1) (zqa (zqn zqo (pv 2) zqd (fun _ _ => rfl)) zqc)))) zq9 (nomark _))))), ?_⟩
 rcases tr with ⟨l, row, x, st, ha, hl, wy, ea, _⟩ | ⟨l, row, st, ha, hl, wy, es, _⟩ | ⟨l, L, ys, ha, hl, iL, bd, nd', hm, hNE, hNS⟩
 · refine ⟨_, rfl, a, _, _, _, rfl, rfl, SqT.of ha, at0, rfl, _, rfl, ?_⟩
   rw [decStr]
   refine iteT ?_
   refine ⟨_, rfl, _, rfl, _, rfl, a, _, _, _, rfl, rfl, SqT.of ha, at1, bx, p, dss, vh, l, row ++ [x], rfl, hd, hw, hh, hl, fun H1 s1 => ?_⟩
   rw [mEarly_app, show mRun dss (zs dss.length) (zs bx.toNat) row = some st from way_run wy]
   refine ⟨_, _, rfl, rfl, ?_⟩
   rw [show (eAt dss st.1 st.2 x == true) = true from by rw [ea]; rfl]
   exact kk H1 s1
 · refine ⟨_, rfl, a, _, _, _, rfl, rfl, SqT.of ha, at0, rfl, _, rfl, ?_⟩
   rw [eh.2.2.1]
   refine iteF ?_
   refine ⟨_, rfl, a, _, _, _, rfl, rfl, SqT.of ha, at0, rfl, _, rfl, ?_⟩
   rw [decStr]
   refine iteT ?_
   refine ⟨_, rfl, _, rfl, a, _, _, _, rfl, rfl, SqT.of ha, at1, bx, dss, vh, l, row, rfl, hd, hh, hl, fun H1 s1 => ?_⟩
   unfold mStuck
   rw [show mRun dss (zs dss.length) (zs bx.toNat) row = some st from way_run wy]
   refine ⟨_, _, rfl, rfl, ?_⟩
   rw [show (mStp dss st.1 st.2 == true) = true from by rw [es]; rfl]
   exact kk H1 s1
 · refine ⟨_, rfl, a, _, _, _, rfl, rfl, SqT.of ha, at0, rfl, _, rfl, ?_⟩
   rw [eh.2.2.2.1]
   refine iteF ?_
   refine ⟨_, rfl, a, _, _, _, rfl, rfl, SqT.of ha, at0, rfl, _, rfl, ?_⟩
   rw [eh.2.2.2.2]
   refine iteF ?_
   refine ⟨_, rfl, _, rfl, _, rfl, a, _, _, _, rfl, rfl, SqT.of ha, at1, bx, p, dss, vh, l, L, rfl, hd, hw, hh, ⟨⟨ys, hl, iL⟩, by omega, fun st hst => ?_⟩, fun H1 s1 => ?_⟩
   · obtain ⟨row, wy⟩ := (hm st).mp hst
     exact (way_sl hd wy).1
   have hold : mHold bx dss L = true := by
    unfold mHold
    rw [decide_eq_true nd', decide_eq_true (show (zs dss.length, zs bx.toNat) ∈ L from (hm (s00 bx dss)).mpr ⟨[], Way.nil⟩), Bool.true_and, Bool.true_and]
    refine List.all_eq_true.mpr fun st hst => ?_
    obtain ⟨row, wy⟩ := (hm st).mp hst
    unfold mKept
    rw [hNS row st wy, noHe hd hw hNE wy, Bool.not_false, Bool.true_and, Bool.true_and]
    refine List.all_eq_true.mpr fun x hx => ?_
    obtain ⟨q, hq⟩ := Option.isSome_iff_exists.mp (mem_due.mp hx)
    refine decide_eq_true (kS_mem.mpr ?_)
    have e : nx dss st.1 st.2 x = q := by unfold nx; rw [hq]; rfl
    rw [e]
    exact (hm q).mpr ⟨_, way_app wy hq⟩
   refine ⟨_, _, rfl, rfl, ?_⟩
   rw [show (mHold bx dss L == true) = true from by rw [hold]; rfl]
   exact kk H1 s1
abbrev s_oneBy : Stmt := top 58
theorem decN (a b : Nat) : decide (V.int ((a : Nat) : Int) = V.int ((b : Nat) : Int)) = Nat.beq a b := by
 by_cases c : a = b
 · subst c
   rw [Nat.beq_refl]
   exact decide_eq_true rfl
 · rw [decide_eq_false fun z => c (by injection z with z; omega)]
   cases q : Nat.beq a b with
   | false => rfl
   | true => exact absurd (Nat.eq_of_beq_eq_true q) c
noncomputable def c0 (crew kd ph : Nat) : Nat := if Nat.beq kd 1 then crew * (ph + 1) else crew
noncomputable def c1 (crew kd ph when : Nat) : Nat := if (Nat.beq ph when && Nat.beq kd 2) = true then crew - 1 else c0 crew kd ph
noncomputable def c2 (crew kd ph when : Nat) : Nat := if (Nat.beq ph when && Nat.beq kd 3) = true then crew + 1 else c1 crew kd ph when
theorem c2_due (crew kd ph when : Nat) (hk : kd < 6) : c2 crew kd ph when = dueK crew kd ph when := by
 unfold c2 c1 c0 dueK
 have : kd = 0 ∨ kd = 1 ∨ kd = 2 ∨ kd = 3 ∨ kd = 4 ∨ kd = 5 := by omega
 rcases this with rfl | rfl | rfl | rfl | rfl | rfl <;> cases Nat.beq ph when <;> rfl
noncomputable def spOb : Sp := fun vs H Q _ => ∃ crew phases kd who when : Nat, ∃ y : Int, vs = [.int (crew : Int), .int (phases : Int), .int y, .str (kW kd), .int (who : Int), .int (when : Int)] ∧ Par crew phases kd who when ∧ Yb y ∧ ∀ v H', Same H H' → Is H' (hT (phases : Int) (dsA y (asK crew phases kd who when))) v → Q v H'
theorem sc_oneBy : FnScope ["crew", "phases", "by", "kind", "who", "when", "scripts", "hand", "deeds", "phase", "box", "due", "bent"] ["crew", "phases", "by", "kind", "who", "when"] (defScope s_oneBy) := ⟨rfl, rfl, rfl, by decide +kernel, rfl, by decide +kernel, by decide +kernel⟩
theorem ok_oneBy (D : Def K mg "_law_e_one_by" s_oneBy) (T : Txt K mg) (o1 : Ok P w K mg base "_law_e_phase" 1 ["box", "due", "by", "bent"] spPh) : Ok P w K mg base "_law_e_one_by" 2 ["crew", "phases", "by", "kind", "who", "when"] spOb := by
 refine mkOk D sc_oneBy (fun _ _ _ _ _ _ us hl => (match us, hl with | [_, _, _, _, _, _], _ => rfl)) (fun vs H Q E ⟨_, _, _, _, _, _, e, _⟩ => by rw [e]; rfl) fun f cdv A outer s H vs Q E hr h => ?_
 obtain ⟨crew, phases, kd, who, when, y, rfl, p, hy, kk⟩ := h
 have nd := sc_oneBy.nd
 refine ⟨_, zqb (zqq (i := 6) nd rfl (Or.inl rfl) (zxo zqc))
  (zqb (ps_for PassesOwn.never rfl (pi_range1 rfl T.range (zqa (pv 0) zqc)) (pg_name (i := 7) nd rfl (Or.inl rfl))
   (zqb (zqq (i := 8) nd rfl (Or.inl rfl) (zxo zqc))
   (zqb (ps_for PassesOwn.never rfl (pi_range1 rfl T.range (zqa (pv 1) zqc)) (pg_name (i := 9) nd rfl (Or.inl rfl))
    (zqb (zqq (i := 10) nd rfl (Or.inl rfl) (pv 9))
    (zqb (zqq (i := 11) nd rfl (Or.inl rfl) (zqt zxk (zqt zxa (pv 0) (pv 2)) zqd))
    (zqb (zqv (zql zq4 (pv 3) zqm (nomark _)) (zqb (zqq (i := 10) nd rfl (Or.inl rfl) zqd) (zqe (zqq (i := 11) nd rfl (Or.inl rfl) (zqt zxk (zqt zxa (zqt zxa (pv 0) (pv 2)) (zqt zq7 (pv 9) zqd)) zqd)))) zqi)
    (zqb (zqv (PW.pt (zxv (zql zq4 (pv 9) (pv 5) (nomark _)) (zxm (zql zq4 (pv 3) zqm (nomark _))))) (zqe (zqq (i := 11) nd rfl (Or.inl rfl) (zqt zxk (zqt zxa (zqt op_sub (pv 0) zqd) (pv 2)) zqd))) zqi)
    (zqb (zqv (PW.pt (zxv (zql zq4 (pv 9) (pv 5) (nomark _)) (zxm (zql zq4 (pv 3) zqm (nomark _))))) (zqe (zqq (i := 11) nd rfl (Or.inl rfl) (zqt zxk (zqt zxa (zqt zq7 (pv 0) zqd) (pv 2)) zqd))) zqi)
    (zqb (zqq (i := 12) nd rfl (Or.inl rfl) zqm)
    (zqb (zqv (PW.pt (zxv (zql zq4 (pv 7) (pv 4) (nomark _)) (zxv (zql zq4 (pv 9) (pv 5) (nomark _)) (zxm (PW.pt (pw_or (zql zq4 (pv 3) zqm (nomark _)) (zxh (zql zq4 (pv 3) zqm (nomark _))))))))) (zqe (zqq (i := 12) nd rfl (Or.inl rfl) (pv 3))) zqi)
    (zqe (zqq (i := 8) nd rfl (Or.inl rfl) (zqt op_cat (pv 8) (zqp o1 hr (zqa (pv 10) (zqa (pv 11) (zqa (pv 2) (zqa (pv 12) zqc))))))))))))))))
   (zqe (ps_expr (pe_bm PySem.F.plainAttrs_list PySem.F.slot_list_append PySem.F.type_list_append mt_append (pv 6) (zqa (zq1 zq5 rfl T.tuple zxb (zqa (pv 8) zqc)) zqc)))))))
  (zqe (zqh (zxg (zqa (pv 1) (zqa (zq1 zq5 rfl T.tuple zxb (zqa (pv 6) zqc)) zqc)))))), ?_⟩
 have pc1 := p.c1; have pc4 := p.c4; have pf1 := p.f1; have pf3 := p.f3; have hk := p.k
 obtain ⟨w1, w2, w3, w4, w5⟩ := kW_is kd hk
 have ⟨y1, y9⟩ := y_in hy
 refine ⟨by show 0 ≤ 1000; decide, fun ls H1 s1 hls g1 => ?_⟩
 refine ⟨_, rfl, _, rfl, by omega, by omega, ?_⟩
 refine for_range (lo := 0) (n := ((crew : Nat) : Int).toNat) (fun i σ H' => ∃ x7 x8 x9 x10 x11 x12 ys, σ = [some (.int (crew : Int)), some (.int (phases : Int)), some (.int y), some (.str (kW kd)), some (.int (who : Int)), some (.int (when : Int)), some (.ref ls), x7, x8, x9, x10, x11, x12] ∧ Same H H' ∧ H' ls = some (.lst ys) ∧ L2.IsL H' ((List.range i).map fun h => scT ((handA crew phases kd who when h).map (Ad.d y))) ys)
  ⟨none, none, none, none, none, none, [], rfl, s1, g1, rfl⟩ ?_ ?_
 rotate_left
 · rintro σ H2 ⟨x7, x8, x9, x10, x11, x12, ys, rfl, s2, g2, i2⟩
   rw [Int.toNat_natCast] at i2
   refine ⟨_, rfl, _, rfl, ls, ys, rfl, .inl ⟨SqL.of g2, fun q hq => ?_⟩⟩
   have s3 := Same.new hq (.tup ys)
   have g3 : upd H2 q (.tup ys) q = some (.tup ys) := upd_same
   generalize upd H2 q (.tup ys) = H3 at s3 g3 ⊢
   refine ⟨by show 2 ≤ 1000; decide, fun r H4 s4 _ g4 => ?_⟩
   refine kk (.ref r) H4 (s2.trans (s3.trans s4)) ⟨r, _, rfl, g4, _, _, rfl, rfl, _, _, rfl, ⟨q, ys, rfl, s4 _ _ g3, ?_⟩, rfl⟩
   have e : (dsA y (asK crew phases kd who when)).map scT = (List.range crew).map fun h => scT ((handA crew phases kd who when h).map (Ad.d y)) := by
    unfold dsA asK
    rw [List.map_map, List.map_map]
    rfl
   rw [e]
   exact i2.mono (s3.trans s4)
 rintro hd σ H2 hhd ⟨x7, x8, x9, x10, x11, x12, ys, rfl, s2, g2, i2⟩
 rw [Int.zero_add]
 rw [Int.toNat_natCast] at hhd
 refine ⟨by show 0 ≤ 1000; decide, fun ld0 H3 s3 hld0 g3 => ?_⟩
 have s03 := s2.trans s3
 have g23 := s3 _ _ g2
 have i23 := i2.mono s3
 refine ⟨_, rfl, _, rfl, by omega, by omega, ?_⟩
 refine for_range (lo := 0) (n := ((phases : Nat) : Int).toNat) (fun j σ H' => ∃ ld xs x9 x10 x11 x12, σ = [some (.int (crew : Int)), some (.int (phases : Int)), some (.int y), some (.str (kW kd)), some (.int (who : Int)), some (.int (when : Int)), some (.ref ls), some (.int (hd : Int)), some (.ref ld), x9, x10, x11, x12] ∧ Same H3 H' ∧ H' ld = some (.lst xs) ∧ xs.length = 4 * j ∧ L2.IsL H' ((((List.range j).flatMap fun ph => phA (boxK kd ph) (dueK crew kd ph when) (bentK kd hd who ph when)).map (Ad.d y)).map Dd.t) xs)
  ⟨ld0, [], _, _, _, _, rfl, Same.refl H3, g3, rfl, rfl⟩ ?_ ?_
 rotate_left
 · rintro σ H4 ⟨ld, xs, z9, z10, z11, z12, rfl, s4, g4, hxl, i4⟩
   rw [Int.toNat_natCast] at i4 hxl
   have g24 := s4 _ _ g23
   refine ⟨_, rfl, .inl ⟨rfl, _, SqL.of g24⟩, _, rfl, ld, xs, rfl, .inl ⟨SqL.of g4, fun q hq => ?_⟩⟩
   have s5 := Same.new hq (.tup xs)
   have g5 : upd H4 q (.tup xs) q = some (.tup xs) := upd_same
   generalize upd H4 q (.tup xs) = H5 at s5 g5 ⊢
   have g25 := s5 _ _ g24
   have hyl := i2.length
   rw [List.length_map, List.length_range] at hyl
   refine ⟨ls, _, _, rfl, rfl, g25, small1000 (by omega), ?_⟩
   have s06 : Same H (upd H5 ls (.lst (ys ++ [.ref q]))) := fun b o e => by
    rw [zqf (zqg e hls)]; exact s5 _ _ (s4 _ _ (s03 _ _ e))
   have tp : Tups H5 (upd H5 ls (.lst (ys ++ [.ref q]))) := Tups.upd g25 (fun zs z => by cases z)
   have fro : ∀ as : List Ad, FroL ((as.map (Ad.d y)).map Dd.t) := fun as => FroL.all.mpr fun t ht => by
    obtain ⟨d, hd, rfl⟩ := List.mem_map.mp ht
    obtain ⟨a, _, rfl⟩ := List.mem_map.mp hd
    cases a with
    | come => exact ⟨trivial, trivial, trivial⟩
    | go => exact ⟨trivial, trivial, trivial⟩
    | rs b => exact ⟨trivial, trivial, trivial, trivial⟩
    | sm b c => exact ⟨trivial, trivial, trivial, trivial⟩
   refine ⟨_, _, _, _, _, _, _, rfl, s06, upd_same, ?_⟩
   rw [List.range_succ, List.map_append]
   refine IsL.append ((i23.mono (s4.trans s5)).tups tp (FroL.all.mpr fun t ht => ?_)) (IsL.one ?_)
   · obtain ⟨h, _, rfl⟩ := List.mem_map.mp ht
     exact fro _
   · exact ⟨q, xs, rfl, tp _ _ g5, (i4.mono s5).tups tp (fro _)⟩
 rintro j σ H4 hj ⟨ld, xs, z9, z10, z11, z12, rfl, s4, g4, hxl, i4⟩
 rw [Int.zero_add]
 rw [Int.toNat_natCast] at hj
 have cm : ∀ a : Int, 0 ≤ a → a ≤ 30 → CMul a y := fun a h0 h1 => .inl ⟨by omega, by omega⟩
 have ten : (0 : Int) < 10 := by decide
 refine ⟨_, rfl, ?_⟩
 refine ⟨_, rfl, _, rfl, _, _, rfl, rfl, cm _ (by omega) (by omega), _, _, rfl, rfl, ten, ?_⟩
 dsimp only [gName, tSeq, tAsg, tC, tNext]
 refine with_nx (t := tIfS _ _ _) (fun σ' H' => σ' = [some (.int (crew : Int)), some (.int (phases : Int)), some (.int y), some (.str (kW kd)), some (.int (who : Int)), some (.int (when : Int)), some (.ref ls), some (.int (hd : Int)), some (.ref ld), some (.int (j : Int)), some (.int ((boxK kd j : Nat) : Int)), some (.int (((c0 crew kd j : Nat) : Int) * y % 10)), z12] ∧ H' = H4) ?_ (fun fin => ?_)
 rotate_left
 · refine ⟨_, rfl, rfl, _, rfl, ?_⟩
   rw [w1]
   cases hb : Nat.beq kd 1 with
   | true =>
     refine iteT ⟨_, rfl, _, rfl, _, _, rfl, rfl, cm _ (by omega) (by omega), _, rfl, _, _, rfl, rfl, _, _, rfl, rfl, ?_, _, _, rfl, rfl, ten, fin _ _ ⟨?_, rfl⟩⟩
     · exact .inr ⟨by omega, by omega⟩
     · have e1 : boxK kd j = 0 := by unfold boxK; rw [hb]; rfl
       have e2 : c0 crew kd j = crew * (j + 1) := by unfold c0; rw [hb]; rfl
       rw [e1, e2, Int.natCast_mul, Int.mul_right_comm]
       rfl
   | false =>
     refine iteF (fin _ _ ⟨?_, rfl⟩)
     have e1 : boxK kd j = j := by unfold boxK; rw [hb]; rfl
     have e2 : c0 crew kd j = crew := by unfold c0; rw [hb]; rfl
     rw [e1, e2]
     rfl
 rintro σ' H5 ⟨rfl, rfl⟩
 dsimp only [gName, tSeq, tAsg, tC, tNext]
 refine with_nx (t := tIfS _ _ _) (fun σ' H' => σ' = [some (.int (crew : Int)), some (.int (phases : Int)), some (.int y), some (.str (kW kd)), some (.int (who : Int)), some (.int (when : Int)), some (.ref ls), some (.int (hd : Int)), some (.ref ld), some (.int (j : Int)), some (.int ((boxK kd j : Nat) : Int)), some (.int (((c1 crew kd j when : Nat) : Int) * y % 10)), z12] ∧ H' = H5) ?_ (fun fin => ?_)
 rotate_left
 · refine ⟨_, rfl, _, rfl, rfl, _, rfl, ?_⟩
   rw [decN]
   cases hb : Nat.beq j when with
   | false =>
     refine iteF (iteF (fin _ _ ⟨?_, rfl⟩))
     have e2 : c1 crew kd j when = c0 crew kd j := by unfold c1; rw [hb]; rfl
     rw [e2]
   | true =>
     refine iteT ⟨_, rfl, rfl, _, rfl, ?_⟩
     rw [w2]
     cases hb2 : Nat.beq kd 2 with
     | false =>
       refine iteF (fin _ _ ⟨?_, rfl⟩)
       have e2 : c1 crew kd j when = c0 crew kd j := by unfold c1; rw [hb, hb2]; rfl
       rw [e2]
     | true =>
       refine iteT ⟨_, rfl, _, _, rfl, rfl, _, rfl, _, _, rfl, rfl, cm _ (by omega) (by omega), _, _, rfl, rfl, ten, fin _ _ ⟨?_, rfl⟩⟩
       have e2 : c1 crew kd j when = crew - 1 := by unfold c1; rw [hb, hb2]; rfl
       rw [e2, show ((crew - 1 : Nat) : Int) = (crew : Int) - 1 by omega]
       rfl
 rintro σ' H6 ⟨rfl, rfl⟩
 dsimp only [gName, tSeq, tAsg, tC, tNext]
 refine with_nx (t := tIfS _ _ _) (fun σ' H' => σ' = [some (.int (crew : Int)), some (.int (phases : Int)), some (.int y), some (.str (kW kd)), some (.int (who : Int)), some (.int (when : Int)), some (.ref ls), some (.int (hd : Int)), some (.ref ld), some (.int (j : Int)), some (.int ((boxK kd j : Nat) : Int)), some (.int (((dueK crew kd j when : Nat) : Int) * y % 10)), z12] ∧ H' = H6) ?_ (fun fin => ?_)
 rotate_left
 · rw [← c2_due crew kd j when hk] at fin
   refine ⟨_, rfl, _, rfl, rfl, _, rfl, ?_⟩
   rw [decN]
   cases hb : Nat.beq j when with
   | false =>
     refine iteF (iteF (fin _ _ ⟨?_, rfl⟩))
     have e2 : c2 crew kd j when = c1 crew kd j when := by unfold c2; rw [hb]; rfl
     rw [e2]
   | true =>
     refine iteT ⟨_, rfl, rfl, _, rfl, ?_⟩
     rw [w3]
     cases hb2 : Nat.beq kd 3 with
     | false =>
       refine iteF (fin _ _ ⟨?_, rfl⟩)
       have e2 : c2 crew kd j when = c1 crew kd j when := by unfold c2; rw [hb, hb2]; rfl
       rw [e2]
     | true =>
       refine iteT ⟨_, rfl, _, _, rfl, rfl, _, rfl, _, _, rfl, rfl, cm _ (by omega) (by omega), _, _, rfl, rfl, ten, fin _ _ ⟨?_, rfl⟩⟩
       have e2 : c2 crew kd j when = crew + 1 := by unfold c2; rw [hb, hb2]; rfl
       rw [e2]
       rfl
 rintro σ' H7 ⟨rfl, rfl⟩
 dsimp only [gName, tSeq, tAsg, tC, tNext]
 refine with_nx (t := tIfS _ _ _) (fun σ' H' => σ' = [some (.int (crew : Int)), some (.int (phases : Int)), some (.int y), some (.str (kW kd)), some (.int (who : Int)), some (.int (when : Int)), some (.ref ls), some (.int (hd : Int)), some (.ref ld), some (.int (j : Int)), some (.int ((boxK kd j : Nat) : Int)), some (.int (((dueK crew kd j when : Nat) : Int) * y % 10)), some (.str (bW (bentK kd hd who j when)))] ∧ H' = H7) ?_ (fun fin => ?_)
 rotate_left
 · refine ⟨_, rfl, _, rfl, rfl, _, rfl, ?_⟩
   rw [decN]
   cases hb : Nat.beq hd who with
   | false =>
     refine iteF (iteF (fin _ _ ⟨?_, rfl⟩))
     have e2 : bentK kd hd who j when = 0 := by unfold bentK; rw [hb]; rfl
     rw [e2]
     rfl
   | true =>
     refine iteT ⟨_, rfl, _, rfl, rfl, _, rfl, ?_⟩
     rw [decN]
     cases hb2 : Nat.beq j when with
     | false =>
       refine iteF (iteF (fin _ _ ⟨?_, rfl⟩))
       have e2 : bentK kd hd who j when = 0 := by unfold bentK; rw [hb, hb2]; rfl
       rw [e2]
       rfl
     | true =>
       refine iteT ⟨_, rfl, rfl, _, rfl, ?_⟩
       rw [w4]
       cases hb3 : Nat.beq kd 4 with
       | true =>
         refine iteT (iteT ⟨_, rfl, fin _ _ ⟨?_, rfl⟩⟩)
         have e2 : bentK kd hd who j when = 1 := by unfold bentK; rw [hb, hb2, hb3]; rfl
         rw [e2, Nat.eq_of_beq_eq_true hb3]
         rfl
       | false =>
         refine iteF ⟨_, rfl, rfl, _, rfl, ?_⟩
         rw [w5]
         cases hb4 : Nat.beq kd 5 with
         | true =>
           refine iteT ⟨_, rfl, fin _ _ ⟨?_, rfl⟩⟩
           have e2 : bentK kd hd who j when = 2 := by unfold bentK; rw [hb, hb2, hb3, hb4]; rfl
           rw [e2, Nat.eq_of_beq_eq_true hb4]
           rfl
         | false =>
           refine iteF (fin _ _ ⟨?_, rfl⟩)
           have e2 : bentK kd hd who j when = 0 := by unfold bentK; rw [hb, hb2, hb3, hb4]; rfl
           rw [e2]
           rfl
 rintro σ' H8 ⟨rfl, rfl⟩
 have hb3 : bentK kd hd who j when < 3 := by
  unfold bentK
  split
  · split
    · decide
    · split <;> decide
  · decide
 refine ⟨_, rfl, _, rfl, _, rfl, _, rfl, _, rfl, boxK kd j, dueK crew kd j when, bentK kd hd who j when, y, rfl, hb3, fun lp zs' H9 s9 g9 i9 => ?_⟩
 have hzl := i9.length
 rw [List.length_map, List.length_map] at hzl
 have h4 : (phA (boxK kd j) (dueK crew kd j when) (bentK kd hd who j when)).length = 4 := by
  unfold phA
  split <;> rfl
 rw [h4] at hzl
 refine ⟨ld, lp, xs, zs', rfl, rfl, s9 _ _ g4, g9, zqr (by omega), fun ln hln => ?_⟩
 have s10 := Same.new hln (.lst (xs ++ zs'))
 refine ⟨ln, _, _, _, _, _, rfl, s4.trans (s9.trans s10), upd_same, by rw [List.length_append]; omega, ?_⟩
 rw [List.range_succ, List.flatMap_append, List.map_append, List.map_append]
 refine IsL.append (i4.mono (s9.trans s10)) ?_
 rw [List.flatMap_singleton]
 exact i9.mono s10
abbrev s_lawX : Stmt := top 61
noncomputable def tLstK (K : PySem.W.Frag) (t : TA) : TE := fun σ H Q => t σ H fun xs H1 => xs.length ≤ sizeLine ∧ ∀ p, H1 p = none → K.lookup p = none → Q (.ref p) (upd H1 p (.lst xs))
theorem pe_lstK {X : Cx} {es : List Expr} {t : TA} {pos : Pos} (h : PA X es t) : PE X (.List es pos) (tLstK X.K t) := by
 intro pins s σ H Q I hq
 refine wpAny_List_spliced (thn (h pos pins s σ H _ I hq) fun us s1 ⟨xs, H1, I1, r, z, q⟩ => ⟨by rw [← r.length]; exact z, ?_⟩)
 have hf : H1 s1.heap.objs.size = none := I1.hok.fresh (Nat.le_refl _)
 have hk : X.K.lookup s1.heap.objs.size = none := by
  cases e : X.K.lookup s1.heap.objs.size with
  | none => rfl
  | some o => exact absurd (Heap.lt_size (I1.kIn _ _ e)) (Nat.lt_irrefl _)
 exact ⟨.ref s1.heap.objs.size, upd H1 s1.heap.objs.size (.lst xs), I1.laid (t' := s1.toks) (fun b u e => Heap.get?_push_of_some _ e) (Nat.le_refl _) ⟨z, us, 0, r, Heap.get?_push_size _ rfl⟩, rfl, q _ hf hk⟩
theorem sq_bt {K : PySem.W.Frag} {tb s : Addr} {H H' : Hp} {xs : List V} (h : SqL K H s xs) (b : Bt tb H H') (t : IsTb tb H) : SqL K H' s xs := by
 obtain ⟨ps, ht⟩ := t
 rcases h with (q | ⟨o, q⟩) | q
 · exact .inl (.inl (b s _ (fun z => by rw [z, ht] at q; cases q) q))
 · exact .inl (.inr ⟨o, b s _ (fun z => by rw [z, ht] at q; cases q) q⟩)
 · exact .inr q
theorem tape_bt {K : PySem.W.Frag} {tb a s : Addr} {H H' : Hp} {ns : List Int} (h : Tape K H a s ns) (b : Bt tb H H') (t : IsTb tb H) : Tape K H' a s ns := by
 obtain ⟨⟨p, r, e, h1, h2⟩, q, n, l⟩ := h
 exact ⟨⟨p, r, b a _ (fun z => by obtain ⟨ps, ht⟩ := t; rw [z, ht] at e; cases e) e, h1, h2⟩, sq_bt q b t, n, l⟩
theorem tb_but {tb a : Addr} {pos : Pos} {qual : Str} {H H' : Hp} {xs : List V} (h : TbOk tb pos qual H) (b : But a H H') (ha : H a = some (.lst xs)) : TbOk tb pos qual H' := by
 obtain ⟨ps, h1, h2, h3⟩ := h
 exact ⟨ps, b _ _ (fun z => by rw [z, ha] at h1; cases h1) h1, h2, h3.imp id fun ⟨c, oc, x, y, d⟩ => ⟨c, oc, x, b _ _ (fun z => by rw [z, ha] at y; cases y) y, d⟩⟩
theorem code3 (crew phases kd : Nat) : codeK crew phases kd < 3 := by
 unfold codeK
 split
 · decide
 · split
   · split <;> decide
   · split
     · decide
     · split <;> decide
theorem tried_w {bx : Int} {dss : List (List Dd)} {H : Hp} {a : Addr} {e : Nat} (h : TriedIs bx dss H a) (r : Res bx dss e) (he : e < 3) : ∃ l ts, H a = some (.tup [.str (rW e), .ref l]) ∧ Is H (.tup ts) (.ref a) := by
 have he : e = 0 ∨ e = 1 ∨ e = 2 := by omega
 rcases h with ⟨l, row, x, st, ha, hl, wy, ea, _⟩ | ⟨l, row, st, ha, hl, wy, es, hN⟩ | ⟨l, L, ys, ha, hl, iL, _, _, _, hN, hS⟩
 · rcases he with rfl | rfl | rfl
   · rw [r.1 row st x wy] at ea; cases ea
   · exact ⟨l, [.str "early", .lst (iT (row ++ [x]))], ha, a, _, rfl, ha, _, _, rfl, rfl, _, _, rfl, ⟨l, _, rfl, hl, IsL.ints.mpr rfl⟩, rfl⟩
   · rw [r.1 row st x wy] at ea; cases ea
 · rcases he with rfl | rfl | rfl
   · rw [r.2 row st wy] at es; cases es
   · obtain ⟨row', st', x, wy', ea⟩ := r
     rw [hN row' st' x wy'] at ea; cases ea
   · exact ⟨l, [.str "stuck", .lst (iT row)], ha, a, _, rfl, ha, _, _, rfl, rfl, _, _, rfl, ⟨l, _, rfl, hl, IsL.ints.mpr rfl⟩, rfl⟩
 · rcases he with rfl | rfl | rfl
   · exact ⟨l, [.str "holds", .lst (L.map tS)], ha, a, _, rfl, ha, _, _, rfl, rfl, _, _, rfl, ⟨l, _, rfl, hl, iL⟩, rfl⟩
   · obtain ⟨row', st', x, wy', ea⟩ := r
     rw [hN row' st' x wy'] at ea; cases ea
   · obtain ⟨row', st', wy', es⟩ := r.2
     rw [hS row' st' wy'] at es; cases es
theorem TriedIs.same {bx : Int} {dss : List (List Dd)} {H H' : Hp} {a : Addr} (h : TriedIs bx dss H a) (s : Same H H') : TriedIs bx dss H' a := by
 rcases h with ⟨l, row, h, st, ha, hl, r⟩ | ⟨l, row, st, ha, hl, r⟩ | ⟨l, L, ys, ha, hl, iL, r⟩
 · exact .inl ⟨l, row, h, st, s _ _ ha, s _ _ hl, r⟩
 · exact .inr (.inl ⟨l, row, st, s _ _ ha, s _ _ hl, r⟩)
 · exact .inr (.inr ⟨l, L, ys, s _ _ ha, s _ _ hl, iL.mono s, r⟩)
theorem seven {d : Int} (h0 : 0 ≤ d) (h1 : d < 7) : ∃ c : Nat, atI ([.int 1, .int 2, .int 2, .int 2, .int 3, .int 3, .int 4] : List V) d = some (.int (c : Int)) ∧ 1 ≤ c ∧ c ≤ 4 := by
 have : d = 0 ∨ d = 1 ∨ d = 2 ∨ d = 3 ∨ d = 4 ∨ d = 5 ∨ d = 6 := by omega
 rcases this with rfl | rfl | rfl | rfl | rfl | rfl | rfl
 · exact ⟨1, rfl, by decide, by decide⟩
 · exact ⟨2, rfl, by decide, by decide⟩
 · exact ⟨2, rfl, by decide, by decide⟩
 · exact ⟨2, rfl, by decide, by decide⟩
 · exact ⟨3, rfl, by decide, by decide⟩
 · exact ⟨3, rfl, by decide, by decide⟩
 · exact ⟨4, rfl, by decide, by decide⟩
theorem fourM {c : Nat} (h0 : 1 ≤ c) (h1 : c ≤ 4) : atI ([.int 3, .int 3, .int 2, .int 1] : List V) ((c : Int) - 1) = some (.int ((mxP (c - 1) : Nat) : Int)) ∧ 1 ≤ mxP (c - 1) ∧ mxP (c - 1) ≤ 3 := by
 have : c = 1 ∨ c = 2 ∨ c = 3 ∨ c = 4 := by omega
 rcases this with rfl | rfl | rfl | rfl <;> exact ⟨rfl, by decide, by decide⟩
theorem fourB {d : Int} (h0 : 0 ≤ d) (h1 : d < 4) : ∃ y : Int, atI ([.int 1, .int 3, .int 7, .int 9] : List V) d = some (.int y) ∧ Yb y := by
 have : d = 0 ∨ d = 1 ∨ d = 2 ∨ d = 3 := by omega
 rcases this with rfl | rfl | rfl | rfl
 · exact ⟨1, rfl, .inl rfl⟩
 · exact ⟨3, rfl, .inr (.inl rfl)⟩
 · exact ⟨7, rfl, .inr (.inr (.inl rfl))⟩
 · exact ⟨9, rfl, .inr (.inr (.inr rfl))⟩
theorem sixK {d : Int} (h0 : 0 ≤ d) (h1 : d < 6) : ∃ kd : Nat, kd < 6 ∧ atI ([.str "each", .str "one", .str "few", .str "many", .str "late", .str "quick"] : List V) d = some (.str (kW kd)) := by
 have : d = 0 ∨ d = 1 ∨ d = 2 ∨ d = 3 ∨ d = 4 ∨ d = 5 := by omega
 rcases this with rfl | rfl | rfl | rfl | rfl | rfl
 · exact ⟨0, by decide, rfl⟩
 · exact ⟨1, by decide, rfl⟩
 · exact ⟨2, by decide, rfl⟩
 · exact ⟨3, by decide, rfl⟩
 · exact ⟨4, by decide, rfl⟩
 · exact ⟨5, by decide, rfl⟩
theorem Tape.off {K : PySem.W.Frag} {H : Hp} {a s l : Addr} {tp : List Int} (t : Tape K H a s tp) (h : H l = none) : l ≠ a := by
 obtain ⟨_, _, ha, _, _⟩ := t.at'
 exact fun z => by rw [z, ha] at h; cases h
noncomputable def spLaw (tb : Addr) (K : PySem.W.Frag) : Sp := fun vs H Q _ => ∃ (a : Addr) (ns : List Int), vs = [.ref a] ∧ SqL K H a (ns.map V.int) ∧ ns.length ≤ 63 ∧ TbOk tb lmPos lmQual H ∧ ∀ H', Q (.bl true) H'
theorem sc_lawX : FnScope ["script", "deck", "k", "crew", "phases", "by", "kind", "who", "when", "house", "found"] ["script"] (defScope s_lawX) := ⟨rfl, rfl, rfl, by decide +kernel, rfl, by decide +kernel, by decide +kernel⟩
theorem ok_lawX {tb f0 : Addr} {fd0 : FuncData} (F : Fun K "law" "law" s_lawX f0 fd0) (T : Txt K mg) (o1 : Ok P w K mg base "_law_e_pick" 2 ["deck", "many"] (spPk K)) (o2 : Ok P w K mg base "_law_e_one_by" 2 ["crew", "phases", "by", "kind", "who", "when"] spOb) (o3 : Ok P w K mg base "tried_loose" 8 ["house", "p"] (spTr tb)) (o4 : Ok P w K mg base "_law_e_due" 1 ["crew", "phases", "kind"] spDu) (o5 : Ok P w K mg base "_law_e_shows" 9 ["house", "phases", "found"] spSs) :
  FnOk P w K mg base CX0 10 f0 fd0 ["script"] (spLaw tb K) := by
 refine F.ok sc_lawX (fun vs H Q E ⟨_, _, e, _⟩ => by rw [e]; rfl) fun cdv A outer sh H vs Q E hr h => ?_
 obtain ⟨s, ns, rfl, hS, h63, hB, kk⟩ := h
 have nd := sc_lawX.nd
 have r2 := hr.mono (show 2 ≤ 9 by decide)
 refine ⟨_, zqb (zqq (i := 1) nd rfl (Or.inl rfl) (pe_lstK (zqa (pv 0) (zqa zqd (zqa zqd zqc)))))
  (zqb (ps_for PassesOwn.never rfl (pi_range1 rfl T.range (zqa zqd zqc)) (pg_name (i := 2) nd rfl (Or.inl rfl))
   (zqb (zqq (i := 3) nd rfl (Or.inl rfl) (zqn zqu (pe_lst (zqa zqd (zqa zqd (zqa zqd (zqa zqd (zqa zqd (zqa zqd (zqa zqd zqc)))))))) (zqp o1 r2 (zqa (pv 1) (zqa zqd zqc))) (fun _ _ => rfl)))
   (zqb (zqq (i := 4) nd rfl (Or.inl rfl) (zqt zq7 zqd (zqp o1 r2 (zqa (pv 1) (zqa (zqn zqu (pe_lst (zqa zqd (zqa zqd (zqa zqd (zqa zqd zqc))))) (zqt op_sub (pv 3) zqd) (fun _ _ => rfl)) zqc)))))
   (zqb (zqq (i := 5) nd rfl (Or.inl rfl) (zqn zqu (pe_lst (zqa zqd (zqa zqd (zqa zqd (zqa zqd zqc))))) (zqp o1 r2 (zqa (pv 1) (zqa zqd zqc))) (fun _ _ => rfl)))
   (zqb (zqq (i := 6) nd rfl (Or.inl rfl) (zqn zqu (pe_lst (zqa zqm (zqa zqm (zqa zqm (zqa zqm (zqa zqm (zqa zqm zqc))))))) (zqp o1 r2 (zqa (pv 1) (zqa zqd zqc))) (fun _ _ => rfl)))
   (zqb (zqq (i := 7) nd rfl (Or.inl rfl) (zqp o1 r2 (zqa (pv 1) (zqa (pv 3) zqc))))
   (zqb (zqq (i := 8) nd rfl (Or.inl rfl) (zqp o1 r2 (zqa (pv 1) (zqa (pv 4) zqc))))
   (zqb (zqq (i := 9) nd rfl (Or.inl rfl) (zqp o2 r2 (zqa (pv 3) (zqa (pv 4) (zqa (pv 5) (zqa (pv 6) (zqa (pv 7) (zqa (pv 8) zqc))))))))
   (zqb (zqq (i := 10) nd rfl (Or.inl rfl) (zqp o3 (hr.mono (show 8 ≤ 9 by decide)) (zqa (pv 9) (zqa (pv 4) zqc))))
   (zqb (zqv (PW.pt (pw_or (zq3 (zqy (zxw T.isi T.tuple zxb (pv 10)))) (pw_or (zql op_ne (zqk zqj (by rfl) T.len zqz (zqa (pv 10) zqc)) zqd (nomark _)) (zxh (zql op_ne (zqn zqo (pv 10) zqd (fun _ _ => rfl)) (zqp o4 (hr.mono (show 1 ≤ 9 by decide)) (zqa (pv 3) (zqa (pv 4) (zqa (pv 6) zqc)))) (nomark _)))))) (zqe (zqh zq9)) zqi)
   (zqe (zqv (zq3 (zqy (zqp o5 hr (zqa (pv 9) (zqa (pv 4) (zqa (pv 10) zqc)))))) (zqe (zqh zq9)) zqi))))))))))))
  (zqe (zqh zq9))), ?_⟩
 refine ⟨_, rfl, (by show 3 ≤ sizeLine; decide), fun a ha hKa => ?_⟩
 have sa := Same.new ha (.lst [.ref s, .int 0, .int 0])
 have T0 : Tape K (upd H a (.lst [.ref s, .int 0, .int 0])) a s ns := by
  have e : s ≠ a := fun z => by
   rcases hS with (q | ⟨o, q⟩) | ⟨o, its, n, q, _⟩
   · rw [z, ha] at q; cases q
   · rw [z, ha] at q; cases q
   · have hKa : K.lookup a = none := hKa
     rw [z, hKa] at q; cases q
  exact ⟨⟨0, 0, upd_same, Int.le_refl 0, Int.le_refl 0⟩, sa.seq hS, e, h63⟩
 have hT0 := hB.same sa
 generalize upd H a (.lst [.ref s, .int 0, .int 0]) = H0 at T0 sa hT0 ⊢
 refine ⟨2, rfl, by decide, by decide, ?_⟩
 refine for_range (lo := 0) (n := (2 : Int).toNat) (fun i σ H' => Tape K H' a s ns ∧ TbOk tb lmPos lmQual H' ∧ ∃ x2 x3 x4 x5 x6 x7 x8 x9 x10, σ = [some (.ref s), some (.ref a), x2, x3, x4, x5, x6, x7, x8, x9, x10]) ⟨T0, hT0, none, none, none, none, none, none, none, none, none, rfl⟩ ?_ (fun σ H' _ => kk _)
 rintro it σ H1 hit ⟨T1, hT1, x2, x3, x4, x5, x6, x7, x8, x9, x10, rfl⟩
 have tbb : ∀ {H H' : Hp}, TbOk tb lmPos lmQual H → Tape K H a s ns → But a H H' → TbOk tb lmPos lmQual H' := fun h t b => by
  obtain ⟨p1, q1, hta, _, _⟩ := id t.at'
  exact tb_but h b hta
 refine ⟨(by show 7 ≤ sizeLine; decide), fun l2 hl2 => ?_⟩
 have s2 := Same.new hl2 (.lst [.int 1, .int 2, .int 2, .int 2, .int 3, .int 3, .int 4])
 have g2 : upd H1 l2 (.lst [.int 1, .int 2, .int 2, .int 2, .int 3, .int 3, .int 4]) l2 = some (.lst [.int 1, .int 2, .int 2, .int 2, .int 3, .int 3, .int 4]) := upd_same
 have n2 := T1.off hl2
 have T2 := T1.same s2
 have hT2 := hT1.same s2
 generalize upd H1 l2 (.lst [.int 1, .int 2, .int 2, .int 2, .int 3, .int 3, .int 4]) = H2 at s2 g2 T2 hT2 ⊢
 refine ⟨_, rfl, a, s, ns, 7, rfl, T2, by decide, by decide, fun d3 H3 d30 d31 b3 T3 => ?_⟩
 have hT3 := tbb hT2 T2 b3
 obtain ⟨crew, ecr, c1, c4⟩ := seven d30 d31
 refine ⟨l2, _, _, _, rfl, rfl, SqL.of (b3 _ _ n2 g2), ecr, ?_⟩
 obtain ⟨eph, m1, m3⟩ := fourM c1 c4
 refine ⟨_, rfl, (by show 4 ≤ sizeLine; decide), fun l4 hl4 => ?_⟩
 have s4 := Same.new hl4 (.lst [.int 3, .int 3, .int 2, .int 1])
 have g4 : upd H3 l4 (.lst [.int 3, .int 3, .int 2, .int 1]) l4 = some (.lst [.int 3, .int 3, .int 2, .int 1]) := upd_same
 have T4 := T3.same s4
 have hT4 := hT3.same s4
 generalize upd H3 l4 (.lst [.int 3, .int 3, .int 2, .int 1]) = H4 at s4 g4 T4 hT4 ⊢
 refine ⟨_, rfl, _, _, rfl, rfl, l4, _, _, _, rfl, rfl, SqL.of g4, eph, a, s, ns, _, rfl, T4, by omega, by omega, fun d5 H5 d50 d51 b5 T5 => ?_⟩
 have hT5 := tbb hT4 T4 b5
 refine ⟨1, d5, rfl, rfl, ?_⟩
 obtain ⟨ph, eph2, f1, fm⟩ : ∃ ph : Nat, 1 + d5 = (ph : Int) ∧ 1 ≤ ph ∧ ph ≤ mxP (crew - 1) := ⟨(1 + d5).toNat, by omega, by omega, by omega⟩
 rw [show ((fun (i j : Int) => V.int (i + j)) 1 d5) = V.int (ph : Int) from congrArg V.int eph2]
 refine ⟨(by show 4 ≤ sizeLine; decide), fun l6 hl6 => ?_⟩
 have s6 := Same.new hl6 (.lst [.int 1, .int 3, .int 7, .int 9])
 have g6 : upd H5 l6 (.lst [.int 1, .int 3, .int 7, .int 9]) l6 = some (.lst [.int 1, .int 3, .int 7, .int 9]) := upd_same
 have n6 := T5.off hl6
 have T6 := T5.same s6
 have hT6 := hT5.same s6
 generalize upd H5 l6 (.lst [.int 1, .int 3, .int 7, .int 9]) = H6 at s6 g6 T6 hT6 ⊢
 refine ⟨_, rfl, a, s, ns, 4, rfl, T6, by decide, by decide, fun d7 H7 d70 d71 b7 T7 => ?_⟩
 have hT7 := tbb hT6 T6 b7
 obtain ⟨y, ey, hy⟩ := fourB d70 d71
 refine ⟨l6, _, _, _, rfl, rfl, SqL.of (b7 _ _ n6 g6), ey, ?_⟩
 refine ⟨(by show 6 ≤ sizeLine; decide), fun l8 hl8 => ?_⟩
 have s8 := Same.new hl8 (.lst [.str "each", .str "one", .str "few", .str "many", .str "late", .str "quick"])
 have g8 : upd H7 l8 (.lst [.str "each", .str "one", .str "few", .str "many", .str "late", .str "quick"]) l8 = some (.lst [.str "each", .str "one", .str "few", .str "many", .str "late", .str "quick"]) := upd_same
 have n8 := T7.off hl8
 have T8 := T7.same s8
 have hT8 := hT7.same s8
 generalize upd H7 l8 (.lst [.str "each", .str "one", .str "few", .str "many", .str "late", .str "quick"]) = H8 at s8 g8 T8 hT8 ⊢
 refine ⟨_, rfl, a, s, ns, 6, rfl, T8, by decide, by decide, fun d9 H9 d90 d91 b9 T9 => ?_⟩
 have hT9 := tbb hT8 T8 b9
 obtain ⟨kd, hkd, ekd⟩ := sixK d90 d91
 refine ⟨l8, _, _, _, rfl, rfl, SqL.of (b9 _ _ n8 g8), ekd, ?_⟩
 refine ⟨_, rfl, _, rfl, a, s, ns, _, rfl, T9, by omega, by omega, fun d10 H10 d100 d101 b10 T10 => ?_⟩
 have hT10 := tbb hT9 T9 b10
 obtain ⟨who, ewho⟩ : ∃ who : Nat, d10 = (who : Int) := ⟨d10.toNat, by omega⟩
 subst ewho
 refine ⟨_, rfl, _, rfl, a, s, ns, _, rfl, T10, by omega, by omega, fun d11 H11 d110 d111 b11 T11 => ?_⟩
 have hT11 := tbb hT10 T10 b11
 obtain ⟨when, ewhen⟩ : ∃ when : Nat, d11 = (when : Int) := ⟨d11.toNat, by omega⟩
 subst ewhen
 have p : Par crew ph kd who when := ⟨c1, c4, f1, fm, hkd, by omega, by omega⟩
 obtain ⟨hd, hw, hC, hR⟩ := kind_ok p hy
 refine ⟨_, rfl, _, rfl, _, rfl, _, rfl, _, rfl, _, rfl, crew, ph, kd, who, when, y, rfl, p, hy, fun vh H12 s12 ih => ?_⟩
 have hT12 := hT11.same s12
 have T12 := T11.same s12
 refine ⟨_, rfl, _, rfl, (ph : Int), dsA y (asK crew ph kd who when), vh, (ph : Int), rfl, hd, hw, hC, ih, hT12, fun af H13 b13 hT13 tr => ?_⟩
 have i12 := tb_is hT12
 have ih13 := ih.tups (b13.tups i12) hd.fro
 have T13 := tape_bt T12 b13 i12
 obtain ⟨l, ts, haf, iaf⟩ := tried_w tr hR (code3 crew ph kd)
 refine ⟨_, rfl, _, "tuple", _, _, rfl, iaf.ty, kit_tuple K (.tup ts), _, rfl, iteF ?_⟩
 refine ⟨_, rfl, af, _, rfl, .inr (SqT.of haf), rfl, _, rfl, ?_⟩
 refine iteF ?_
 refine ⟨_, rfl, af, _, _, _, rfl, rfl, SqT.of haf, at0, _, rfl, _, rfl, _, rfl, crew, ph, kd, rfl, hkd, fun H14 s14 => ⟨rfl, _, rfl, ?_⟩⟩
 rw [decStr]
 refine iteF ?_
 refine ⟨_, rfl, _, rfl, _, rfl, (ph : Int), dsA y (asK crew ph kd who when), vh, (ph : Int), af, rfl, hd, hw, ih13.mono s14, tr.same s14, fun H15 s15 => ⟨_, rfl, iteF ?_⟩⟩
 exact ⟨(T13.same s14).same s15, (hT13.same s14).same s15, _, _, _, _, _, _, _, _, _, rfl⟩
theorem zqs {K : PySem.W.Frag} {h : Heap} {mg : Str → Option Value} {x : Str} {st : Stmt} {f : Addr} {oc : Value} {od an : Option Addr} {osl : Array (Option Value)} {kV doc pm cdv ct : Value} (X : K.In h) (G : h.Ns mainGlobals mg) (e : PySem.W.nsIn K mainGlobals x = some (some (.ref f)))
 (l : K.lookup f = some ⟨oc, od, .func (PySem.W.fnOf x x (defArgs st) (defBody st) (defScope st) .none kV doc pm an cdv ct), osl⟩) (c : PySem.W.codeIn K cdv x = true) (k : PySem.W.keepIn K (.ref f) = true) : Def K mg x st := ⟨f, _, fun_mk l c k, PySem.W.mg_of X G e⟩
theorem def_ofC {K : PySem.W.Frag} {h : Heap} {mg : Str → Option Value} {x : Str} {st : Stmt} {f cc : Addr} {oc : Value} {od an : Option Addr} {osl : Array (Option Value)} {kV doc pm cdv ct : Value} (X : K.In h) (G : h.Ns mainGlobals mg) (e : PySem.W.nsIn K mainGlobals x = some (some (.ref f)))
 (l : K.lookup f = some ⟨oc, od, .func (PySem.W.fnOf x x (defArgs st) (defBody st) (defScope st) .none kV doc pm an cdv ct), osl⟩) (c : PySem.W.codeIn K cdv x = true) (k : PySem.W.keepIn K (.ref f) = true) (hc : cdv = .ref cc) : DefC K mg x st cc := ⟨f, _, fun_mk l c k, PySem.W.mg_of X G e, hc⟩
structure Tops (K : PySem.W.Frag) (mg : Str → Option Value) (cc : Addr) : Prop where
 d_is_whole : Def K mg "is_whole" s_is_whole
 d_is_within : Def K mg "is_within" s_is_within
 d_is_tuple_within : Def K mg "is_tuple_within" s_is_tuple_within
 d_is_letters : Def K mg "is_letters" s_is_letters
 d_is_word : Def K mg "is_word" s_is_word
 d_said_in : Def K mg "said_in" s_said_in
 d_is_loose_deed : Def K mg "is_loose_deed" s_loose_deed
 d_is_loose_script : Def K mg "is_loose_script" s_loose_script
 d_is_loose : Def K mg "is_loose" s_is_loose
 d_need_loose : Def K mg "need_loose" s_needL
 d_at_first : Def K mg "at_first" s_at_first
 d_next_deed : Def K mg "next_deed" s_next_deed
 d_may_go_on : Def K mg "may_go_on" s_may_go_on
 d_moved : Def K mg "moved" s_moved
 d_going : Def K mg "going" s_going
 d_rows_to_all : Def K mg "rows_to_all" s_rowsTo
 d_skips_a_say : Def K mg "skips_a_say" s_skips
 d_is_loose_wall : Def K mg "is_loose_wall" s_isWall
 d_need_loose_wall : Def K mg "need_loose_wall" s_needW
 d_times_said : Def K mg "times_said" s_times
 d_is_early_go : Def K mg "is_early_go" s_earlyGo
 d_has_done_all : Def K mg "has_done_all" s_doneAll
 d_stops : Def K mg "stops" s_stopsP
 d_steps_from : Def K mg "steps_from" s_stepsFrom
 d_stand_by : Def K mg "stand_by" s_standBy
 d_early_weaving : Def K mg "early_weaving" s_earlyW
 d_stuck_weaving : Def K mg "stuck_weaving" s_stuckW
 d_tried_loose : DefC K mg "tried_loose" s_tried cc
 d_is_early : Def K mg "is_early" s_isEarly
 d_is_stuck : Def K mg "is_stuck" s_isStuck
 d_has_early : Def K mg "has_early" s_hasEarly
 d_is_stand_like : Def K mg "is_stand_like" s_standLike
 d_is_kept_at : Def K mg "is_kept_at" s_keptAt
 d_holds_by : Def K mg "holds_by" s_holdsBy
 d_law_e_mixed : Def K mg "_law_e_mixed" s_mixed
 d_law_e_pick : Def K mg "_law_e_pick" s_pick
 d_law_e_phase : Def K mg "_law_e_phase" s_phaseF
 d_law_e_one_by : Def K mg "_law_e_one_by" s_oneBy
 d_law_e_due : Def K mg "_law_e_due" s_dueF
 d_law_e_shows : Def K mg "_law_e_shows" s_showsF
 d_law : Def K mg "law" s_lawX
 txt : Txt K mg
theorem whole {cc tb : Addr} (B : BMain mg base) (CH : PySem.W.CodeHd base cc tb) (A : Tops K mg cc) {f0 : Addr} {fd0 : FuncData} (F : Fun K "law" "law" s_lawX f0 fd0) : FnOk P w K mg base CX0 10 f0 fd0 ["script"] (spLaw tb K) := by
 have T := A.txt
 have o1 := ok_is_whole (P := P) (w := w) (base := base) A.d_is_whole T
 have o2 := ok_is_within A.d_is_within T o1
 have o3 := ok_is_tuple_within (P := P) (w := w) (base := base) A.d_is_tuple_within T
 have o4 := ok_is_letters (P := P) (w := w) (base := base) A.d_is_letters T
 have o5 := ok_is_word A.d_is_word T o4
 have o6 := ok_loose_deed A.d_is_loose_deed T o3 o2 o5
 have o7 := ok_loose_script A.d_is_loose_script T o3 o6
 have o8 := ok_is_loose A.d_is_loose T o3 o2 o7
 have o9 := ok_mixed (P := P) (w := w) (base := base) A.d_law_e_mixed
 have o10 := ok_pick A.d_law_e_pick T o9
 have n1 := ok_needL A.d_need_loose T o8
 have n2 := ok_at_first (P := P) (w := w) (base := base) A.d_at_first T
 have n3 := ok_next_deed (P := P) (w := w) (base := base) A.d_next_deed T
 have n4 := ok_may_go_on A.d_may_go_on T o2 n3
 have n5 := ok_moved A.d_moved T n3
 have n6 := ok_going A.d_going T n4
 have m1 := ok_said_in (P := P) (w := w) (base := base) A.d_said_in T
 have m2 := ok_skips A.d_skips_a_say T m1
 have m3 := ok_isWall A.d_is_loose_wall T o2 m1 m2
 have m4 := ok_needW A.d_need_loose_wall T n1 m3
 have m5 := ok_times (P := P) (w := w) (base := base) A.d_times_said T
 have m6 := ok_earlyGo A.d_is_early_go T n3 m5
 have m7 := ok_doneAll (P := P) (w := w) (base := base) A.d_has_done_all T
 have m8 := ok_stopsP A.d_stops T n6 m7
 have m9 := ok_stepsFrom A.d_steps_from T n6 n5
 have m10 := ok_rowsTo A.d_rows_to_all T m9
 have m11 := ok_earlyW A.d_early_weaving T n6 m6
 have m12 := ok_stuckW A.d_stuck_weaving T m8
 have m13 := ok_tried B CH A.d_tried_loose T m4 m10 n2 m11 m12
 have m14 := ok_standBy A.d_stand_by T n2 n4 n5
 have m15 := ok_isEarly A.d_is_early T m4 m14 n4 m6
 have m16 := ok_isStuck A.d_is_stuck T n1 m14 m8
 have h1 := ok_hasEarly A.d_has_early T m5
 have h2 := ok_standLike A.d_is_stand_like T n2 o3 o2
 have h3 := ok_keptAt A.d_is_kept_at T m8 h1 m9
 have h4 := ok_holdsBy A.d_holds_by T m4 h2 n2 h3
 have e1 := ok_phaseF (P := P) (w := w) (base := base) A.d_law_e_phase
 have e2 := ok_oneBy A.d_law_e_one_by T e1
 have e3 := ok_dueF (P := P) (w := w) (base := base) A.d_law_e_due T
 have e4 := ok_showsF A.d_law_e_shows T m15 m16 h4
 exact ok_lawX F T o10 e2 m13 e3 e4
theorem all_mk {l : PySem.W.OpenLaw} {w : World} {K : PySem.W.Frag} {h : Heap} {mg : Str → Option Value} {fa : Addr} (X : K.In h) (G : h.Ns mainGlobals mg) (hfa : mg "law" = some (.ref fa))
  {f0 : Addr} {od0 an0 : Option Addr} {sl0 : Array (Option Value)} {oc0 kV0 dc0 pm0 cd0 ct0 : Value}
  {f1 : Addr} {od1 an1 : Option Addr} {sl1 : Array (Option Value)} {oc1 kV1 dc1 pm1 cd1 ct1 : Value}
  {f2 : Addr} {od2 an2 : Option Addr} {sl2 : Array (Option Value)} {oc2 kV2 dc2 pm2 cd2 ct2 : Value}
  {f3 : Addr} {od3 an3 : Option Addr} {sl3 : Array (Option Value)} {oc3 kV3 dc3 pm3 cd3 ct3 : Value}
  {f4 : Addr} {od4 an4 : Option Addr} {sl4 : Array (Option Value)} {oc4 kV4 dc4 pm4 cd4 ct4 : Value}
  {f5 : Addr} {od5 an5 : Option Addr} {sl5 : Array (Option Value)} {oc5 kV5 dc5 pm5 cd5 ct5 : Value}
  {f6 : Addr} {od6 an6 : Option Addr} {sl6 : Array (Option Value)} {oc6 kV6 dc6 pm6 cd6 ct6 : Value}
  {f7 : Addr} {od7 an7 : Option Addr} {sl7 : Array (Option Value)} {oc7 kV7 dc7 pm7 cd7 ct7 : Value}
  {f8 : Addr} {od8 an8 : Option Addr} {sl8 : Array (Option Value)} {oc8 kV8 dc8 pm8 cd8 ct8 : Value}
  {f9 : Addr} {od9 an9 : Option Addr} {sl9 : Array (Option Value)} {oc9 kV9 dc9 pm9 cd9 ct9 : Value}
  {f10 : Addr} {od10 an10 : Option Addr} {sl10 : Array (Option Value)} {oc10 kV10 dc10 pm10 cd10 ct10 : Value}
  {f11 : Addr} {od11 an11 : Option Addr} {sl11 : Array (Option Value)} {oc11 kV11 dc11 pm11 cd11 ct11 : Value}
  {f12 : Addr} {od12 an12 : Option Addr} {sl12 : Array (Option Value)} {oc12 kV12 dc12 pm12 cd12 ct12 : Value}
  {f13 : Addr} {od13 an13 : Option Addr} {sl13 : Array (Option Value)} {oc13 kV13 dc13 pm13 cd13 ct13 : Value}
  {f14 : Addr} {od14 an14 : Option Addr} {sl14 : Array (Option Value)} {oc14 kV14 dc14 pm14 cd14 ct14 : Value}
  {f15 : Addr} {od15 an15 : Option Addr} {sl15 : Array (Option Value)} {oc15 kV15 dc15 pm15 cd15 ct15 : Value}
  {f16 : Addr} {od16 an16 : Option Addr} {sl16 : Array (Option Value)} {oc16 kV16 dc16 pm16 cd16 ct16 : Value}
  {f17 : Addr} {od17 an17 : Option Addr} {sl17 : Array (Option Value)} {oc17 kV17 dc17 pm17 cd17 ct17 : Value}
  {f18 : Addr} {od18 an18 : Option Addr} {sl18 : Array (Option Value)} {oc18 kV18 dc18 pm18 cd18 ct18 : Value}
  {f19 : Addr} {od19 an19 : Option Addr} {sl19 : Array (Option Value)} {oc19 kV19 dc19 pm19 cd19 ct19 : Value}
  {f20 : Addr} {od20 an20 : Option Addr} {sl20 : Array (Option Value)} {oc20 kV20 dc20 pm20 cd20 ct20 : Value}
  {f21 : Addr} {od21 an21 : Option Addr} {sl21 : Array (Option Value)} {oc21 kV21 dc21 pm21 cd21 ct21 : Value}
  {f22 : Addr} {od22 an22 : Option Addr} {sl22 : Array (Option Value)} {oc22 kV22 dc22 pm22 cd22 ct22 : Value}
  {f23 : Addr} {od23 an23 : Option Addr} {sl23 : Array (Option Value)} {oc23 kV23 dc23 pm23 cd23 ct23 : Value}
  {f24 : Addr} {od24 an24 : Option Addr} {sl24 : Array (Option Value)} {oc24 kV24 dc24 pm24 cd24 ct24 : Value}
  {f25 : Addr} {od25 an25 : Option Addr} {sl25 : Array (Option Value)} {oc25 kV25 dc25 pm25 cd25 ct25 : Value}
  {f26 : Addr} {od26 an26 : Option Addr} {sl26 : Array (Option Value)} {oc26 kV26 dc26 pm26 cd26 ct26 : Value}
  {f27 : Addr} {od27 an27 : Option Addr} {sl27 : Array (Option Value)} {oc27 kV27 dc27 pm27 cd27 ct27 : Value}
  {f28 : Addr} {od28 an28 : Option Addr} {sl28 : Array (Option Value)} {oc28 kV28 dc28 pm28 cd28 ct28 : Value}
  {f29 : Addr} {od29 an29 : Option Addr} {sl29 : Array (Option Value)} {oc29 kV29 dc29 pm29 cd29 ct29 : Value}
  {f30 : Addr} {od30 an30 : Option Addr} {sl30 : Array (Option Value)} {oc30 kV30 dc30 pm30 cd30 ct30 : Value}
  {f31 : Addr} {od31 an31 : Option Addr} {sl31 : Array (Option Value)} {oc31 kV31 dc31 pm31 cd31 ct31 : Value}
  {f32 : Addr} {od32 an32 : Option Addr} {sl32 : Array (Option Value)} {oc32 kV32 dc32 pm32 cd32 ct32 : Value}
  {f33 : Addr} {od33 an33 : Option Addr} {sl33 : Array (Option Value)} {oc33 kV33 dc33 pm33 cd33 ct33 : Value}
  {f34 : Addr} {od34 an34 : Option Addr} {sl34 : Array (Option Value)} {oc34 kV34 dc34 pm34 cd34 ct34 : Value}
  {f35 : Addr} {od35 an35 : Option Addr} {sl35 : Array (Option Value)} {oc35 kV35 dc35 pm35 cd35 ct35 : Value}
  {f36 : Addr} {od36 an36 : Option Addr} {sl36 : Array (Option Value)} {oc36 kV36 dc36 pm36 cd36 ct36 : Value}
  {f37 : Addr} {od37 an37 : Option Addr} {sl37 : Array (Option Value)} {oc37 kV37 dc37 pm37 cd37 ct37 : Value}
  {f38 : Addr} {od38 an38 : Option Addr} {sl38 : Array (Option Value)} {oc38 kV38 dc38 pm38 cd38 ct38 : Value}
  {f39 : Addr} {od39 an39 : Option Addr} {sl39 : Array (Option Value)} {oc39 kV39 dc39 pm39 cd39 ct39 : Value}
  {f40 : Addr} {od40 an40 : Option Addr} {sl40 : Array (Option Value)} {oc40 kV40 dc40 pm40 cd40 ct40 : Value}
  {t0 : Tok}
  {t1 : Tok}
  {t2 : Tok}
  {t3 : Tok}
  {t4 : Tok}
  {t5 : Tok}
  {t6 : Tok}
  {t7 : Tok}
  {t8 : Tok}
  {t9 : Tok}
  {t10 : Tok}
  {cc tb : Addr}
  (a0 : PySem.W.nsIn K mainGlobals "is_whole" = some (some (.ref f0))) (l0 : K.lookup f0 = some ⟨oc0, od0, .func (PySem.W.fnOf "is_whole" "is_whole" (defArgs s_is_whole) (defBody s_is_whole) (defScope s_is_whole) .none kV0 dc0 pm0 an0 cd0 ct0), sl0⟩) (c0 : PySem.W.codeIn K cd0 "is_whole" = true) (k0 : PySem.W.keepIn K (.ref f0) = true)
  (a1 : PySem.W.nsIn K mainGlobals "is_within" = some (some (.ref f1))) (l1 : K.lookup f1 = some ⟨oc1, od1, .func (PySem.W.fnOf "is_within" "is_within" (defArgs s_is_within) (defBody s_is_within) (defScope s_is_within) .none kV1 dc1 pm1 an1 cd1 ct1), sl1⟩) (c1 : PySem.W.codeIn K cd1 "is_within" = true) (k1 : PySem.W.keepIn K (.ref f1) = true)
  (a2 : PySem.W.nsIn K mainGlobals "is_tuple_within" = some (some (.ref f2))) (l2 : K.lookup f2 = some ⟨oc2, od2, .func (PySem.W.fnOf "is_tuple_within" "is_tuple_within" (defArgs s_is_tuple_within) (defBody s_is_tuple_within) (defScope s_is_tuple_within) .none kV2 dc2 pm2 an2 cd2 ct2), sl2⟩) (c2 : PySem.W.codeIn K cd2 "is_tuple_within" = true) (k2 : PySem.W.keepIn K (.ref f2) = true)
  (a3 : PySem.W.nsIn K mainGlobals "is_letters" = some (some (.ref f3))) (l3 : K.lookup f3 = some ⟨oc3, od3, .func (PySem.W.fnOf "is_letters" "is_letters" (defArgs s_is_letters) (defBody s_is_letters) (defScope s_is_letters) .none kV3 dc3 pm3 an3 cd3 ct3), sl3⟩) (c3 : PySem.W.codeIn K cd3 "is_letters" = true) (k3 : PySem.W.keepIn K (.ref f3) = true)
  (a4 : PySem.W.nsIn K mainGlobals "is_word" = some (some (.ref f4))) (l4 : K.lookup f4 = some ⟨oc4, od4, .func (PySem.W.fnOf "is_word" "is_word" (defArgs s_is_word) (defBody s_is_word) (defScope s_is_word) .none kV4 dc4 pm4 an4 cd4 ct4), sl4⟩) (c4 : PySem.W.codeIn K cd4 "is_word" = true) (k4 : PySem.W.keepIn K (.ref f4) = true)
  (a5 : PySem.W.nsIn K mainGlobals "said_in" = some (some (.ref f5))) (l5 : K.lookup f5 = some ⟨oc5, od5, .func (PySem.W.fnOf "said_in" "said_in" (defArgs s_said_in) (defBody s_said_in) (defScope s_said_in) .none kV5 dc5 pm5 an5 cd5 ct5), sl5⟩) (c5 : PySem.W.codeIn K cd5 "said_in" = true) (k5 : PySem.W.keepIn K (.ref f5) = true)
  (a6 : PySem.W.nsIn K mainGlobals "is_loose_deed" = some (some (.ref f6))) (l6 : K.lookup f6 = some ⟨oc6, od6, .func (PySem.W.fnOf "is_loose_deed" "is_loose_deed" (defArgs s_loose_deed) (defBody s_loose_deed) (defScope s_loose_deed) .none kV6 dc6 pm6 an6 cd6 ct6), sl6⟩) (c6 : PySem.W.codeIn K cd6 "is_loose_deed" = true) (k6 : PySem.W.keepIn K (.ref f6) = true)
  (a7 : PySem.W.nsIn K mainGlobals "is_loose_script" = some (some (.ref f7))) (l7 : K.lookup f7 = some ⟨oc7, od7, .func (PySem.W.fnOf "is_loose_script" "is_loose_script" (defArgs s_loose_script) (defBody s_loose_script) (defScope s_loose_script) .none kV7 dc7 pm7 an7 cd7 ct7), sl7⟩) (c7 : PySem.W.codeIn K cd7 "is_loose_script" = true) (k7 : PySem.W.keepIn K (.ref f7) = true)
  (a8 : PySem.W.nsIn K mainGlobals "is_loose" = some (some (.ref f8))) (l8 : K.lookup f8 = some ⟨oc8, od8, .func (PySem.W.fnOf "is_loose" "is_loose" (defArgs s_is_loose) (defBody s_is_loose) (defScope s_is_loose) .none kV8 dc8 pm8 an8 cd8 ct8), sl8⟩) (c8 : PySem.W.codeIn K cd8 "is_loose" = true) (k8 : PySem.W.keepIn K (.ref f8) = true)
  (a9 : PySem.W.nsIn K mainGlobals "need_loose" = some (some (.ref f9))) (l9 : K.lookup f9 = some ⟨oc9, od9, .func (PySem.W.fnOf "need_loose" "need_loose" (defArgs s_needL) (defBody s_needL) (defScope s_needL) .none kV9 dc9 pm9 an9 cd9 ct9), sl9⟩) (c9 : PySem.W.codeIn K cd9 "need_loose" = true) (k9 : PySem.W.keepIn K (.ref f9) = true)
  (a10 : PySem.W.nsIn K mainGlobals "at_first" = some (some (.ref f10))) (l10 : K.lookup f10 = some ⟨oc10, od10, .func (PySem.W.fnOf "at_first" "at_first" (defArgs s_at_first) (defBody s_at_first) (defScope s_at_first) .none kV10 dc10 pm10 an10 cd10 ct10), sl10⟩) (c10 : PySem.W.codeIn K cd10 "at_first" = true) (k10 : PySem.W.keepIn K (.ref f10) = true)
  (a11 : PySem.W.nsIn K mainGlobals "next_deed" = some (some (.ref f11))) (l11 : K.lookup f11 = some ⟨oc11, od11, .func (PySem.W.fnOf "next_deed" "next_deed" (defArgs s_next_deed) (defBody s_next_deed) (defScope s_next_deed) .none kV11 dc11 pm11 an11 cd11 ct11), sl11⟩) (c11 : PySem.W.codeIn K cd11 "next_deed" = true) (k11 : PySem.W.keepIn K (.ref f11) = true)
  (a12 : PySem.W.nsIn K mainGlobals "may_go_on" = some (some (.ref f12))) (l12 : K.lookup f12 = some ⟨oc12, od12, .func (PySem.W.fnOf "may_go_on" "may_go_on" (defArgs s_may_go_on) (defBody s_may_go_on) (defScope s_may_go_on) .none kV12 dc12 pm12 an12 cd12 ct12), sl12⟩) (c12 : PySem.W.codeIn K cd12 "may_go_on" = true) (k12 : PySem.W.keepIn K (.ref f12) = true)
  (a13 : PySem.W.nsIn K mainGlobals "moved" = some (some (.ref f13))) (l13 : K.lookup f13 = some ⟨oc13, od13, .func (PySem.W.fnOf "moved" "moved" (defArgs s_moved) (defBody s_moved) (defScope s_moved) .none kV13 dc13 pm13 an13 cd13 ct13), sl13⟩) (c13 : PySem.W.codeIn K cd13 "moved" = true) (k13 : PySem.W.keepIn K (.ref f13) = true)
  (a14 : PySem.W.nsIn K mainGlobals "going" = some (some (.ref f14))) (l14 : K.lookup f14 = some ⟨oc14, od14, .func (PySem.W.fnOf "going" "going" (defArgs s_going) (defBody s_going) (defScope s_going) .none kV14 dc14 pm14 an14 cd14 ct14), sl14⟩) (c14 : PySem.W.codeIn K cd14 "going" = true) (k14 : PySem.W.keepIn K (.ref f14) = true)
  (a15 : PySem.W.nsIn K mainGlobals "rows_to_all" = some (some (.ref f15))) (l15 : K.lookup f15 = some ⟨oc15, od15, .func (PySem.W.fnOf "rows_to_all" "rows_to_all" (defArgs s_rowsTo) (defBody s_rowsTo) (defScope s_rowsTo) .none kV15 dc15 pm15 an15 cd15 ct15), sl15⟩) (c15 : PySem.W.codeIn K cd15 "rows_to_all" = true) (k15 : PySem.W.keepIn K (.ref f15) = true)
  (a16 : PySem.W.nsIn K mainGlobals "skips_a_say" = some (some (.ref f16))) (l16 : K.lookup f16 = some ⟨oc16, od16, .func (PySem.W.fnOf "skips_a_say" "skips_a_say" (defArgs s_skips) (defBody s_skips) (defScope s_skips) .none kV16 dc16 pm16 an16 cd16 ct16), sl16⟩) (c16 : PySem.W.codeIn K cd16 "skips_a_say" = true) (k16 : PySem.W.keepIn K (.ref f16) = true)
  (a17 : PySem.W.nsIn K mainGlobals "is_loose_wall" = some (some (.ref f17))) (l17 : K.lookup f17 = some ⟨oc17, od17, .func (PySem.W.fnOf "is_loose_wall" "is_loose_wall" (defArgs s_isWall) (defBody s_isWall) (defScope s_isWall) .none kV17 dc17 pm17 an17 cd17 ct17), sl17⟩) (c17 : PySem.W.codeIn K cd17 "is_loose_wall" = true) (k17 : PySem.W.keepIn K (.ref f17) = true)
  (a18 : PySem.W.nsIn K mainGlobals "need_loose_wall" = some (some (.ref f18))) (l18 : K.lookup f18 = some ⟨oc18, od18, .func (PySem.W.fnOf "need_loose_wall" "need_loose_wall" (defArgs s_needW) (defBody s_needW) (defScope s_needW) .none kV18 dc18 pm18 an18 cd18 ct18), sl18⟩) (c18 : PySem.W.codeIn K cd18 "need_loose_wall" = true) (k18 : PySem.W.keepIn K (.ref f18) = true)
  (a19 : PySem.W.nsIn K mainGlobals "times_said" = some (some (.ref f19))) (l19 : K.lookup f19 = some ⟨oc19, od19, .func (PySem.W.fnOf "times_said" "times_said" (defArgs s_times) (defBody s_times) (defScope s_times) .none kV19 dc19 pm19 an19 cd19 ct19), sl19⟩) (c19 : PySem.W.codeIn K cd19 "times_said" = true) (k19 : PySem.W.keepIn K (.ref f19) = true)
  (a20 : PySem.W.nsIn K mainGlobals "is_early_go" = some (some (.ref f20))) (l20 : K.lookup f20 = some ⟨oc20, od20, .func (PySem.W.fnOf "is_early_go" "is_early_go" (defArgs s_earlyGo) (defBody s_earlyGo) (defScope s_earlyGo) .none kV20 dc20 pm20 an20 cd20 ct20), sl20⟩) (c20 : PySem.W.codeIn K cd20 "is_early_go" = true) (k20 : PySem.W.keepIn K (.ref f20) = true)
  (a21 : PySem.W.nsIn K mainGlobals "has_done_all" = some (some (.ref f21))) (l21 : K.lookup f21 = some ⟨oc21, od21, .func (PySem.W.fnOf "has_done_all" "has_done_all" (defArgs s_doneAll) (defBody s_doneAll) (defScope s_doneAll) .none kV21 dc21 pm21 an21 cd21 ct21), sl21⟩) (c21 : PySem.W.codeIn K cd21 "has_done_all" = true) (k21 : PySem.W.keepIn K (.ref f21) = true)
  (a22 : PySem.W.nsIn K mainGlobals "stops" = some (some (.ref f22))) (l22 : K.lookup f22 = some ⟨oc22, od22, .func (PySem.W.fnOf "stops" "stops" (defArgs s_stopsP) (defBody s_stopsP) (defScope s_stopsP) .none kV22 dc22 pm22 an22 cd22 ct22), sl22⟩) (c22 : PySem.W.codeIn K cd22 "stops" = true) (k22 : PySem.W.keepIn K (.ref f22) = true)
  (a23 : PySem.W.nsIn K mainGlobals "steps_from" = some (some (.ref f23))) (l23 : K.lookup f23 = some ⟨oc23, od23, .func (PySem.W.fnOf "steps_from" "steps_from" (defArgs s_stepsFrom) (defBody s_stepsFrom) (defScope s_stepsFrom) .none kV23 dc23 pm23 an23 cd23 ct23), sl23⟩) (c23 : PySem.W.codeIn K cd23 "steps_from" = true) (k23 : PySem.W.keepIn K (.ref f23) = true)
  (a24 : PySem.W.nsIn K mainGlobals "stand_by" = some (some (.ref f24))) (l24 : K.lookup f24 = some ⟨oc24, od24, .func (PySem.W.fnOf "stand_by" "stand_by" (defArgs s_standBy) (defBody s_standBy) (defScope s_standBy) .none kV24 dc24 pm24 an24 cd24 ct24), sl24⟩) (c24 : PySem.W.codeIn K cd24 "stand_by" = true) (k24 : PySem.W.keepIn K (.ref f24) = true)
  (a25 : PySem.W.nsIn K mainGlobals "early_weaving" = some (some (.ref f25))) (l25 : K.lookup f25 = some ⟨oc25, od25, .func (PySem.W.fnOf "early_weaving" "early_weaving" (defArgs s_earlyW) (defBody s_earlyW) (defScope s_earlyW) .none kV25 dc25 pm25 an25 cd25 ct25), sl25⟩) (c25 : PySem.W.codeIn K cd25 "early_weaving" = true) (k25 : PySem.W.keepIn K (.ref f25) = true)
  (a26 : PySem.W.nsIn K mainGlobals "stuck_weaving" = some (some (.ref f26))) (l26 : K.lookup f26 = some ⟨oc26, od26, .func (PySem.W.fnOf "stuck_weaving" "stuck_weaving" (defArgs s_stuckW) (defBody s_stuckW) (defScope s_stuckW) .none kV26 dc26 pm26 an26 cd26 ct26), sl26⟩) (c26 : PySem.W.codeIn K cd26 "stuck_weaving" = true) (k26 : PySem.W.keepIn K (.ref f26) = true)
  (a27 : PySem.W.nsIn K mainGlobals "tried_loose" = some (some (.ref f27))) (l27 : K.lookup f27 = some ⟨oc27, od27, .func (PySem.W.fnOf "tried_loose" "tried_loose" (defArgs s_tried) (defBody s_tried) (defScope s_tried) .none kV27 dc27 pm27 an27 cd27 ct27), sl27⟩) (c27 : PySem.W.codeIn K cd27 "tried_loose" = true) (k27 : PySem.W.keepIn K (.ref f27) = true)
  (a28 : PySem.W.nsIn K mainGlobals "is_early" = some (some (.ref f28))) (l28 : K.lookup f28 = some ⟨oc28, od28, .func (PySem.W.fnOf "is_early" "is_early" (defArgs s_isEarly) (defBody s_isEarly) (defScope s_isEarly) .none kV28 dc28 pm28 an28 cd28 ct28), sl28⟩) (c28 : PySem.W.codeIn K cd28 "is_early" = true) (k28 : PySem.W.keepIn K (.ref f28) = true)
  (a29 : PySem.W.nsIn K mainGlobals "is_stuck" = some (some (.ref f29))) (l29 : K.lookup f29 = some ⟨oc29, od29, .func (PySem.W.fnOf "is_stuck" "is_stuck" (defArgs s_isStuck) (defBody s_isStuck) (defScope s_isStuck) .none kV29 dc29 pm29 an29 cd29 ct29), sl29⟩) (c29 : PySem.W.codeIn K cd29 "is_stuck" = true) (k29 : PySem.W.keepIn K (.ref f29) = true)
  (a30 : PySem.W.nsIn K mainGlobals "has_early" = some (some (.ref f30))) (l30 : K.lookup f30 = some ⟨oc30, od30, .func (PySem.W.fnOf "has_early" "has_early" (defArgs s_hasEarly) (defBody s_hasEarly) (defScope s_hasEarly) .none kV30 dc30 pm30 an30 cd30 ct30), sl30⟩) (c30 : PySem.W.codeIn K cd30 "has_early" = true) (k30 : PySem.W.keepIn K (.ref f30) = true)
  (a31 : PySem.W.nsIn K mainGlobals "is_stand_like" = some (some (.ref f31))) (l31 : K.lookup f31 = some ⟨oc31, od31, .func (PySem.W.fnOf "is_stand_like" "is_stand_like" (defArgs s_standLike) (defBody s_standLike) (defScope s_standLike) .none kV31 dc31 pm31 an31 cd31 ct31), sl31⟩) (c31 : PySem.W.codeIn K cd31 "is_stand_like" = true) (k31 : PySem.W.keepIn K (.ref f31) = true)
  (a32 : PySem.W.nsIn K mainGlobals "is_kept_at" = some (some (.ref f32))) (l32 : K.lookup f32 = some ⟨oc32, od32, .func (PySem.W.fnOf "is_kept_at" "is_kept_at" (defArgs s_keptAt) (defBody s_keptAt) (defScope s_keptAt) .none kV32 dc32 pm32 an32 cd32 ct32), sl32⟩) (c32 : PySem.W.codeIn K cd32 "is_kept_at" = true) (k32 : PySem.W.keepIn K (.ref f32) = true)
  (a33 : PySem.W.nsIn K mainGlobals "holds_by" = some (some (.ref f33))) (l33 : K.lookup f33 = some ⟨oc33, od33, .func (PySem.W.fnOf "holds_by" "holds_by" (defArgs s_holdsBy) (defBody s_holdsBy) (defScope s_holdsBy) .none kV33 dc33 pm33 an33 cd33 ct33), sl33⟩) (c33 : PySem.W.codeIn K cd33 "holds_by" = true) (k33 : PySem.W.keepIn K (.ref f33) = true)
  (a34 : PySem.W.nsIn K mainGlobals "_law_e_mixed" = some (some (.ref f34))) (l34 : K.lookup f34 = some ⟨oc34, od34, .func (PySem.W.fnOf "_law_e_mixed" "_law_e_mixed" (defArgs s_mixed) (defBody s_mixed) (defScope s_mixed) .none kV34 dc34 pm34 an34 cd34 ct34), sl34⟩) (c34 : PySem.W.codeIn K cd34 "_law_e_mixed" = true) (k34 : PySem.W.keepIn K (.ref f34) = true)
  (a35 : PySem.W.nsIn K mainGlobals "_law_e_pick" = some (some (.ref f35))) (l35 : K.lookup f35 = some ⟨oc35, od35, .func (PySem.W.fnOf "_law_e_pick" "_law_e_pick" (defArgs s_pick) (defBody s_pick) (defScope s_pick) .none kV35 dc35 pm35 an35 cd35 ct35), sl35⟩) (c35 : PySem.W.codeIn K cd35 "_law_e_pick" = true) (k35 : PySem.W.keepIn K (.ref f35) = true)
  (a36 : PySem.W.nsIn K mainGlobals "_law_e_phase" = some (some (.ref f36))) (l36 : K.lookup f36 = some ⟨oc36, od36, .func (PySem.W.fnOf "_law_e_phase" "_law_e_phase" (defArgs s_phaseF) (defBody s_phaseF) (defScope s_phaseF) .none kV36 dc36 pm36 an36 cd36 ct36), sl36⟩) (c36 : PySem.W.codeIn K cd36 "_law_e_phase" = true) (k36 : PySem.W.keepIn K (.ref f36) = true)
  (a37 : PySem.W.nsIn K mainGlobals "_law_e_one_by" = some (some (.ref f37))) (l37 : K.lookup f37 = some ⟨oc37, od37, .func (PySem.W.fnOf "_law_e_one_by" "_law_e_one_by" (defArgs s_oneBy) (defBody s_oneBy) (defScope s_oneBy) .none kV37 dc37 pm37 an37 cd37 ct37), sl37⟩) (c37 : PySem.W.codeIn K cd37 "_law_e_one_by" = true) (k37 : PySem.W.keepIn K (.ref f37) = true)
  (a38 : PySem.W.nsIn K mainGlobals "_law_e_due" = some (some (.ref f38))) (l38 : K.lookup f38 = some ⟨oc38, od38, .func (PySem.W.fnOf "_law_e_due" "_law_e_due" (defArgs s_dueF) (defBody s_dueF) (defScope s_dueF) .none kV38 dc38 pm38 an38 cd38 ct38), sl38⟩) (c38 : PySem.W.codeIn K cd38 "_law_e_due" = true) (k38 : PySem.W.keepIn K (.ref f38) = true)
  (a39 : PySem.W.nsIn K mainGlobals "_law_e_shows" = some (some (.ref f39))) (l39 : K.lookup f39 = some ⟨oc39, od39, .func (PySem.W.fnOf "_law_e_shows" "_law_e_shows" (defArgs s_showsF) (defBody s_showsF) (defScope s_showsF) .none kV39 dc39 pm39 an39 cd39 ct39), sl39⟩) (c39 : PySem.W.codeIn K cd39 "_law_e_shows" = true) (k39 : PySem.W.keepIn K (.ref f39) = true)
  (a40 : PySem.W.nsIn K mainGlobals "law" = some (some (.ref f40))) (l40 : K.lookup f40 = some ⟨oc40, od40, .func (PySem.W.fnOf "law" "law" (defArgs s_lawX) (defBody s_lawX) (defScope s_lawX) .none kV40 dc40 pm40 an40 cd40 ct40), sl40⟩) (c40 : PySem.W.codeIn K cd40 "law" = true) (k40 : PySem.W.keepIn K (.ref f40) = true)
  (n0 : PySem.W.nsIn K mainGlobals "MOST_LETTERS" = some (some (.int 8 t0)))
  (n1 : PySem.W.nsIn K mainGlobals "BOXES" = some (some (.int 0 t1)))
  (n2 : PySem.W.nsIn K mainGlobals "SCRIPTS" = some (some (.int 1 t2)))
  (n3 : PySem.W.nsIn K mainGlobals "PLACES" = some (some (.int 0 t3)))
  (n4 : PySem.W.nsIn K mainGlobals "NUMBERS" = some (some (.int 1 t4)))
  (n5 : PySem.W.nsIn K mainGlobals "MOST_BOXES" = some (some (.int 6 t5)))
  (n6 : PySem.W.nsIn K mainGlobals "MOST_SCRIPTS" = some (some (.int 4 t6)))
  (n7 : PySem.W.nsIn K mainGlobals "MOST_DEEDS" = some (some (.int 30 t7)))
  (n8 : PySem.W.nsIn K mainGlobals "MOST_NUMBER" = some (some (.int 9 t8)))
  (n9 : PySem.W.nsIn K mainGlobals "MOST_PHASES" = some (some (.int 15 t9)))
  (n10 : PySem.W.nsIn K mainGlobals "MOST_STANDS" = some (some (.int 3000 t10)))
  (z0 : PySem.W.nsIn K mainGlobals "isinstance" = some none)
  (z1 : PySem.W.nsIn K mainGlobals "int" = some none)
  (z2 : PySem.W.nsIn K mainGlobals "bool" = some none)
  (z3 : PySem.W.nsIn K mainGlobals "str" = some none)
  (z4 : PySem.W.nsIn K mainGlobals "tuple" = some none)
  (z5 : PySem.W.nsIn K mainGlobals "list" = some none)
  (z6 : PySem.W.nsIn K mainGlobals "len" = some none)
  (z7 : PySem.W.nsIn K mainGlobals "all" = some none)
  (z8 : PySem.W.nsIn K mainGlobals "sum" = some none)
  (z9 : PySem.W.nsIn K mainGlobals "range" = some none)
  (z10 : PySem.W.nsIn K mainGlobals "enumerate" = some none)
  (z11 : PySem.W.nsIn K mainGlobals "sorted" = some none)
  (z12 : PySem.W.nsIn K mainGlobals "min" = some none)
  (z13 : PySem.W.nsIn K mainGlobals "any" = some none)
  (z14 : PySem.W.nsIn K mainGlobals "zip" = some none)
  (z15 : PySem.W.nsIn K mainGlobals "max" = some none)
  (z16 : PySem.W.nsIn K mainGlobals "dict" = some none)
  (hcd : cd27 = .ref cc) (hhd : PySem.W.codeHdIn K cc tb = true) :
  (∃ c, PySem.W.codeHdIn K c tb = true) ∧ ∃ fd : FuncData, (∀ (s : Shared) (v : Value), BindsTo s fd ⟨[v], []⟩ [("script", v)]) ∧ ∀ base : Heap, K.In base → base.Ns mainGlobals mg → BMain mg base → FnOk l.prog w K mg base CX0 10 fa fd ["script"] (spLaw tb K) := by
 have e := hfa.symm.trans (PySem.W.mg_of X G a40)
 cases e
 have T : Txt K mg := ⟨⟨_, PySem.W.mg_of X G n0⟩, ⟨_, PySem.W.mg_of X G n1⟩, ⟨_, PySem.W.mg_of X G n2⟩, ⟨_, PySem.W.mg_of X G n3⟩, ⟨_, PySem.W.mg_of X G n4⟩, ⟨_, PySem.W.mg_of X G n5⟩, ⟨_, PySem.W.mg_of X G n6⟩, ⟨_, PySem.W.mg_of X G n7⟩, ⟨_, PySem.W.mg_of X G n8⟩, ⟨_, PySem.W.mg_of X G n9⟩, ⟨_, PySem.W.mg_of X G n10⟩, PySem.W.mg_none_of X G z0, PySem.W.mg_none_of X G z1, PySem.W.mg_none_of X G z2, PySem.W.mg_none_of X G z3, PySem.W.mg_none_of X G z4, PySem.W.mg_none_of X G z5, PySem.W.mg_none_of X G z6, PySem.W.mg_none_of X G z7, PySem.W.mg_none_of X G z8, PySem.W.mg_none_of X G z9, PySem.W.mg_none_of X G z10, PySem.W.mg_none_of X G z11, PySem.W.mg_none_of X G z12, PySem.W.mg_none_of X G z13, PySem.W.mg_none_of X G z14, PySem.W.mg_none_of X G z15, PySem.W.mg_none_of X G z16⟩
 have A : Tops K mg cc := ⟨zqs X G a0 l0 c0 k0, zqs X G a1 l1 c1 k1, zqs X G a2 l2 c2 k2, zqs X G a3 l3 c3 k3, zqs X G a4 l4 c4 k4, zqs X G a5 l5 c5 k5, zqs X G a6 l6 c6 k6, zqs X G a7 l7 c7 k7, zqs X G a8 l8 c8 k8, zqs X G a9 l9 c9 k9, zqs X G a10 l10 c10 k10, zqs X G a11 l11 c11 k11, zqs X G a12 l12 c12 k12, zqs X G a13 l13 c13 k13, zqs X G a14 l14 c14 k14, zqs X G a15 l15 c15 k15, zqs X G a16 l16 c16 k16, zqs X G a17 l17 c17 k17, zqs X G a18 l18 c18 k18, zqs X G a19 l19 c19 k19, zqs X G a20 l20 c20 k20, zqs X G a21 l21 c21 k21, zqs X G a22 l22 c22 k22, zqs X G a23 l23 c23 k23, zqs X G a24 l24 c24 k24, zqs X G a25 l25 c25 k25, zqs X G a26 l26 c26 k26, def_ofC X G a27 l27 c27 k27 hcd, zqs X G a28 l28 c28 k28, zqs X G a29 l29 c29 k29, zqs X G a30 l30 c30 k30, zqs X G a31 l31 c31 k31, zqs X G a32 l32 c32 k32, zqs X G a33 l33 c33 k33, zqs X G a34 l34 c34 k34, zqs X G a35 l35 c35 k35, zqs X G a36 l36 c36 k36, zqs X G a37 l37 c37 k37, zqs X G a38 l38 c38 k38, zqs X G a39 l39 c39 k39, zqs X G a40 l40 c40 k40, T⟩
 refine ⟨⟨cc, hhd⟩, PySem.W.fnOf "law" "law" (defArgs s_lawX) (defBody s_lawX) (defScope s_lawX) .none kV40 dc40 pm40 an40 cd40 ct40, fun s v => .of_eq rfl, fun base XB _ B => ?_⟩
 exact whole B (PySem.W.codeHd_of_K XB hhd) A (fun_mk (st := s_lawX) l40 c40 k40)
theorem walk {l : PySem.W.OpenLaw} {tb : Addr} {q : Program} {loose : List Str} {XP : (Str → Option Value) → Heap → Prop} {YP : World → Heap → Prop} {d : DefRec} {K : Params → PySem.W.Frag} (hn : l.most = some 63) (hdf : d.params.defaults = [])
  (hY : ∀ (w : World) (h : Heap), YP w h → (K w.params).In h ∧ h.get? tb = some (PySem.W.tabObj #[]))
  (F : ∀ (w : World) (mg : Str → Option Value) (fa : Addr) (h : Heap), (K w.params).In h → h.Ns mainGlobals mg → mg d.name = some (.ref fa) →
   (∃ c, PySem.W.codeHdIn (K w.params) c tb = true) ∧ ∃ fd : FuncData, (∀ (s : Shared) (u : Value), BindsTo s fd ⟨[u], []⟩ [("script", u)]) ∧ ∀ base : Heap, (K w.params).In base → base.Ns mainGlobals mg → BMain mg base → FnOk l.prog w (K w.params) mg base CX0 10 fa fd ["script"] (spLaw tb (K w.params)))
  (hKT : ∀ w : World, (K w.params).lookup tb = none) :
  PySem.W.WalkO q loose XP YP l.row.toRowW d [] (fun f vs => PySem.call f vs) :=
 L2.walk_ofT (n := 63) (k := 10) (x := "script") (CX := fun _ => CX0) (sp := fun w => spLaw tb (K w.params)) hn (by decide) hdf ⟨rfl, by decide, by decide⟩ hY hKT F (fun _ _ a ns hl hT hS => ⟨a, ns, rfl, hS, hl, TbOk.first hT, fun _ => rfl⟩) fun _ _ _ _ _ z => z
end
end My
-- the names of quick twins that the head would else make (of its heaps, its trees, the program): taken here, the head goes on without them, and the text compiles to less
def PySem.W.Fast.tw16574647055527621108 : Nat := 0
def PySem.W.Fast.tw11365055825718923958 : Nat := 0
def PySem.W.Fast.tw4413941380746763624 : Nat := 0
def PySem.W.Fast.tw13687693549285651762 : Nat := 0
def PySem.W.Fast.tw8668347574076023465 : Nat := 0
def PySem.W.Fast.tw11618142382423381429 : Nat := 0
def PySem.W.Fast.tw12607650397291889723 : Nat := 0
def PySem.W.Fast.tw4738695982859824264 : Nat := 0
def PySem.W.Fast.tw2451961670828028348 : Nat := 0
def PySem.W.Fast.tw2868075379525716151 : Nat := 0
def PySem.W.Fast.tw6765803217578809974 : Nat := 0
def PySem.W.Fast.tw14918516089603377364 : Nat := 0
def PySem.W.Fast.tw16790368495792788771 : Nat := 0
def PySem.W.Fast.tw11960834114004376633 : Nat := 0
def PySem.W.Fast.tw17513589740628201473 : Nat := 0
def PySem.W.Fast.tw5395657148345763023 : Nat := 0
def PySem.W.Fast.tw17990622746862454850 : Nat := 0
def PySem.W.Fast.tw1940307172500586400 : Nat := 0
def PySem.W.Fast.tw11604535757240152573 : Nat := 0
def PySem.W.Fast.tw17380961322409966096 : Nat := 0
def PySem.W.Fast.tw191554595687263684 : Nat := 0
def PySem.W.Fast.tw16500505756967899417 : Nat := 0
def PySem.W.Fast.tw4532210146123473468 : Nat := 0
def PySem.W.Fast.tw488001408581412572 : Nat := 0
def PySem.W.Fast.tw10029092758320778366 : Nat := 0
def PySem.W.Fast.tw12650185855777558069 : Nat := 0
def PySem.W.Fast.tw16049008320632551387 : Nat := 0
def PySem.W.Fast.tw6973896251270826017 : Nat := 0
def PySem.W.Fast.tw16982310546409240442 : Nat := 0
def PySem.W.Fast.tw6461363460805572664 : Nat := 0
def PySem.W.Fast.tw16955808091804843798 : Nat := 0
def PySem.W.Fast.tw7558477519782366877 : Nat := 0
def PySem.W.Fast.tw9741422076867336038 : Nat := 0
def PySem.W.Fast.tw15448958167783195156 : Nat := 0
def PySem.W.Fast.tw15776849152708250210 : Nat := 0
def PySem.W.Fast.tw16358376941543964881 : Nat := 0
def PySem.W.Fast.tw6500420004017463286 : Nat := 0
def PySem.W.Fast.tw10017386675414774672 : Nat := 0
def PySem.W.Fast.tw1480061782916770588 : Nat := 0
def PySem.W.Fast.tw4503521242018994081 : Nat := 0
def PySem.W.Fast.tw2369082766522418422 : Nat := 0
def PySem.W.Fast.tw11434555022299849402 : Nat := 0
def PySem.W.Fast.tw3189365125972678508 : Nat := 0
def PySem.W.Fast.tw769937420055993771 : Nat := 0
def PySem.W.Fast.tw7933560626718405266 : Nat := 0
def PySem.W.Fast.tw3861738133395045359 : Nat := 0
def PySem.W.Fast.tw1609333003343518398 : Nat := 0
def PySem.W.Fast.tw2841199701850234137 : Nat := 0
def PySem.W.Fast.tw4053436667247503396 : Nat := 0
def PySem.W.Fast.tw13299229862007915409 : Nat := 0
def PySem.W.Fast.tw10397234278569337511 : Nat := 0
def PySem.W.Fast.tw7437729754490037835 : Nat := 0
def PySem.W.Fast.tw17261210321775447670 : Nat := 0
def PySem.W.Fast.tw17536046317025801479 : Nat := 0
def PySem.W.Fast.tw12340014714830415475 : Nat := 0
def PySem.W.Fast.tw1380056884050022268 : Nat := 0
def PySem.W.Fast.tw11992032666056215331 : Nat := 0
def PySem.W.Fast.tw12297080992370256640 : Nat := 0
def PySem.W.Fast.tw1038973202859174249 : Nat := 0
def PySem.W.Fast.tw5756847878890923155 : Nat := 0
def PySem.W.Fast.tw3188955715108401191 : Nat := 0
def PySem.W.Fast.tw2703151721690136929 : Nat := 0
def PySem.W.Fast.tw8997756220359194764 : Nat := 0
def PySem.W.Fast.tw4930118148046831472 : Nat := 0
def PySem.W.Fast.tw3607947217227052730 : Nat := 0
def PySem.W.Fast.tw18087939537452602423 : Nat := 0
def PySem.W.Fast.tw1372368730849873777 : Nat := 0
def PySem.W.Fast.tw8277883496768803380 : Nat := 0
def PySem.W.Fast.tw1149833385540318721 : Nat := 0
def PySem.W.Fast.tw15521926182905477139 : Nat := 0
def PySem.W.Fast.tw5926549728158544086 : Nat := 0
def PySem.W.Fast.tw5275948296510997889 : Nat := 0
def PySem.W.Fast.tw15103648471567467544 : Nat := 0
def PySem.W.Fast.tw3382377979068810381 : Nat := 0
def PySem.W.Fast.tw16236103127334692534 : Nat := 0
def PySem.W.Fast.tw3196009855378974082 : Nat := 0
def PySem.W.Fast.tw11923066500773631913 : Nat := 0
def PySem.W.Fast.tw12380225197147587323 : Nat := 0
def PySem.W.Fast.tw14815626467554607100 : Nat := 0
def PySem.W.Fast.tw11768850489102426397 : Nat := 0
def PySem.W.Fast.tw14743048050349319672 : Nat := 0
def PySem.W.Fast.tw18184485973752532809 : Nat := 0
def PySem.W.Fast.tw13036925856063020320 : Nat := 0
def PySem.W.Fast.tw7281126828877286907 : Nat := 0
def PySem.W.Fast.tw11010773800412137977 : Nat := 0
def PySem.W.Fast.tw12864852097637846699 : Nat := 0
def PySem.W.Fast.tw10877916635817094625 : Nat := 0
def PySem.W.Fast.tw9001983597896278568 : Nat := 0
def PySem.W.Fast.tw12065414380172517053 : Nat := 0
def PySem.W.Fast.tw9955871684379995560 : Nat := 0
def PySem.W.Fast.tw14044647805480144118 : Nat := 0
def PySem.W.Fast.tw13712070780655294473 : Nat := 0
def PySem.W.Fast.tw12117013906688718842 : Nat := 0
def PySem.W.Fast.tw13361412003266200278 : Nat := 0
def PySem.W.Fast.tw16972202404817910754 : Nat := 0
def PySem.W.Fast.tw16697093393786494155 : Nat := 0
def PySem.W.Fast.tw6335258745842104986 : Nat := 0
def PySem.W.Fast.tw6293416784958040065 : Nat := 0
def PySem.W.Fast.tw12210591523621630791 : Nat := 0
def PySem.W.Fast.tw9858600294411825251 : Nat := 0
def PySem.W.Fast.tw3351832252653261935 : Nat := 0
def PySem.W.Fast.tw15848836867200195795 : Nat := 0
def PySem.W.Fast.tw17299485135253407434 : Nat := 0
def PySem.W.Fast.tw9958140763682395463 : Nat := 0
def PySem.W.Fast.tw17133453915913690984 : Nat := 0
def PySem.W.Fast.tw8822978864226125210 : Nat := 0
def PySem.W.Fast.tw12859385229211705035 : Nat := 0
def PySem.W.Fast.tw457788559314812933 : Nat := 0
def PySem.W.Fast.tw9109799504674715878 : Nat := 0
def PySem.W.Fast.tw4668984481924223477 : Nat := 0
def PySem.W.Fast.tw7050954107701622396 : Nat := 0
def PySem.W.Fast.tw617796405052134414 : Nat := 0
def PySem.W.Fast.tw10219935534333392807 : Nat := 0
def PySem.W.Fast.tw18019454728194803683 : Nat := 0
def PySem.W.Fast.tw4851208564535283299 : Nat := 0
def PySem.W.Fast.tw15683845652699137914 : Nat := 0
def PySem.W.Fast.tw10209504080422609799 : Nat := 0
def PySem.W.Fast.tw14705943702026466153 : Nat := 0
def PySem.W.Fast.tw5845522054229673132 : Nat := 0
def PySem.W.Fast.tw17836034041853178639 : Nat := 0
def PySem.W.Fast.tw10145391117522049355 : Nat := 0
def PySem.W.Fast.tw7989825197071713022 : Nat := 0
def PySem.W.Fast.tw2859410832517832594 : Nat := 0
def PySem.W.Fast.tw9982645531727023318 : Nat := 0
def PySem.W.Fast.tw169542097718667724 : Nat := 0
def PySem.W.Fast.tw11921606206360056341 : Nat := 0
def PySem.W.Fast.tw17285616890789409074 : Nat := 0
def PySem.W.Fast.tw17170377435798536099 : Nat := 0
def PySem.W.Fast.tw5791253619272327996 : Nat := 0
def PySem.W.Fast.tw5540249814049099248 : Nat := 0
def PySem.W.Fast.tw2606354645285834257 : Nat := 0
def PySem.W.Fast.tw5439835788094173731 : Nat := 0
def PySem.W.Fast.tw16646922601362608681 : Nat := 0
def PySem.W.Fast.tw16793879337455109901 : Nat := 0
def PySem.W.Fast.tw13773177373750848648 : Nat := 0
def PySem.W.Fast.tw8683700770145292332 : Nat := 0
def PySem.W.Fast.tw12307010865989700112 : Nat := 0
def PySem.W.Fast.tw15699401747777373236 : Nat := 0
def PySem.W.Fast.tw8185146495227744733 : Nat := 0
def PySem.W.Fast.tw2274149349210638067 : Nat := 0
def PySem.W.Fast.tw393264484820803596 : Nat := 0
def PySem.W.Fast.tw13173965945810082008 : Nat := 0
def PySem.W.Fast.tw9592162929862700351 : Nat := 0
def PySem.W.Fast.tw11298228334553200499 : Nat := 0
def PySem.W.Fast.tw13397858666722223078 : Nat := 0
def PySem.W.Fast.tw2454678371184553356 : Nat := 0
def PySem.W.Fast.tw11303192538832750619 : Nat := 0
def PySem.W.Fast.tw16300710220229800218 : Nat := 0
def PySem.W.Fast.tw10813465427802015434 : Nat := 0
open PySem PySem.W PyProof.Rows
set_option maxRecDepth 100000 in
set_option maxHeartbeats 0 in
theorem PySem.Challenge.cw_meetwall_k65_whole_loose_ones_of_kinds_holds : PySem.Challenge.rw_meetwall_k65_whole_loose_ones_of_kinds.Holds := by
 w_on; o_law; k_head; (case hw => w_witness2)
 k_fill
 refine My.walk (l := PySem.Challenge.rw_meetwall_k65_whole_loose_ones_of_kinds) rfl rfl (fun w h Y => ⟨PySem.W.km_in_of Y, PySem.W.km_tabs_of Y _ List.mem_cons_self⟩) ?F ?KT
 case KT => intro w; first | kernel_rfl | k_is
 case F =>
  intro w mg fa h KX G hmg
  refine' My.all_mk KX G hmg ?a0 ?l0 ?c0 ?k0 ?a1 ?l1 ?c1 ?k1 ?a2 ?l2 ?c2 ?k2 ?a3 ?l3 ?c3 ?k3 ?a4 ?l4 ?c4 ?k4 ?a5 ?l5 ?c5 ?k5 ?a6 ?l6 ?c6 ?k6 ?a7 ?l7 ?c7 ?k7 ?a8 ?l8 ?c8 ?k8 ?a9 ?l9 ?c9 ?k9 ?a10 ?l10 ?c10 ?k10 ?a11 ?l11 ?c11 ?k11 ?a12 ?l12 ?c12 ?k12 ?a13 ?l13 ?c13 ?k13 ?a14 ?l14 ?c14 ?k14 ?a15 ?l15 ?c15 ?k15 ?a16 ?l16 ?c16 ?k16 ?a17 ?l17 ?c17 ?k17 ?a18 ?l18 ?c18 ?k18 ?a19 ?l19 ?c19 ?k19 ?a20 ?l20 ?c20 ?k20 ?a21 ?l21 ?c21 ?k21 ?a22 ?l22 ?c22 ?k22 ?a23 ?l23 ?c23 ?k23 ?a24 ?l24 ?c24 ?k24 ?a25 ?l25 ?c25 ?k25 ?a26 ?l26 ?c26 ?k26 ?a27 ?l27 ?c27 ?k27 ?a28 ?l28 ?c28 ?k28 ?a29 ?l29 ?c29 ?k29 ?a30 ?l30 ?c30 ?k30 ?a31 ?l31 ?c31 ?k31 ?a32 ?l32 ?c32 ?k32 ?a33 ?l33 ?c33 ?k33 ?a34 ?l34 ?c34 ?k34 ?a35 ?l35 ?c35 ?k35 ?a36 ?l36 ?c36 ?k36 ?a37 ?l37 ?c37 ?k37 ?a38 ?l38 ?c38 ?k38 ?a39 ?l39 ?c39 ?k39 ?a40 ?l40 ?c40 ?k40 ?n0 ?n1 ?n2 ?n3 ?n4 ?n5 ?n6 ?n7 ?n8 ?n9 ?n10 ?z0 ?z1 ?z2 ?z3 ?z4 ?z5 ?z6 ?z7 ?z8 ?z9 ?z10 ?z11 ?z12 ?z13 ?z14 ?z15 ?z16 ?hcd ?hhd
  (case a0 => k_is); (case l0 => k_is); (case c0 => k_is); (case k0 => k_is); (case a1 => k_is); (case l1 => k_is)
  (case c1 => k_is); (case k1 => k_is); (case a2 => k_is); (case l2 => k_is); (case c2 => k_is); (case k2 => k_is)
  (case a3 => k_is); (case l3 => k_is); (case c3 => k_is); (case k3 => k_is); (case a4 => k_is); (case l4 => k_is)
  (case c4 => k_is); (case k4 => k_is); (case a5 => k_is); (case l5 => k_is); (case c5 => k_is); (case k5 => k_is)
  (case a6 => k_is); (case l6 => k_is); (case c6 => k_is); (case k6 => k_is); (case a7 => k_is); (case l7 => k_is)
  (case c7 => k_is); (case k7 => k_is); (case a8 => k_is); (case l8 => k_is); (case c8 => k_is); (case k8 => k_is)
  (case a9 => k_is); (case l9 => k_is); (case c9 => k_is); (case k9 => k_is); (case a10 => k_is); (case l10 => k_is)
  (case c10 => k_is); (case k10 => k_is); (case a11 => k_is); (case l11 => k_is); (case c11 => k_is); (case k11 => k_is)
  (case a12 => k_is); (case l12 => k_is); (case c12 => k_is); (case k12 => k_is); (case a13 => k_is); (case l13 => k_is)
  (case c13 => k_is); (case k13 => k_is); (case a14 => k_is); (case l14 => k_is); (case c14 => k_is); (case k14 => k_is)
  (case a15 => k_is); (case l15 => k_is); (case c15 => k_is); (case k15 => k_is); (case a16 => k_is); (case l16 => k_is)
  (case c16 => k_is); (case k16 => k_is); (case a17 => k_is); (case l17 => k_is); (case c17 => k_is); (case k17 => k_is)
  (case a18 => k_is); (case l18 => k_is); (case c18 => k_is); (case k18 => k_is); (case a19 => k_is); (case l19 => k_is)
  (case c19 => k_is); (case k19 => k_is); (case a20 => k_is); (case l20 => k_is); (case c20 => k_is); (case k20 => k_is)
  (case a21 => k_is); (case l21 => k_is); (case c21 => k_is); (case k21 => k_is); (case a22 => k_is); (case l22 => k_is)
  (case c22 => k_is); (case k22 => k_is); (case a23 => k_is); (case l23 => k_is); (case c23 => k_is); (case k23 => k_is)
  (case a24 => k_is); (case l24 => k_is); (case c24 => k_is); (case k24 => k_is); (case a25 => k_is); (case l25 => k_is)
  (case c25 => k_is); (case k25 => k_is); (case a26 => k_is); (case l26 => k_is); (case c26 => k_is); (case k26 => k_is)
  (case a27 => k_is); (case l27 => k_is); (case c27 => k_is); (case k27 => k_is); (case a28 => k_is); (case l28 => k_is)
  (case c28 => k_is); (case k28 => k_is); (case a29 => k_is); (case l29 => k_is); (case c29 => k_is); (case k29 => k_is)
  (case a30 => k_is); (case l30 => k_is); (case c30 => k_is); (case k30 => k_is); (case a31 => k_is); (case l31 => k_is)
  (case c31 => k_is); (case k31 => k_is); (case a32 => k_is); (case l32 => k_is); (case c32 => k_is); (case k32 => k_is)
  (case a33 => k_is); (case l33 => k_is); (case c33 => k_is); (case k33 => k_is); (case a34 => k_is); (case l34 => k_is)
  (case c34 => k_is); (case k34 => k_is); (case a35 => k_is); (case l35 => k_is); (case c35 => k_is); (case k35 => k_is)
  (case a36 => k_is); (case l36 => k_is); (case c36 => k_is); (case k36 => k_is); (case a37 => k_is); (case l37 => k_is)
  (case c37 => k_is); (case k37 => k_is); (case a38 => k_is); (case l38 => k_is); (case c38 => k_is); (case k38 => k_is)
  (case a39 => k_is); (case l39 => k_is); (case c39 => k_is); (case k39 => k_is); (case a40 => k_is); (case l40 => k_is)
  (case c40 => k_is); (case k40 => k_is); (case n0 => k_is); (case n1 => k_is); (case n2 => k_is); (case n3 => k_is)
  (case n4 => k_is); (case n5 => k_is); (case n6 => k_is); (case n7 => k_is); (case n8 => k_is); (case n9 => k_is)
  (case n10 => k_is); (case z0 => k_is); (case z1 => k_is); (case z2 => k_is); (case z3 => k_is); (case z4 => k_is)
  (case z5 => k_is); (case z6 => k_is); (case z7 => k_is); (case z8 => k_is); (case z9 => k_is); (case z10 => k_is)
  (case z11 => k_is); (case z12 => k_is); (case z13 => k_is); (case z14 => k_is); (case z15 => k_is); (case z16 => k_is)
  (case hcd => exact rfl); (case hhd => first | kernel_rfl | k_is)

import PyProof.Rows.All
import Wide.All
import OpenK.AllK
import Wide.FinOn
import Lean
import PyProof.EqAt
import PyProof.EqKinds
import PyProof.TupleCall
import PyProof.TupleKey
import PyProof.DictFindH
import PyProof.NeData
import PyProof.ListRange
import PyProof.ZipIter
import PyProof.Rows.CallKwBuiltin
import PyProof.MinMaxWalk
import KE.KSortTup
import PyProof.MeetsStr
import PyProof.MeetsStr2
import PyProof.StrCalls
import PyProof.StrCalls2
import PyProof.FString
import KE.KIntText
import KE.KDictSum
import PyProof.StrLawsTight
import PyProof.StrLawsChain
import PyProof.StrLawsFirst
import PyProof.StrLawsJoin
import PyProof.StrLawsIn
import PySem.Challenge.RW_meetwall_k66_houses_shown_and_read
set_option Elab.async false
set_option linter.all false
set_option maxRecDepth 100000
set_option maxHeartbeats 4000000
noncomputable section
namespace L2
open PySem PySem.Spec PyProof.Rows
abbrev Key := Sum Int Str
noncomputable def keyIs : Key → Value → Bool
 | .inl k, v => Value.isInt k v
 | .inr x, v => Value.isStrOf x v
noncomputable def keyH (w : World) : Key → Int
 | .inl k => hashInt k
 | .inr x => hashStr w x
theorem keyIs_shape : ∀ {k : Key} {v : Value}, keyIs k v = true → (∃ i t, k = Sum.inl i ∧ v = Value.int i t) ∨ (∃ x t, k = Sum.inr x ∧ v = Value.str x t)
 | .inl i, v, h => by
   obtain ⟨t, e⟩ := Value.isInt_shape (k := i) (v := v) h
   exact .inl ⟨i, t, rfl, e⟩
 | .inr x, v, h => by
   obtain ⟨t, e⟩ := Value.isStrOf_shape (x := x) (v := v) h
   exact .inr ⟨x, t, rfl, e⟩
theorem keyIs_int (i : Int) (t : Tok) : keyIs (.inl i) (.int i t) = true := by simp [keyIs, Value.isInt]
theorem keyIs_str (x : Str) (t : Tok) : keyIs (.inr x) (.str x t) = true := by simp [keyIs, Value.isStrOf]
theorem key_ll (a b : Int) : decide ((Sum.inl a : Key) = Sum.inl b) = (a == b) := by
 by_cases e : a = b
 · subst e; simp
 · have h : ¬ (Sum.inl a : Key) = Sum.inl b := fun q => e (Sum.inl.inj q)
   rw [decide_eq_false h]
   exact (beq_eq_false_iff_ne.mpr e).symm
theorem key_rr (a b : Str) : decide ((Sum.inr a : Key) = Sum.inr b) = decide (a = b) := by
 by_cases e : a = b
 · subst e; simp
 · have h : ¬ (Sum.inr a : Key) = Sum.inr b := fun q => e (Sum.inr.inj q)
   rw [decide_eq_false h, decide_eq_false e]
theorem key_lr (a : Int) (b : Str) : decide ((Sum.inl a : Key) = Sum.inr b) = false := decide_eq_false (fun q => nomatch q)
theorem key_rl (a : Str) (b : Int) : decide ((Sum.inr a : Key) = Sum.inl b) = false := decide_eq_false (fun q => nomatch q)
noncomputable def mixKind (prog : Program) (w : World) : PySem.KeyKind prog w Key where
 is := keyIs
 hash := keyH w
 inj := fun v a b ha hb => by
  rcases keyIs_shape ha with ⟨i, t, rfl, rfl⟩ | ⟨x, t, rfl, rfl⟩
  · rcases keyIs_shape hb with ⟨j, u, rfl, e⟩ | ⟨y, u, rfl, e⟩
    · injection e with e1 _; rw [e1]
    · exact nomatch e
  · rcases keyIs_shape hb with ⟨j, u, rfl, e⟩ | ⟨y, u, rfl, e⟩
    · exact nomatch e
    · injection e with e1 _; rw [e1]
 byValue := fun k v h => by
  rcases keyIs_shape h with ⟨i, t, rfl, rfl⟩ | ⟨x, t, rfl, rfl⟩ <;> rfl
 pyHash := fun hv h => by
  rcases keyIs_shape hv with ⟨i, t, rfl, rfl⟩ | ⟨x, t, rfl, rfl⟩
  · exact wpAny_pyHash_int h
  · exact wpAny_pyHash_str h
 eqBool := fun hu hv h => by
  rcases keyIs_shape hu with ⟨i, t, rfl, rfl⟩ | ⟨x, t, rfl, rfl⟩
  · rcases keyIs_shape hv with ⟨j, u, rfl, rfl⟩ | ⟨y, u, rfl, rfl⟩
    · rw [key_ll] at h; exact wpAny_eqBool_int h
    · rw [key_lr] at h; exact SeqAt.EqAt.int_str i t y u _ _ _ _ h
  · rcases keyIs_shape hv with ⟨j, u, rfl, rfl⟩ | ⟨y, u, rfl, rfl⟩
    · rw [key_rl] at h; exact SeqAt.EqAt.str_int x t j u _ _ _ _ h
    · rw [key_rr] at h; exact wpAny_eqBool_str h
 «strs» := fun k x t v h => by
  rcases keyIs_shape h with ⟨i, u, rfl, e⟩ | ⟨y, u, rfl, e⟩
  · exact nomatch e
  · injection e with e1 _
    subst e1
    cases v <;> rfl
theorem mixKind_int (prog : Program) (w : World) (i : Int) (t : Tok) : (mixKind prog w).is (.inl i) (.int i t) = true := keyIs_int i t
theorem mixKind_str (prog : Program) (w : World) (x : Str) (t : Tok) : (mixKind prog w).is (.inr x) (.str x t) = true := keyIs_str x t
inductive V where
 | non | bl (b : Bool) | int (i : Int) | str (x : Str) | byt (b : Array UInt8) | flt (b : UInt64) | ref (a : Addr) | ty (n : String)
 deriving DecidableEq
noncomputable def RelV : V → Value → Prop
 | .non, u => u = Value.none
 | .bl b, u => u = Value.bool b
 | .int i, u => ∃ t, u = Value.int i t
 | .str x, u => ∃ t, u = Value.str x t
 | .byt b, u => ∃ t, u = Value.bytes b t
 | .flt b, u => ∃ t, u = Value.float b t
 | .ref a, u => u = Value.ref a
 | .ty n, u => u = Value.type n
abbrev Vals : List V → List Value → Prop := Paired RelV
theorem Vals.length {xs : List V} {us : List Value} (r : Vals xs us) : xs.length = us.length := Paired.length r
theorem Vals.get : ∀ {xs : List V} {us : List Value} {i : Nat} {x : V}, Vals xs us → xs[i]? = some x → ∃ u, us[i]? = some u ∧ RelV x u
 | _, _, _, _, .nil, e => by simp at e
 | _, _, 0, _, .cons r _, e => by simp at e; subst e; exact ⟨_, rfl, r⟩
 | _, _, i + 1, x, .cons _ t, e => by
   obtain ⟨u, h1, h2⟩ := Vals.get (i := i) (x := x) t (by simpa using e)
   exact ⟨u, by simpa using h1, h2⟩
theorem Vals.set {x : V} {u : Value} (r : RelV x u) : ∀ {xs : List V} {us : List Value} (i : Nat), Vals xs us → Vals (xs.set i x) (us.set i u)
 | _, _, _, .nil => .nil
 | _, _, 0, .cons _ t => .cons r t
 | _, _, i + 1, .cons q t => .cons q (Vals.set r i t)
theorem Vals.append : ∀ {xs ys : List V} {us ws : List Value}, Vals xs us → Vals ys ws → Vals (xs ++ ys) (us ++ ws)
 | _, _, _, _, .nil, s => s
 | _, _, _, _, .cons r t, s => .cons r (Vals.append t s)
theorem Vals.take : ∀ {xs : List V} {us : List Value} (n : Nat), Vals xs us → Vals (xs.take n) (us.take n)
 | _, _, 0, _ => .nil
 | _, _, _ + 1, .nil => .nil
 | _, _, n + 1, .cons r t => .cons r (Vals.take n t)
theorem Vals.drop : ∀ {xs : List V} {us : List Value} (n : Nat), Vals xs us → Vals (xs.drop n) (us.drop n)
 | _, _, 0, r => r
 | _, _, _ + 1, .nil => .nil
 | _, _, n + 1, .cons _ t => Vals.drop n t
noncomputable def RelO : Option V → Option Value → Prop
 | some v, some u => RelV v u
 | none, none => True
 | _, _ => False
noncomputable def KV {κ : Type} : List (κ × V) → List (κ × Value) → Prop := Paired fun (p : κ × V) (q : κ × Value) => p.1 = q.1 ∧ RelV p.2 q.2
noncomputable def kV : Key → V
 | .inl i => .int i
 | .inr x => .str x
inductive HO where
 | lst (xs : List V)
 | tup (xs : List V)
 | dK (kvs : List (Key × V)) | dT (kvs : List (List Key × V))
 | set (S : Int → Bool) (n : Nat)
 | ins (C dx : Addr) (fs : List (Str × V))
 | own (x : Addr)
 | xd (fs : List (Str × V))
 | met (f x : Addr)
 | rng (lo hi : Int)
 | frz (o : Obj) (u : HO)
 | tbl (ps : Array Value)
 | ext (φ : Heap → Prop)
abbrev Hp := Addr → Option HO
noncomputable def upd (H : Hp) (a : Addr) (o : HO) : Hp := fun b => if b = a then some o else H b
theorem upd_same {H : Hp} {a : Addr} {o : HO} : upd H a o a = some o := by unfold upd; rw [if_pos rfl]
theorem upd_ne {H : Hp} {a b : Addr} {o : HO} (h : b ≠ a) : upd H a o b = H b := by unfold upd; rw [if_neg h]
theorem ne_of {H : Hp} {a b : Addr} {o u : HO} (h : H a = some o) (h' : H b = some u) (d : o ≠ u) : a ≠ b := by
 intro e; subst e; rw [h] at h'; exact d (Option.some.inj h')
theorem ne_of_none {H : Hp} {a b : Addr} {o : HO} (h : H a = some o) (h' : H b = none) : a ≠ b := by
 intro e; subst e; rw [h] at h'; cases h'
noncomputable def NoD (h : Heap) (a : Addr) : Prop := ∀ o, h.get? a = some o → o.dict = none
theorem NoD.of {h h' : Heap} {a : Addr} {o : Obj} (n : NoD h a) (e : h.get? a = some o) (e' : h'.get? a = some o) : NoD h' a := fun q hq => by rw [e'] at hq; cases hq; exact n o e
theorem NoD.push {h : Heap} {c : Value} {d : Data} {sl : Array (Option Value)} : NoD (h.push { cls := c, dict := none, data := d, slots := sl }) h.objs.size := fun q hq => by
 have e : (h.push { cls := c, dict := none, data := d, slots := sl }).get? h.objs.size = some q := hq
 cases hf : ({ cls := c, dict := none, data := d, slots := sl } : Obj).isFreed with
 | false => rw [Heap.get?_push_size _ hf] at e; cases e; rfl
 | true =>
   simp [Heap.get?, Heap.push, hf] at e
   split at e
   · cases e
   · cases e; rfl
section
variable (P : Program) (w : World)
noncomputable def ObjOk (H : Hp) (h : Heap) (a : Addr) : HO → Prop
 | .lst xs => xs.length ≤ sizeLine ∧ ∃ (its : List Value) (n : Nat), Vals xs its ∧ h.get? a = some { cls := .type "list", data := .seq its.toArray n }
 | .tup xs => xs.length ≤ sizeLine ∧ ∃ its : List Value, Vals xs its ∧ IsTup h a its.toArray ∧ NoD h a
 | .dK kvs => kvs.length ≤ sizeLine ∧ (a == sysModules) = false ∧ ∃ vs, KV kvs vs ∧ h.DictOf (mixKind P w) a vs
 | .dT kvs => kvs.length ≤ sizeLine ∧ (a == sysModules) = false ∧ ∃ xs : List (List Key × Addr × Value),
  Paired (fun (p : List Key × V) (q : List Key × Addr × Value) => p.1 = q.1 ∧ H q.2.1 = some (.tup (p.1.map kV)) ∧ RelV p.2 q.2.2) kvs xs ∧
  ∃ o es ep, h.get? a = some o ∧ o.ExactDict ∧ o.data = .dict es ep ∧ es.toList = xs.map (entryOfKey (tupleKind (mixKind P w))) ∧ (xs.map (·.1)).Nodup
 | .set S n => h.SetOf (intKind P w) a S n
 | .ins C dx fs => H dx = some (.own a) ∧ fs.length ≤ 1000 ∧ dx ≠ a ∧ h.get? a = some (PySem.W.instObj C dx) ∧
  ∃ mA, h.Ns1 dx mA ∧ (∀ f, RelO (fs.lookup f) (mA f)) ∧ PySem.Within mA (fs.map (·.1))
 | .own _ => ∃ o, h.get? a = some o
 | .xd fs => ∃ mA, h.Ns1 a mA ∧ ∀ f, RelO (fs.lookup f) (mA f)
 | .rng lo hi => ∃ t u v, h.get? a = some { cls := .type "range", data := .fields #[.int lo t, .int hi u, .int 1 v] }
 | .frz o u => h.get? a = some o ∧ ObjOk H h a u
 | .tbl ps => h.get? a = some { cls := .none, data := .fields ps }
 | .met f x => h.get? a = some (PySem.W.methodObj (.ref f) (.ref x))
 | .ext φ => φ h ∧ (∃ o, h.get? a = some o) ∧ ∀ h1 h2 : Heap, φ h1 → (∀ o, h1.get? a = some o → h2.get? a = some o) → φ h2
noncomputable def HOk (H : Hp) (h : Heap) : Prop := ∀ a o, H a = some o → ObjOk P w H h a o
end
section
variable {P : Program} {w : World} {H H' : Hp} {h h' : Heap} {a : Addr} {o : HO}
theorem ObjOk.lt (x : ObjOk P w H h a o) : a < h.objs.size := by
 cases o with
 | lst xs => obtain ⟨_, _, _, _, e⟩ := x; exact Heap.lt_size e
 | tup xs => obtain ⟨_, _, _, p, _⟩ := x; exact p.lt
 | dK kvs => obtain ⟨_, _, _, _, o, _, _, e, _⟩ := x; exact Heap.lt_size e
 | dT kvs => obtain ⟨_, _, _, _, o, _, _, e, _⟩ := x; exact Heap.lt_size e
 | set S n => obtain ⟨o, _, _, _, e, _⟩ := x; exact Heap.lt_size e
 | ins C dx fs => obtain ⟨_, _, _, e, _⟩ := x; exact Heap.lt_size e
 | own y => obtain ⟨_, e⟩ := x; exact Heap.lt_size e
 | xd fs => obtain ⟨_, ⟨_, _, _, e, _⟩, _⟩ := x; exact Heap.lt_size e
 | rng lo hi => obtain ⟨_, _, _, e⟩ := x; exact Heap.lt_size e
 | frz ob u => obtain ⟨e, _⟩ := x; exact Heap.lt_size e
 | tbl ps => exact Heap.lt_size (show h.get? a = some _ from x)
 | met f y => exact Heap.lt_size (show h.get? a = some _ from x)
 | ext φ => obtain ⟨_, ⟨_, e⟩, _⟩ := x; exact Heap.lt_size e
theorem Paired.mapP {α β : Type} {F G : α → β → Prop} : ∀ {l₁ : List α} {l₂ : List β}, Paired F l₁ l₂ → (∀ a b, F a b → G a b) → Paired G l₁ l₂
 | _, _, .nil, _ => .nil
 | _, _, .cons r t, f => .cons (f _ _ r) (Paired.mapP t f)
theorem ObjOk.stay (x : ObjOk P w H h a o) (k : ∀ b u, (b = a ∨ H b = some (.own a)) → h.get? b = some u → h'.get? b = some u)
  (ho : ∀ b, H b = some (.own a) → H' b = some (.own a)) (ht : ∀ b xs, H b = some (.tup xs) → H' b = some (.tup xs)) : ObjOk P w H' h' a o := by
 induction o with
 | lst xs => obtain ⟨z, its, n, r, e⟩ := x; exact ⟨z, its, n, r, k _ _ (.inl rfl) e⟩
 | tup xs => obtain ⟨z, its, r, ⟨ob, e, c⟩, nd⟩ := x; exact ⟨z, its, r, ⟨ob, k _ _ (.inl rfl) e, c⟩, nd.of e (k _ _ (.inl rfl) e)⟩
 | dK kvs => obtain ⟨z, y, vs, r, ob, es, ep, e, c⟩ := x; exact ⟨z, y, vs, r, ob, es, ep, k _ _ (.inl rfl) e, c⟩
 | dT kvs =>
   obtain ⟨z, y, xs, r, ob, es, ep, e, c⟩ := x
   exact ⟨z, y, xs, Paired.mapP r fun p q z => ⟨z.1, ht _ _ z.2.1, z.2.2⟩, ob, es, ep, k _ _ (.inl rfl) e, c⟩
 | set S n => obtain ⟨ob, es, ep, t, e, c⟩ := x; exact ⟨ob, es, ep, t, k _ _ (.inl rfl) e, c⟩
 | ins C dx fs =>
   obtain ⟨d, z, ne, e, mA, ⟨od, es, ep, e2, c⟩, r⟩ := x
   exact ⟨ho _ d, z, ne, k _ _ (.inl rfl) e, mA, ⟨od, es, ep, k _ _ (.inr d) e2, c⟩, r⟩
 | own y => obtain ⟨ob, e⟩ := x; exact ⟨ob, k _ _ (.inl rfl) e⟩
 | xd fs => obtain ⟨mA, ⟨od, es, ep, e, c⟩, r⟩ := x; exact ⟨mA, ⟨od, es, ep, k _ _ (.inl rfl) e, c⟩, r⟩
 | rng lo hi => obtain ⟨t, u, v, e⟩ := x; exact ⟨t, u, v, k _ _ (.inl rfl) e⟩
 | frz ob u ih => obtain ⟨e, q⟩ := x; exact ⟨k _ _ (.inl rfl) e, ih q⟩
 | tbl ps =>
   have e : h.get? a = some { cls := .none, data := .fields ps } := x
   show h'.get? a = some { cls := .none, data := .fields ps }
   exact k a _ (.inl rfl) e
 | met f y =>
   have e : h.get? a = some (PySem.W.methodObj (.ref f) (.ref y)) := x
   show h'.get? a = some (PySem.W.methodObj (.ref f) (.ref y))
   exact k a _ (.inl rfl) e
 | ext φ => obtain ⟨p, ⟨o, e⟩, st⟩ := x; exact ⟨st _ _ p fun o q => k _ _ (.inl rfl) q, ⟨o, k _ _ (.inl rfl) e⟩, st⟩
theorem HOk.lt (x : HOk P w H h) (e : H a = some o) : a < h.objs.size := (x a o e).lt
theorem HOk.fresh (x : HOk P w H h) (e : h.objs.size ≤ a) : H a = none := by
 cases q : H a with
 | none => rfl
 | some u => exact absurd (Nat.lt_of_lt_of_le (x.lt q) e) (Nat.lt_irrefl _)
theorem HOk.kept (x : HOk P w H h) (k : ∀ b u, h.get? b = some u → h'.get? b = some u) : HOk P w H h' := fun a o e =>
 (x a o e).stay (fun b u _ q => k b u q) (fun _ q => q) fun _ _ q => q
theorem HOk.laid (x : HOk P w H h) (k : ∀ b u, h.get? b = some u → h'.get? b = some u) (hp : h.objs.size ≤ a) (new : ObjOk P w (upd H a o) h' a o) : HOk P w (upd H a o) h' := fun b u e => by
 have hn := x.fresh hp
 by_cases hb : b = a
 · subst hb; rw [upd_same] at e; cases e; exact new
 · rw [upd_ne hb] at e
   exact (x b u e).stay (fun c v _ q => k c v q) (fun c q => by rw [upd_ne (ne_of_none q hn)]; exact q) fun c xs q => by rw [upd_ne (ne_of_none q hn)]; exact q
end
noncomputable def Rd (H : Hp) (a : Addr) (u : HO) : Prop := H a = some u ∨ ∃ o, H a = some (.frz o u)
theorem Rd.ok {P : Program} {w : World} {H : Hp} {h : Heap} {a : Addr} {u : HO} (r : Rd H a u) (x : HOk P w H h) : ObjOk P w H h a u := by
 rcases r with r | ⟨o, r⟩
 · exact x a u r
 · obtain ⟨_, q⟩ := x a _ r
   exact q
noncomputable def Mut : Option HO → Prop
 | some (.lst _) => True
 | some (.dK _) => True
 | some (.dT _) => True
 | some (.set _ _) => True
 | some (.ins _ _ _) => True
 | some (.ext _) => True
 | _ => False
section
variable {P : Program} {w : World} {H : Hp} {h h' : Heap} {x e : Addr} {o' : HO}
theorem HOk.write (ok : HOk P w H h) (mu : Mut (H x)) (he : e = x ∨ H e = some (.own x)) (k : ∀ b u, b ≠ e → h.get? b = some u → h'.get? b = some u) (heo : ∃ u, h'.get? e = some u)
  (new : ObjOk P w (upd H x o') h' x o') : HOk P w (upd H x o') h' := fun b u q => by
 have nown : ∀ c y, H c = some (.own y) → c ≠ x := fun c y r z => by subst z; rw [r] at mu; exact mu
 have ntup : ∀ c xs, H c = some (.tup xs) → c ≠ x := fun c xs r z => by subst z; rw [r] at mu; exact mu
 by_cases hb : b = x
 · subst hb; rw [upd_same] at q; cases q; exact new
 · rw [upd_ne hb] at q
   by_cases hbe : b = e
   · have q' : H b = some (.own x) := by
      rcases he with z | z
      · exact absurd (hbe.trans z) hb
      · rw [hbe]; exact z
     rw [q] at q'; cases q'
     obtain ⟨v, hv⟩ := heo
     exact ⟨v, by rw [hbe]; exact hv⟩
   · refine (ok b u q).stay (fun c v hc r => k c v ?_ r) (fun c r => by rw [upd_ne (nown c b r)]; exact r) fun c xs r => by rw [upd_ne (ntup c xs r)]; exact r
     rcases hc with rfl | hc
     · exact hbe
     · rintro rfl
       rcases he with z | z
       · exact nown c b hc z
       · rw [hc] at z; cases z; exact hb rfl
end
structure Un (fs ex : List Addr) (H H' : Hp) (h h' : Heap) : Prop where
 keep : ∀ b o, h.get? b = some o → H b = none → b ∉ fs → b ∉ ex → h'.get? b = some o
 slot : ∀ b o, h.get? b = some o → H b = none → b ∈ fs → b ∉ ex → ∃ sl, h'.get? b = some { o with slots := sl }
 free : ∀ b o, h.get? b = some o → H b = none → b ∉ ex → H' b = none
 there : ∀ b o, h.get? b = some o → b ∉ ex → ∃ o', h'.get? b = some o'
 tups : ∀ b xs, H b = some (.tup xs) → H' b = some (.tup xs)
 frzs : ∀ b o u, H b = some (.frz o u) → H' b = some (.frz o u)
 tbls : ∀ b ps, H b = some (.tbl ps) → ∃ more, H' b = some (.tbl (ps ++ more))
section
variable {fs fs' ex ex' : List Addr} {H H1 H2 : Hp} {h h1 h2 h' : Heap} {a x e : Addr} {o : HO}
theorem Un.any (u : Un fs ex H H1 h h1) {b : Addr} {ob : Obj} (q : h.get? b = some ob) (n : H b = none) (hx : b ∉ ex) : ∃ sl, h1.get? b = some { ob with slots := sl } := by
 by_cases hb : b ∈ fs
 · exact u.slot b ob q n hb hx
 · exact ⟨ob.slots, u.keep b ob q n hb hx⟩
theorem Un.kept (k : ∀ b u, h.get? b = some u → h'.get? b = some u) : Un fs ex H H h h' :=
 ⟨fun b ob q _ _ _ => k b ob q, fun b ob q _ _ _ => ⟨ob.slots, k b ob q⟩, fun _ _ _ n _ => n, fun b ob q _ => ⟨ob, k b ob q⟩, fun _ _ q => q, fun _ _ _ q => q, fun _ ps q => ⟨#[], by rw [q]; simp⟩⟩
theorem Un.refl : Un fs ex H H h h := Un.kept fun _ _ q => q
theorem Un.laid (k : ∀ b u, h.get? b = some u → h'.get? b = some u) (hp : h.objs.size ≤ a) (hn : H a = none) : Un fs ex H (upd H a o) h h' where
 keep := fun b u q _ _ _ => k b u q
 slot := fun b u q _ _ _ => ⟨u.slots, k b u q⟩
 free := fun b u q n _ => by rw [upd_ne (Nat.ne_of_lt (Nat.lt_of_lt_of_le (Heap.lt_size q) hp))]; exact n
 there := fun b u q _ => ⟨u, k b u q⟩
 tups := fun b xs q => by rw [upd_ne (ne_of_none q hn)]; exact q
 frzs := fun b u xs q => by rw [upd_ne (ne_of_none q hn)]; exact q
 tbls := fun b ps q => ⟨#[], by rw [upd_ne (ne_of_none q hn), q]; simp⟩
theorem Un.write (mu : Mut (H x)) (he : e = x ∨ H e = some (.own x)) (k : ∀ b u, b ≠ e → h.get? b = some u → h'.get? b = some u) (heo : ∃ u, h'.get? e = some u) : Un fs ex H (upd H x o) h h' := by
 have hx : ∀ b, H b = none → b ≠ x := fun b n z => by subst z; rw [n] at mu; exact mu
 have hb : ∀ b, H b = none → b ≠ e := fun b n z => by
  subst z
  rcases he with r | r
  · exact hx b n r
  · rw [n] at r; cases r
 have hm : ∀ b u, H b = some u → ¬ Mut (some u) → b ≠ x := fun b u q nm z => by subst z; rw [q] at mu; exact nm mu
 refine ⟨fun b u q n _ _ => k b u (hb b n) q, fun b u q n _ _ => ⟨u.slots, k b u (hb b n) q⟩, fun b u q n _ => by rw [upd_ne (hx b n)]; exact n, fun b u q _ => ?_,
  fun b xs q => by rw [upd_ne (hm b _ q fun z => z)]; exact q, fun b u xs q => by rw [upd_ne (hm b _ q fun z => z)]; exact q, fun b ps q => ⟨#[], by rw [upd_ne (hm b _ q fun z => z), q]; simp⟩⟩
 by_cases hbe : b = e
 · subst hbe; exact heo
 · exact ⟨u, k b u hbe q⟩
end
noncomputable def trk (h : Heap) (H : Hp) : List Addr := (List.range h.objs.size).filter fun a => (H a).isSome
noncomputable def hidT (h : Heap) (H : Hp) : Heap := PySem.W.hideAll h (trk h H)
theorem hidT_size (h : Heap) (H : Hp) : (hidT h H).objs.size = h.objs.size := PySem.W.hideAll_size _ _
theorem hidT_get {h : Heap} {H : Hp} {b : Addr} {o : Obj} (e : h.get? b = some o) (n : H b = none) : (hidT h H).get? b = some o :=
 PySem.W.hideAll_get _ e fun hm => by
  have q : (H b).isSome = true := (List.mem_filter.mp hm).2
  rw [n] at q; simp at q
theorem of_hidT {h : Heap} {H : Hp} {b : Addr} {o : Obj} (e : (hidT h H).get? b = some o) : h.get? b = some o ∧ H b = none := by
 have e' : h.get? b = some o := PySem.W.of_hideAll (trk h H) e
 refine ⟨e', ?_⟩
 cases q : H b with
 | none => rfl
 | some x =>
   have hm : b ∈ trk h H := List.mem_filter.mpr ⟨List.mem_range.mpr (Heap.lt_size e'), by simp [q]⟩
   have z : (hidT h H).get? b = none := PySem.W.hideAll_none (trk h H) hm
   rw [z] at e; cases e
noncomputable def allNews (g h : Heap) (L : Addr) : List (Addr × Obj) := (List.range h.objs.size).filterMap fun a => if a = L ∨ (g.get? a).isSome = true then none else (h.get? a).map fun o => (a, o)
noncomputable def rest (g h : Heap) (L d : Addr) : List (Addr × Obj) := (allNews g h L).filter fun p => decide (p.1 ≠ d)
structure Mod (K : PySem.W.Frag) (mg : Str → Option Value) (base : Heap) : Prop where
 kin : K.In base
 glob : base.Ns mainGlobals mg
 blt : ∃ mb, base.Ns builtinsNs mb ∧ ∀ x : Str, x ≠ "__name__" → mb x = bootBuiltins x
 nolimit : base.NoLimit
structure Cx where
 prog : Program
 w : World
 K : PySem.W.Frag
 mg : Str → Option Value
 base : Heap
 A : Around
 N : List Str
 s₀ : Shared
 H₀ : Hp
 env : Env
 outer : List Env
 stack : List Env
 ex : List Addr
 fn : Str → Bool
 calm : Bool
 pn : List (Addr × Obj)
 xe : Value → Shared → Prop
noncomputable def frs (l : List Env) : List Addr := l.filterMap (·.frame)
abbrev Cx.fs (X : Cx) : List Addr := frs X.outer
noncomputable def Vis (sc : Scope) (x : Str) : Prop := sc.names.lookup x = some .local ∨ sc.names.lookup x = some .cell ∨ sc.names.lookup x = some .free
noncomputable def Loc (sc : Scope) (x : Str) : Prop := sc.names.lookup x = some .local ∨ sc.names.lookup x = some .cell
noncomputable def Look (env : Env) (h : Heap) (m : Str → Option Value) (x : Str) (u : Value) : Prop :=
 (env.kindOf x = some .local ∧ m x = some u) ∨ ((env.kindOf x = some .cell ∨ env.kindOf x = some .free) ∧ ∃ c, env.cells.lookup x = some c ∧ h.IsCell c (some u))
structure Cx.Ok (X : Cx) : Prop where
 mod : Mod X.K X.mg X.base
 kind : X.env.scope.kind = .function
 glob : X.env.globals = mainGlobals
 blt : X.env.builtins = builtinsNs
 above : X.s₀.heap.objs.size ≤ X.env.locals
 inj : ∀ x y c, X.env.cells.lookup x = some c → X.env.cells.lookup y = some c → x = y
 has : ∀ x, (X.env.kindOf x = some .cell ∨ X.env.kindOf x = some .free) → ∃ c, X.env.cells.lookup x = some c
 cab : ∀ x c, X.fn x = true → X.env.cells.lookup x = some c → X.s₀.heap.objs.size ≤ c
 hd : X.calm = true → X.A.handled = none
 frames : X.A.frames = some X.stack
 stk : X.stack = X.outer ∨ (X.stack = X.env :: X.outer ∧ X.env.frame = some X.env.locals)
 exf : ∀ b ∈ X.ex, b ≠ X.env.locals ∧ ∀ x c, X.env.cells.lookup x = some c → c ≠ b
 bs : ∀ b o, X.base.get? b = some o → X.s₀.heap.get? b = some o ∧ X.H₀ b = none
 bsz : X.base.objs.size ≤ X.s₀.heap.objs.size
 noex : ∀ b o, X.base.get? b = some o → b ∉ X.ex
 exfs : ∀ b ∈ X.ex, b ∉ X.fs
 funs : X.s₀.heap.FunFrames X.base X.outer
 frf : ∀ b ∈ X.fs, X.H₀ b = none
structure Inv (X : Cx) (pins : List (Addr × Obj)) (σ : List (Option V)) (H : Hp) (s : Shared) : Prop where
 ok : X.Ok
 os : s.os = X.s₀.os
 bare : AllBare s.gens
 base : Un X.fs X.ex X.H₀ H X.s₀.heap s.heap
 loc : ∃ m, s.heap.Ns X.env.locals m ∧ ∀ (i : Nat) (x : Str) (v : V), X.N[i]? = some x → σ[i]? = some (some v) → Vis X.env.scope x → ∃ u, RelV v u ∧ Look X.env s.heap m x u
 cell : ∀ x c, X.env.cells.lookup x = some c → ∃ v, s.heap.IsCell c v
 free : H X.env.locals = none
 freeC : ∀ x c, X.env.cells.lookup x = some c → H c = none
 pin : ∀ p ∈ X.pn ++ pins, s.heap.get? p.1 = some p.2 ∧ H p.1 = none ∧ p.1 ≠ X.env.locals ∧ p.1 ∉ X.fs ∧ ∀ v, p.2.data ≠ .cell v
 hok : HOk X.prog X.w H s.heap
 len : σ.length = X.N.length
section
variable {X : Cx} {pins : List (Addr × Obj)} {σ : List (Option V)} {H H' : Hp} {s : Shared} {h' : Heap}
theorem Cx.Ok.nofr (ok : X.Ok) {b : Addr} {o : Obj} (e : X.base.get? b = some o) : b ∉ X.fs := fun hb => by
 have := (ok.funs.mem hb).1
 rw [e] at this; cases this
theorem Inv.bs (I : Inv X pins σ H s) : ∀ b o, X.base.get? b = some o → s.heap.get? b = some o ∧ H b = none := fun b o e =>
 ⟨I.base.keep b o (I.ok.bs b o e).1 (I.ok.bs b o e).2 (I.ok.nofr e) (I.ok.noex b o e), I.base.free b o (I.ok.bs b o e).1 (I.ok.bs b o e).2 (I.ok.noex b o e)⟩
theorem Inv.bk (I : Inv X pins σ H s) : ∀ b o, X.base.get? b = some o → s.heap.get? b = some o := fun b o e => (I.bs b o e).1
theorem Inv.mod (I : Inv X pins σ H s) : Mod X.K X.mg X.base := I.ok.mod
theorem Inv.kIn (I : Inv X pins σ H s) : X.K.In s.heap := I.ok.mod.kin.keeps I.bk
theorem Inv.lt (I : Inv X pins σ H s) : X.env.locals < s.heap.objs.size := let ⟨_, hn, _⟩ := I.loc; hn.lt
theorem Inv.sz (I : Inv X pins σ H s) : X.s₀.heap.objs.size ≤ s.heap.objs.size := Nat.le_trans I.ok.above (Nat.le_of_lt I.lt)
theorem Inv.nofs (I : Inv X pins σ H s) {a : Addr} (h : s.heap.objs.size ≤ a) : a ∉ X.fs := fun hb => by
 obtain ⟨_, o, ho, _⟩ := I.ok.funs.mem hb
 exact absurd (Nat.lt_of_lt_of_le (Heap.lt_size ho) (Nat.le_trans I.sz h)) (Nat.lt_irrefl _)
theorem Inv.cne (I : Inv X pins σ H s) : ∀ x c, X.env.cells.lookup x = some c → c ≠ X.env.locals := fun x c e z => by
 obtain ⟨v, o, ho, hd⟩ := I.cell x c e
 obtain ⟨m, ⟨o', es, ep, ho', hd', _⟩, _⟩ := I.loc
 rw [z, ho'] at ho; cases ho; rw [hd'] at hd; cases hd
theorem Inv.funs (I : Inv X pins σ H s) : s.heap.FunFrames X.base X.outer := by
 have all : ∀ (l : List Env), (∀ b ∈ frs l, b ∈ X.fs) → X.s₀.heap.FunFrames X.base l → s.heap.FunFrames X.base l := by
  intro l
  induction l with
  | nil => intro _ _; trivial
  | cons env r ih =>
    intro hs hl
    obtain ⟨hk, ⟨L, o, hf, hn, ho, hd⟩, hr⟩ := hl
    have hL : L ∈ X.fs := hs L (by unfold frs; rw [List.filterMap_cons, hf]; exact List.mem_cons_self)
    obtain ⟨sl, e⟩ := I.base.slot L o ho (I.ok.frf L hL) hL fun z => I.ok.exfs L z hL
    exact ⟨hk, ⟨L, _, hf, hn, e, hd⟩, ih (fun b hb => hs b (by unfold frs; rw [List.filterMap_cons, hf]; exact List.mem_cons_of_mem _ hb)) hr⟩
 exact all X.outer (fun _ hb => hb) I.ok.funs
theorem Inv.stack (I : Inv X pins σ H s) : s.heap.FunFrames X.base X.stack := by
 rcases I.ok.stk with e | ⟨e, hf⟩
 · rw [e]; exact I.funs
 · rw [e]
   obtain ⟨m, hn, _⟩ := I.loc
   refine .cons (by rw [I.ok.kind]; decide) hf hn ?_ I.funs
   exact Heap.get?_none_of_le (Nat.le_trans I.ok.bsz I.ok.above)
theorem Inv.stkSub (I : Inv X pins σ H s) : ∀ b ∈ frs X.stack, b ∈ X.env.locals :: X.fs := fun b hb => by
 rcases I.ok.stk with e | ⟨e, hf⟩
 · rw [e] at hb; exact List.mem_cons_of_mem _ hb
 · rw [e] at hb
   unfold frs at hb
   rw [List.filterMap_cons, hf] at hb
   exact hb
theorem Inv.stkFree (I : Inv X pins σ H s) : ∀ b ∈ frs X.stack, H b = none := fun b hb => by
 rcases List.mem_cons.mp (I.stkSub b hb) with e | hb
 · rw [e]; exact I.free
 · obtain ⟨_, o, ho, _⟩ := I.ok.funs.mem hb
   exact I.base.free b o ho (I.ok.frf b hb) fun z => I.ok.exfs b z hb
theorem Inv.step {g' : Array GenState} {t' : Nat} {d' : Drawn} {ch : List Addr} (I : Inv X pins σ H s)
  (hch : ∀ b ∈ ch, (b ∈ X.ex ∨ X.s₀.heap.objs.size ≤ b) ∧ b ≠ X.env.locals ∧ (∀ x c, X.env.cells.lookup x = some c → c ≠ b) ∧ ∀ p ∈ X.pn ++ pins, p.1 ≠ b)
  (keep : ∀ b o, b ≠ X.env.locals → b ∉ X.fs → b ∉ ch → s.heap.get? b = some o → H b = none → h'.get? b = some o)
  (slot : ∀ b o, b ≠ X.env.locals → b ∈ X.fs → b ∉ ch → s.heap.get? b = some o → H b = none → ∃ sl, h'.get? b = some { o with slots := sl }) (free : ∀ b o, b ∉ ch → s.heap.get? b = some o → H b = none → H' b = none)
  (there : ∀ b o, b ∉ ch → s.heap.get? b = some o → ∃ o', h'.get? b = some o')
  (tups : ∀ b xs, H b = some (.tup xs) → H' b = some (.tup xs)) (frzs : ∀ b o u, H b = some (.frz o u) → H' b = some (.frz o u)) (tbls : ∀ b ps, H b = some (.tbl ps) → ∃ more, H' b = some (.tbl (ps ++ more)))
  (ns : ∀ m, s.heap.Ns X.env.locals m → h'.Ns X.env.locals m) (hok : HOk X.prog X.w H' h') (hg : AllBare g') :
  Inv X pins σ H' { s with heap := h', gens := g', drawn := d', toks := t' } := by
 have neL : ∀ b o, X.s₀.heap.get? b = some o → b ≠ X.env.locals := fun b o e => Nat.ne_of_lt (Nat.lt_of_lt_of_le (Heap.lt_size e) I.ok.above)
 have neC : ∀ b o, X.s₀.heap.get? b = some o → b ∉ X.ex → b ∉ ch := fun b o e hx hb => by
  rcases (hch b hb).1 with z | z
  · exact hx z
  · exact absurd (Nat.lt_of_lt_of_le (Heap.lt_size e) z) (Nat.lt_irrefl _)
 have cellK : ∀ x c, X.env.cells.lookup x = some c → ∀ v, s.heap.IsCell c v → h'.IsCell c v := fun x c e v ⟨o, ho, hd⟩ => by
  have nch : c ∉ ch := fun z => (hch c z).2.2.1 x c e rfl
  by_cases hc : c ∈ X.fs
  · obtain ⟨sl, q⟩ := slot c o (I.cne x c e) hc nch ho (I.freeC x c e)
    exact ⟨_, q, hd⟩
  · exact ⟨o, keep c o (I.cne x c e) hc nch ho (I.freeC x c e), hd⟩
 refine ⟨I.ok, I.os, hg, ⟨fun b o e n hb hx => ?_, fun b o e n hb hx => ?_, fun b o e n hx => ?_, fun b o e hx => ?_, fun b xs e => tups b xs (I.base.tups b xs e), fun b o xs e => frzs b o xs (I.base.frzs b o xs e), fun b ps e => ?_⟩, ?_, fun x c e => ?_, ?_, fun x c e => ?_, fun p hp => ?_, hok, I.len⟩
 · exact keep b o (neL b o e) hb (neC b o e hx) (I.base.keep b o e n hb hx) (I.base.free b o e n hx)
 · obtain ⟨sl, e1⟩ := I.base.slot b o e n hb hx
   obtain ⟨sl', e2⟩ := slot b _ (neL b o e) hb (neC b o e hx) e1 (I.base.free b o e n hx)
   exact ⟨sl', e2⟩
 · obtain ⟨o', e1⟩ := I.base.there b o e hx
   exact free b o' (neC b o e hx) e1 (I.base.free b o e n hx)
 · obtain ⟨o', e1⟩ := I.base.there b o e hx
   exact there b o' (neC b o e hx) e1
 · obtain ⟨m1, e1⟩ := I.base.tbls b ps e
   obtain ⟨m2, e2⟩ := tbls b _ e1
   exact ⟨m1 ++ m2, by rw [e2, Array.append_assoc]⟩
 · obtain ⟨m, hn, hl⟩ := I.loc
   refine ⟨m, ns m hn, fun i x v e1 e2 e3 => ?_⟩
   obtain ⟨u, r, l⟩ := hl i x v e1 e2 e3
   refine ⟨u, r, ?_⟩
   rcases l with l | ⟨k, c, e, z⟩
   · exact .inl l
   · exact .inr ⟨k, c, e, cellK x c e _ z⟩
 · obtain ⟨v, z⟩ := I.cell x c e
   exact ⟨v, cellK x c e v z⟩
 · obtain ⟨m, ⟨o, _, _, ho, _⟩, _⟩ := I.loc
   exact free _ o (fun z => (hch _ z).2.1 rfl) ho I.free
 · obtain ⟨v, o, ho, hd⟩ := I.cell x c e
   exact free c o (fun z => (hch c z).2.2.1 x c e rfl) ho (I.freeC x c e)
 · obtain ⟨e, n, ne, nf, d⟩ := I.pin p hp
   have nch : p.1 ∉ ch := fun z => (hch p.1 z).2.2.2 p hp rfl
   exact ⟨keep p.1 p.2 ne nf nch e n, free p.1 p.2 nch e n, ne, nf, d⟩
theorem Inv.un {t' : Nat} (I : Inv X pins σ H s) (u : Un X.fs [] H H' s.heap h') (hok : HOk X.prog X.w H' h') : Inv X pins σ H' { s with heap := h', toks := t' } := by
 obtain ⟨m, ⟨o, es, ep, ho, r⟩, _⟩ := id I.loc
 obtain ⟨sl, hL⟩ := u.any ho I.free (by simp)
 exact I.step (g' := s.gens) (d' := s.drawn) (ch := []) (fun _ z => nomatch z) (fun b o _ hb _ e n => u.keep b o e n hb (by simp)) (fun b o _ hb _ e n => u.slot b o e n hb (by simp)) (fun b o _ e n => u.free b o e n (by simp)) (fun b o _ e => u.there b o e (by simp)) u.tups u.frzs u.tbls (fun m' hm => by
  obtain ⟨o', es', ep', ho', r'⟩ := hm
  rw [ho] at ho'; cases ho'
  exact ⟨_, es', ep', hL, r'⟩) hok I.bare
theorem Inv.call {g' : Array GenState} {t' : Nat} {d' : Drawn} {ch : List Addr} (I : Inv X pins σ H s) (u : Un (frs X.stack) ch H H' s.heap h') (hok : HOk X.prog X.w H' h') (hg : AllBare g')
  (hch : ∀ b ∈ ch, (b ∈ X.ex ∨ X.s₀.heap.objs.size ≤ b) ∧ b ≠ X.env.locals ∧ (∀ x c, X.env.cells.lookup x = some c → c ≠ b) ∧ ∀ p ∈ X.pn ++ pins, p.1 ≠ b) :
  Inv X pins σ H' { s with heap := h', gens := g', drawn := d', toks := t' } := by
 obtain ⟨m, ⟨o, es, ep, ho, r⟩, _⟩ := id I.loc
 obtain ⟨sl, hL⟩ := u.any ho I.free fun z => (hch _ z).2.1 rfl
 exact I.step (ch := ch) hch (fun b o hL hb hc e n => u.keep b o e n (fun z => (List.mem_cons.mp (I.stkSub b z)).elim hL hb) hc) (fun b o _ _ hc e n => u.any e n hc) (fun b o hc e n => u.free b o e n hc) (fun b o hc e => u.there b o e hc) u.tups u.frzs u.tbls (fun m' hm => by
  obtain ⟨o', es', ep', ho', r'⟩ := hm
  rw [ho] at ho'; cases ho'
  exact ⟨_, es', ep', hL, r'⟩) hok hg
theorem Inv.turned {t' : Nat} {it : Addr} (I : Inv X pins σ H s) (k : ∀ b o, b ≠ it → s.heap.get? b = some o → h'.get? b = some o) (hn : H it = none) (hL : it ≠ X.env.locals)
  (h1 : it ∈ X.ex ∨ X.s₀.heap.objs.size ≤ it) (h2 : ∀ x c, X.env.cells.lookup x = some c → c ≠ it) (h3 : ∀ p ∈ X.pn ++ pins, p.1 ≠ it) : Inv X pins σ H { s with heap := h', toks := t' } := by
 have nit : ∀ b u, H b = some u → b ≠ it := fun b u e z => by rw [z, hn] at e; cases e
 refine I.step (g' := s.gens) (d' := s.drawn) (ch := [it]) (fun b hb => ?_) (fun b o _ _ hc e _ => k b o (fun z => hc (by simp [z])) e) (fun b o _ _ hc e _ => ⟨o.slots, k b o (fun z => hc (by simp [z])) e⟩) (fun _ _ _ _ n => n)
  (fun b o hc e => ⟨o, k b o (fun z => hc (by simp [z])) e⟩) (fun _ _ e => e) (fun _ _ _ e => e) (fun b ps e => ⟨#[], by rw [e]; simp⟩) (fun m hm => ?_) (fun b u e => ?_) I.bare
 · have e : b = it := by simpa using hb
   subst e
   exact ⟨h1, hL, h2, h3⟩
 · obtain ⟨o, es, ep, ho, r⟩ := hm
   exact ⟨o, es, ep, k _ o (Ne.symm hL) ho, r⟩
 · refine (I.hok b u e).stay (fun c v hc q => k c v ?_ q) (fun _ q => q) fun _ _ q => q
   rcases hc with z | z
   · rw [z]; exact nit b u e
   · exact nit c _ z
theorem Inv.tok (I : Inv X pins σ H s) (t : Nat) : Inv X pins σ H { s with toks := t } := I.un (h' := s.heap) (t' := t) Un.refl I.hok
theorem Inv.kept {t' : Nat} (I : Inv X pins σ H s) (k : ∀ b u, s.heap.get? b = some u → h'.get? b = some u) : Inv X pins σ H { s with heap := h', toks := t' } := I.un (Un.kept k) (I.hok.kept k)
theorem Inv.laid {a : Addr} {o : HO} {t' : Nat} (I : Inv X pins σ H s) (k : ∀ b u, s.heap.get? b = some u → h'.get? b = some u) (hp : s.heap.objs.size ≤ a) (new : ObjOk X.prog X.w (upd H a o) h' a o) :
 Inv X pins σ (upd H a o) { s with heap := h', toks := t' } := I.un (Un.laid k hp (I.hok.fresh hp)) (I.hok.laid k hp new)
theorem Inv.write {x e : Addr} {o : HO} {t' : Nat} (I : Inv X pins σ H s) (mu : Mut (H x)) (he : e = x ∨ H e = some (.own x)) (k : ∀ b u, b ≠ e → s.heap.get? b = some u → h'.get? b = some u) (heo : ∃ u, h'.get? e = some u)
 (new : ObjOk X.prog X.w (upd H x o) h' x o) : Inv X pins σ (upd H x o) { s with heap := h', toks := t' } := I.un (Un.write mu he k heo) (I.hok.write mu he k heo new)
theorem Inv.pins_of {pins' : List (Addr × Obj)} (I : Inv X pins σ H s) (h : ∀ p ∈ pins', s.heap.get? p.1 = some p.2 ∧ H p.1 = none ∧ p.1 ≠ X.env.locals ∧ p.1 ∉ X.fs ∧ ∀ v, p.2.data ≠ .cell v) : Inv X pins' σ H s :=
 ⟨I.ok, I.os, I.bare, I.base, I.loc, I.cell, I.free, I.freeC, fun p hp => (List.mem_append.mp hp).elim (fun z => I.pin p (List.mem_append_left _ z)) (h p), I.hok, I.len⟩
theorem nodup_ix {N : List Str} (hN : N.Nodup) {i j : Nat} {x : Str} (a : N[i]? = some x) (b : N[j]? = some x) : i = j := by
 obtain ⟨h1, e1⟩ := List.getElem?_eq_some_iff.mp a
 obtain ⟨h2, e2⟩ := List.getElem?_eq_some_iff.mp b
 exact (List.getElem_inj hN).mp (e1.trans e2.symm)
theorem store_ok2 {M : Model} {A : Around} {E : Value → Shared → Prop} {i : Nat} {x : Str} {v : V} {u : Value} {Q : Unit → Shared → Prop} (I : Inv X pins σ H s) (hN : X.N.Nodup) (hi : X.N[i]? = some x) (hx : Loc X.env.scope x) (r : RelV v u)
  (h : ∀ s', Inv X pins (σ.set i (some v)) H s' → (∃ a, Heap.SameBut a s.heap s'.heap ∧ (a = X.env.locals ∨ X.env.cells.lookup x = some a)) → Q () s') (hf : X.fn x = true ∨ X.env.scope.names.lookup x = some .local := by first | exact .inl rfl | exact .inr rfl | assumption) : wpAny M A (storeName X.env x u) Q E s := by
 obtain ⟨m, hn, hl⟩ := id I.loc
 have hcls : (X.env.scope.kind == .class || (X.env.scope.kind == .module && X.env.locals != X.env.globals)) = false := by rw [I.ok.kind]; rfl
 have hiσ : i < σ.length := by rw [I.len]; exact (List.getElem?_eq_some_iff.mp hi).1
 have cne := I.cne
 have tracked : ∀ {a : Addr} {h' : Heap}, (∃ o, s.heap.get? a = some o ∧ H a = none) → Heap.SameBut a s.heap h' → HOk X.prog X.w H h' := fun {a h'} ha hs b ob e => by
  obtain ⟨_, _, hfree⟩ := ha
  refine (I.hok b ob e).stay (fun c w' hc q => (hs.2 c ?_).trans q) (fun _ q => q) fun _ _ q => q
  rintro rfl
  rcases hc with rfl | hc
  · rw [hfree] at e; cases e
  · rw [hfree] at hc; cases hc
 rcases hx with hk | hk
 · refine wpAny_storeName_local hk hn (fun h' hn' hs => ?_) hcls
   obtain ⟨oL, _, _, hoL, _⟩ := id hn
   refine h _ ⟨I.ok, I.os, I.bare, ⟨fun b o e n hb hx => ?_, fun b o e n hb hx => ?_, I.base.free, fun b o e hx => ?_, I.base.tups, I.base.frzs, I.base.tbls⟩, ⟨_, hn', fun j y v' e1 e2 e3 => ?_⟩, fun y c e => ?_, I.free, I.freeC, fun p hp => ?_, tracked ⟨oL, hoL, I.free⟩ hs, by simpa using I.len⟩ ⟨_, hs, .inl rfl⟩
   · exact (hs.2 b (Nat.ne_of_lt (Nat.lt_of_lt_of_le (Heap.lt_size e) I.ok.above))).trans (I.base.keep b o e n hb hx)
   · obtain ⟨sl, e1⟩ := I.base.slot b o e n hb hx
     exact ⟨sl, (hs.2 b (Nat.ne_of_lt (Nat.lt_of_lt_of_le (Heap.lt_size e) I.ok.above))).trans e1⟩
   · obtain ⟨o', e1⟩ := I.base.there b o e hx
     exact ⟨o', (hs.2 b (Nat.ne_of_lt (Nat.lt_of_lt_of_le (Heap.lt_size e) I.ok.above))).trans e1⟩
   · by_cases hj : j = i
     · subst hj
       rw [hi] at e1; cases e1
       rw [List.getElem?_set_self hiσ] at e2
       cases e2
       exact ⟨u, r, .inl ⟨hk, by simp⟩⟩
     · rw [List.getElem?_set_ne (Ne.symm hj)] at e2
       obtain ⟨u', r', q⟩ := hl j y v' e1 e2 e3
       refine ⟨u', r', ?_⟩
       rcases q with ⟨k, e⟩ | ⟨k, c, e, z⟩
       · refine .inl ⟨k, ?_⟩
         have : y ≠ x := fun e => hj (nodup_ix hN e1 (e ▸ hi))
         simp [this, e]
       · exact .inr ⟨k, c, e, z.sameBut hs (cne y c e)⟩
   · obtain ⟨w', z⟩ := I.cell y c e
     exact ⟨w', z.sameBut hs (cne y c e)⟩
   · obtain ⟨e, n, ne, nf, d⟩ := I.pin p hp
     exact ⟨(hs.2 p.1 ne).trans e, n, ne, nf, d⟩
 · have hfn : X.fn x = true := by
    rcases hf with z | z
    · exact z
    · rw [z] at hk; cases hk
   obtain ⟨c, hc⟩ := I.ok.has x (.inl hk)
   obtain ⟨w', z⟩ := I.cell x c hc
   refine wpAny_storeName_cell I.ok.kind hk hc z (fun h' hc' hs => ?_)
   obtain ⟨oc, hoc, hocd⟩ := id z
   refine h { s with heap := h' } ⟨I.ok, I.os, I.bare, ⟨fun b o e n hb hx => ?_, fun b o e n hb hx => ?_, I.base.free, fun b o e hx => ?_, I.base.tups, I.base.frzs, I.base.tbls⟩, ⟨m, hn.sameBut hs (Ne.symm (cne x c hc)), fun j y v' e1 e2 e3 => ?_⟩, fun y c' e => ?_, I.free, I.freeC, fun p hp => ?_, tracked ⟨oc, hoc, I.freeC x c hc⟩ hs, by simpa using I.len⟩ ⟨c, hs, .inr hc⟩
   · exact (hs.2 b (Nat.ne_of_lt (Nat.lt_of_lt_of_le (Heap.lt_size e) (I.ok.cab x c hfn hc)))).trans (I.base.keep b o e n hb hx)
   · obtain ⟨sl, e1⟩ := I.base.slot b o e n hb hx
     exact ⟨sl, (hs.2 b (Nat.ne_of_lt (Nat.lt_of_lt_of_le (Heap.lt_size e) (I.ok.cab x c hfn hc)))).trans e1⟩
   · obtain ⟨o', e1⟩ := I.base.there b o e hx
     exact ⟨o', (hs.2 b (Nat.ne_of_lt (Nat.lt_of_lt_of_le (Heap.lt_size e) (I.ok.cab x c hfn hc)))).trans e1⟩
   · by_cases hj : j = i
     · subst hj
       rw [hi] at e1; cases e1
       rw [List.getElem?_set_self hiσ] at e2
       cases e2
       exact ⟨u, r, .inr ⟨.inl hk, c, hc, hc'⟩⟩
     · rw [List.getElem?_set_ne (Ne.symm hj)] at e2
       obtain ⟨u', r', q⟩ := hl j y v' e1 e2 e3
       refine ⟨u', r', ?_⟩
       rcases q with q | ⟨k, c', e, z'⟩
       · exact .inl q
       · refine .inr ⟨k, c', e, z'.sameBut hs ?_⟩
         rintro rfl
         exact hj (nodup_ix hN e1 (I.ok.inj _ _ _ e hc ▸ hi))
   · by_cases hcc : c' = c
     · subst hcc; exact ⟨_, hc'⟩
     · obtain ⟨w2, z2⟩ := I.cell y c' e
       exact ⟨w2, z2.sameBut hs hcc⟩
   · obtain ⟨e, n, ne, nf, d⟩ := I.pin p hp
     refine ⟨(hs.2 p.1 ?_).trans e, n, ne, nf, d⟩
     intro q
     rw [q, hoc] at e
     have q' : oc = p.2 := Option.some.inj e
     exact d w' (by rw [← q']; exact hocd)
theorem store_ok {M : Model} {A : Around} {E : Value → Shared → Prop} {i : Nat} {x : Str} {v : V} {u : Value} {Q : Unit → Shared → Prop} (I : Inv X pins σ H s) (hN : X.N.Nodup) (hi : X.N[i]? = some x) (hx : Loc X.env.scope x) (r : RelV v u)
  (h : ∀ s', Inv X pins (σ.set i (some v)) H s' → Q () s') (hf : X.fn x = true ∨ X.env.scope.names.lookup x = some .local := by first | exact .inl rfl | exact .inr rfl | assumption) : wpAny M A (storeName X.env x u) Q E s :=
 store_ok2 I hN hi hx r (fun s' I' _ => h s' I') hf
theorem Inv.call' {s' : Shared} {ch : List Addr} (I : Inv X pins σ H s) (ho : s'.os = s.os) (u : Un (frs X.stack) ch H H' s.heap s'.heap) (hok : HOk X.prog X.w H' s'.heap) (hg : AllBare s'.gens)
  (hch : ∀ b ∈ ch, (b ∈ X.ex ∨ X.s₀.heap.objs.size ≤ b) ∧ b ≠ X.env.locals ∧ (∀ x c, X.env.cells.lookup x = some c → c ≠ b) ∧ ∀ p ∈ X.pn ++ pins, p.1 ≠ b) : Inv X pins σ H' s' := by
 obtain ⟨h', g', d', t', o'⟩ := s'
 have e : o' = s.os := ho
 subst e
 exact I.call (g' := g') (t' := t') (d' := d') u hok hg hch
end
abbrev XK := Value → Option Addr → Hp → Prop
abbrev St := List (Option V)
abbrev VK := V → Hp → Prop
abbrev TE := St → Hp → VK → Prop
abbrev TT := St → Hp → (Bool → Hp → Prop) → Prop
abbrev TA := St → Hp → (List V → Hp → Prop) → Prop
structure Ends where
 nx : St → Hp → Prop
 rt : VK
 bk : St → Hp → Prop := fun _ _ => False
 ct : St → Hp → Prop := fun _ _ => False
abbrev TS := Ends → St → Hp → Prop
noncomputable def EP (X : Cx) (pins : List (Addr × Obj)) (σ : St) (Q : VK) (u : Value) (s' : Shared) : Prop := ∃ v H', Inv X pins σ H' s' ∧ RelV v u ∧ Q v H'
noncomputable def TP (X : Cx) (pins : List (Addr × Obj)) (σ : St) (Q : Bool → Hp → Prop) (b : Bool) (s' : Shared) : Prop := ∃ H', Inv X pins σ H' s' ∧ Q b H'
noncomputable def AP (X : Cx) (pins : List (Addr × Obj)) (σ : St) (Q : List V → Hp → Prop) (us : List Value) (s' : Shared) : Prop := ∃ vs H', Inv X pins σ H' s' ∧ Vals vs us ∧ Q vs H'
noncomputable def SP (X : Cx) (pins : List (Addr × Obj)) (D : Ends) (f : Flow) (s' : Shared) : Prop :=
 match f with
 | .next => ∃ σ' H', Inv X pins σ' H' s' ∧ D.nx σ' H'
 | .brk => ∃ σ' H', Inv X pins σ' H' s' ∧ D.bk σ' H'
 | .cont => ∃ σ' H', Inv X pins σ' H' s' ∧ D.ct σ' H'
 | .ret u => ∃ v σ' H', Inv X pins σ' H' s' ∧ RelV v u ∧ D.rt v H'
noncomputable def PE (X : Cx) (e : Expr) (t : TE) : Prop :=
 ∀ (pins : List (Addr × Obj)) (s : Shared) (σ : St) (H : Hp) (Q : VK), Inv X pins σ H s → t σ H Q → wpAny (model X.prog X.w) X.A (eval e X.env) (EP X pins σ Q) X.xe s
noncomputable def PT (X : Cx) (e : Expr) (t : TT) : Prop :=
 ∀ (pins : List (Addr × Obj)) (s : Shared) (σ : St) (H : Hp) (Q : Bool → Hp → Prop), Inv X pins σ H s → t σ H Q → wpAny (model X.prog X.w) X.A (isTrue e X.env (eval e X.env)) (TP X pins σ Q) X.xe s
noncomputable def PW (X : Cx) (e : Expr) (t : TT) : Prop :=
 ∀ (whole : Sem Value) (pins : List (Addr × Obj)) (s : Shared) (σ : St) (H : Hp) (Q : Bool → Hp → Prop), Inv X pins σ H s → t σ H Q → wpAny (model X.prog X.w) X.A (isTrue e X.env whole) (TP X pins σ Q) X.xe s
theorem PW.pt {X : Cx} {e : Expr} {t : TT} (h : PW X e t) : PT X e t := h _
noncomputable def PA (X : Cx) (es : List Expr) (t : TA) : Prop :=
 ∀ (pos : Pos) (pins : List (Addr × Obj)) (s : Shared) (σ : St) (H : Hp) (Q : List V → Hp → Prop), Inv X pins σ H s → t σ H Q → wpAny (model X.prog X.w) X.A (spliced (backTo pos (starEach es X.env))) (AP X pins σ Q) X.xe s
noncomputable def PS (X : Cx) (st : Stmt) (t : TS) : Prop :=
 ∀ (pins : List (Addr × Obj)) (s : Shared) (σ : St) (H : Hp) (D : Ends), Inv X pins σ H s → t D σ H → wpAny (model X.prog X.w) X.A (exec st X.env) (SP X pins D) X.xe s
noncomputable def PSs (X : Cx) (st : List Stmt) (t : TS) : Prop :=
 ∀ (pins : List (Addr × Obj)) (s : Shared) (σ : St) (H : Hp) (D : Ends), Inv X pins σ H s → t D σ H → wpAny (model X.prog X.w) X.A (execs st X.env) (SP X pins D) X.xe s
theorem thn {α : Type} {t : Sem α} {Q Q' : α → Shared → Prop} {M : Model} {A : Around} {E : Value → Shared → Prop} {s : Shared} (h : wpAny M A t Q E s) (hQ : ∀ a s, Q a s → Q' a s) : wpAny M A t Q' E s := wpAny_mono h hQ fun _ _ x => x
section
variable {X : Cx}
noncomputable def tVar (i : Nat) : TE := fun σ H Q => ∃ v, σ[i]? = some (some v) ∧ Q v H
noncomputable def tC (v : V) : TE := fun _ H Q => Q v H
theorem pe_var {i : Nat} {x : Str} {pos : Pos} (hN : X.N[i]? = some x) (hv : Vis X.env.scope x) (hd : (x == ("__debug__" : Str)) = false := by decide) (hcd : (x == ("__classdict__" : Str)) = false := by decide) : PE X (.Name x pos) (tVar i) := by
 intro pins s σ H Q I h
 obtain ⟨v, e, h⟩ := h
 obtain ⟨m, hn, hl⟩ := I.loc
 obtain ⟨u, r, l⟩ := hl i x v hN e hv
 have fin : EP X pins σ Q u s := ⟨v, H, I, r, h⟩
 rcases l with ⟨hk, hm⟩ | ⟨hk, c, hc, hcell⟩
 · exact wpAny_Name (wpAny_loadName_local I.ok.kind hk hn hm fin) hd
 · rcases hk with hk | hk
   · exact wpAny_Name (wpAny_loadName_cell I.ok.kind hk hc hcell fin) hd
   · exact wpAny_Name (wpAny_loadName_free I.ok.kind hk hc hcell fin hcd) hd
theorem pe_int {i j pos} : PE X (.Constant (.int i) j pos) (tC (.int i)) := fun _ _ _ H _ I h => wpAny_Constant_int ⟨.int i, H, I.tok _, ⟨_, rfl⟩, h⟩
theorem pe_bl {b j pos} : PE X (.Constant (.bool b) j pos) (tC (.bl b)) := fun _ _ _ H _ I h => Constant_bool ⟨.bl b, H, I, rfl, h⟩
theorem pe_non {j pos} : PE X (.Constant .none j pos) (tC .non) := fun _ _ _ H _ I h => Constant_none ⟨.non, H, I, rfl, h⟩
theorem pe_str {x j pos} : PE X (.Constant (.str x) j pos) (tC (.str x)) := fun _ _ _ H _ I h => Calls.Constant_str ⟨.str x, H, I.tok _, ⟨_, rfl⟩, h⟩
noncomputable def Gl (X : Cx) (x : Str) : Prop := X.env.kindOf x = some .globalImplicit
theorem ld_glob {E : Value → Shared → Prop} {pins : List (Addr × Obj)} {s : Shared} {σ : St} {H : Hp} {x : Str} {u : Value} {pos : Pos} {Q : Value → Shared → Prop} (I : Inv X pins σ H s) (hg : Gl X x) (hm : X.mg x = some u) (h : Q u s)
  (hd : (x == ("__debug__" : Str)) = false := by decide) : wpAny (model X.prog X.w) X.A (eval (.Name x pos) X.env) Q E s :=
 Calls.Name_function_global I.ok.kind hg (Calls.loadGlobal_global (by rw [I.ok.glob]; exact I.mod.glob.keeps I.bk) hm h) hd
theorem ld_blt {E : Value → Shared → Prop} {pins : List (Addr × Obj)} {s : Shared} {σ : St} {H : Hp} {x : Str} {u : Value} {pos : Pos} {Q : Value → Shared → Prop} (I : Inv X pins σ H s) (hg : Gl X x) (hm : X.mg x = none) (hv : bootBuiltins x = some u) (h : Q u s)
  (hn : x ≠ "__name__" := by decide) (hd : (x == ("__debug__" : Str)) = false := by decide) : wpAny (model X.prog X.w) X.A (eval (.Name x pos) X.env) Q E s := by
 obtain ⟨mb, h1, h2⟩ := I.mod.blt
 exact Calls.Name_function_global I.ok.kind hg (Calls.loadGlobal_builtin (by rw [I.ok.glob]; exact I.mod.glob.keeps I.bk) hm (by rw [I.ok.blt]; exact h1.keeps I.bk) ((h2 x hn).trans hv) h) hd
theorem pe_glob {x : Str} {v : V} {u : Value} {pos : Pos} (hg : Gl X x) (hm : X.mg x = some u) (r : RelV v u) (hd : (x == ("__debug__" : Str)) = false := by decide) : PE X (.Name x pos) (tC v) :=
 fun _ _ _ H _ I h => ld_glob I hg hm ⟨v, H, I, r, h⟩ hd
theorem pe_bltn {x : Str} {v : V} {u : Value} {pos : Pos} (hg : Gl X x) (hm : X.mg x = none) (hv : bootBuiltins x = some u) (r : RelV v u) (hn : x ≠ "__name__" := by decide) (hd : (x == ("__debug__" : Str)) = false := by decide) : PE X (.Name x pos) (tC v) :=
 fun _ _ _ H _ I h => ld_blt I hg hm hv ⟨v, H, I, r, h⟩ hn hd
variable {a b : Expr} {ta tb : TE} {pos : Pos}
noncomputable def PC (X : Cx) (op : CmpOp) (a b : Expr) (t : TE) : Prop :=
 ∀ (pins : List (Addr × Obj)) (s : Shared) (σ : St) (H : Hp) (Q : VK), Inv X pins σ H s → t σ H Q →
   wpAny (model X.prog X.w) X.A (eval a X.env) (fun v s₁ => wpAny (model X.prog X.w) X.A (eval b X.env) (fun u s₂ => wpAny (model X.prog X.w) X.A (compareOp op v u) (EP X pins σ Q) X.xe s₂) X.xe s₁) X.xe s
theorem nobehind (b : Expr) {op : CmpOp} (h : op ≠ .In) (h2 : op ≠ .NotIn) : behindInMarks op b = false := by
 have e1 : (op == CmpOp.In) = false := by cases op <;> first | rfl | exact absurd rfl h
 have e2 : (op == CmpOp.NotIn) = false := by cases op <;> first | rfl | exact absurd rfl h2
 cases b <;> simp [behindInMarks, e1, e2]
noncomputable def tB (t : TE) : TT := fun σ H Q => t σ H fun x H1 => ∃ c, x = .bl c ∧ Q c H1
theorem pe_cmp {op : CmpOp} {t : TE} (h : PC X op a b t) (h1 : behindInMarks op b = false := by first | exact nobehind _ (by decide) (by decide) | rfl) : PE X (.Compare a [op] [b] pos) t := fun pins s σ H Q I hw => wpAny_Compare1 (h pins s σ H Q I hw) h1
theorem pt_cmp {op : CmpOp} {t : TE} (h : PC X op a b t) (h1 : behindInMarks op b = false := by first | exact nobehind _ (by decide) (by decide) | rfl) : PT X (.Compare a [op] [b] pos) (tB t) := by
 intro pins s σ H Q I hw
 refine wpAny_isTrue_Compare1 (thn (h pins s σ H _ I hw) fun v s1 h1 => thn h1 fun u s2 h2 => thn h2 fun c s3 ⟨x, H1, I1, r1, q1⟩ => ?_) h1
 obtain ⟨d, rfl, q⟩ := q1
 cases r1
 exact wpAny_truthy_bool ⟨H1, I1, q⟩
theorem pt_val {e : Expr} {t : TE} (h : PE X e t) (he : ∀ whole, isTrue e X.env whole = (do let v ← whole; standAt e.pos; holding [v] (truthy v)) := by intro _; rfl) : PT X e (tB t) := by
 intro pins s σ H Q I hw
 refine isTrue_plain (thn (h pins s σ H _ I hw) fun v s1 ⟨x, H1, I1, r1, q1⟩ => ?_) (he _)
 obtain ⟨d, rfl, q⟩ := q1
 cases r1
 exact wpAny_truthy_bool ⟨H1, I1, q⟩
variable {tA tB' : TT} {rest : List Expr}
noncomputable def tAnd (t u : TT) : TT := fun σ H Q => t σ H fun c H1 => if c = true then u σ H1 Q else Q false H1
noncomputable def tOr (t u : TT) : TT := fun σ H Q => t σ H fun c H1 => if c = true then Q true H1 else u σ H1 Q
noncomputable def tNot (t : TT) : TT := fun σ H Q => t σ H fun c H1 => Q (!c) H1
theorem pw_and1 (ha : PT X a tA) : PW X (.BoolOp .And [a] pos) tA := by
 intro wh pins s σ H Q I h
 refine isTrue_and (thn (ha pins s σ H Q I h) fun c s1 e => ?_)
 cases c with
 | true => exact isTrue_and_nil e
 | false => exact e
theorem pw_or1 (ha : PT X a tA) : PW X (.BoolOp .Or [a] pos) tA := by
 intro wh pins s σ H Q I h
 refine isTrue_or (thn (ha pins s σ H Q I h) fun c s1 e => ?_)
 cases c with
 | false => exact isTrue_or_nil e
 | true => exact e
theorem pw_and (ha : PT X a tA) (hb : PW X (.BoolOp .And (b :: rest) pos) tB') : PW X (.BoolOp .And (a :: b :: rest) pos) (tAnd tA tB') := by
 intro wh pins s σ H Q I h
 refine isTrue_and (thn (ha pins s σ H _ I h) fun c s1 ⟨H1, I1, q1⟩ => ?_)
 cases c with
 | true => exact hb wh pins s1 σ H1 Q I1 q1
 | false => exact ⟨H1, I1, q1⟩
theorem pw_or (ha : PT X a tA) (hb : PW X (.BoolOp .Or (b :: rest) pos) tB') : PW X (.BoolOp .Or (a :: b :: rest) pos) (tOr tA tB') := by
 intro wh pins s σ H Q I h
 refine isTrue_or (thn (ha pins s σ H _ I h) fun c s1 ⟨H1, I1, q1⟩ => ?_)
 cases c with
 | true => exact ⟨H1, I1, q1⟩
 | false => exact hb wh pins s1 σ H1 Q I1 q1
theorem pt_not (ha : PT X a tA) : PT X (.UnaryOp .Not a pos) (tNot tA) := by
 intro pins s σ H Q I h
 exact isTrue_not (ha pins s σ H (fun c H1 => Q (!c) H1) I h)
noncomputable def tAndV (ta tb : TE) : TE := fun σ H Q => ta σ H fun x H1 => ∃ c, x = .bl c ∧ if c = true then tb σ H1 Q else Q (.bl false) H1
noncomputable def tNotV (ta : TE) : TE := fun σ H Q => ta σ H fun x H1 => ∃ c, x = .bl c ∧ Q (.bl (!c)) H1
theorem pe_one {op} {t : TE} (h : PE X a t) : PE X (.BoolOp op [a] pos) t := fun pins s σ H Q I hw => BoolOp_one (h pins s σ H Q I hw)
theorem pe_and (ha : PE X a ta) (hb : PE X (.BoolOp .And (b :: rest) pos) tb) : PE X (.BoolOp .And (a :: b :: rest) pos) (tAndV ta tb) := by
 intro pins s σ H Q I h
 refine BoolOp_and (thn (ha pins s σ H _ I h) fun v s1 ⟨x, H1, I1, r1, q1⟩ => ?_)
 obtain ⟨c, rfl, q1⟩ := q1
 cases r1
 refine wpAny_truthy_bool ?_
 cases c with
 | true => exact hb pins s1 σ H1 Q I1 q1
 | false => exact ⟨.bl false, H1, I1, rfl, q1⟩
theorem pe_not (ha : PE X a ta) : PE X (.UnaryOp .Not a pos) (tNotV ta) := by
 intro pins s σ H Q I h
 refine UnaryOp_ (thn (ha pins s σ H _ I h) fun v s1 ⟨x, H1, I1, r1, q1⟩ => ?_)
 obtain ⟨c, rfl, q1⟩ := q1
 cases r1
 exact not_of (wpAny_truthy_bool ⟨.bl (!c), H1, I1, rfl, q1⟩)
noncomputable def tIf (t : TT) (ta tb : TE) : TE := fun σ H Q => t σ H fun c H1 => if c = true then ta σ H1 Q else tb σ H1 Q
theorem pe_ifExp {c : Expr} (hc : PT X c tA) (ha : PE X a ta) (hb : PE X b tb) : PE X (.IfExp c a b pos) (tIf tA ta tb) := by
 intro pins s σ H Q I h
 refine wpAny_IfExp (thn (hc pins s σ H _ I h) fun d s1 ⟨H1, I1, q1⟩ => ?_)
 cases d with
 | true => exact ha pins s1 σ H1 Q I1 q1
 | false => exact hb pins s1 σ H1 Q I1 q1
end
noncomputable def SqL (K : PySem.W.Frag) (H : Hp) (a : Addr) (xs : List V) : Prop :=
 Rd H a (.lst xs) ∨
  ∃ (o : Obj) (its : Array Value) (n : Nat), K.lookup a = some o ∧ o.cls = .type "list" ∧ o.dict = none ∧ o.data = .seq its n ∧ its.size ≤ sizeLine ∧ Vals xs its.toList
noncomputable def SqT (K : PySem.W.Frag) (H : Hp) (a : Addr) (xs : List V) : Prop :=
 Rd H a (.tup xs) ∨
  ∃ (o : Obj) (its : Array Value) (n : Nat), K.lookup a = some o ∧ o.cls = .type "tuple" ∧ o.data = .seq its n ∧ its.size ≤ sizeLine ∧ Vals xs its.toList
noncomputable def absV : Value → Option V
 | .none => some .non
 | .bool b => some (.bl b)
 | .int i _ => some (.int i)
 | .str x _ => some (.str x)
 | .bytes b _ => some (.byt b)
 | .float b _ => some (.flt b)
 | .ref a => some (.ref a)
 | .type n => some (.ty n)
 | _ => none
theorem RelV.abs {x : V} {u : Value} (r : RelV x u) : absV u = some x := by
 cases x with
 | non => cases r; rfl
 | bl _ => cases r; rfl
 | int _ => obtain ⟨t, rfl⟩ := r; rfl
 | str _ => obtain ⟨t, rfl⟩ := r; rfl
 | byt _ => obtain ⟨t, rfl⟩ := r; rfl
 | flt _ => obtain ⟨t, rfl⟩ := r; rfl
 | ref _ => cases r; rfl
 | ty _ => cases r; rfl
theorem RelV.inj {x y : V} {u : Value} (r : RelV x u) (q : RelV y u) : x = y := Option.some.inj (r.abs.symm.trans q.abs)
theorem Vals.inj : ∀ {xs ys : List V} {us : List Value}, Vals xs us → Vals ys us → xs = ys
 | _, _, _, .nil, .nil => rfl
 | _, _, _, .cons r t, .cons r' t' => by rw [r.inj r', Vals.inj t t']
section
variable {X : Cx} {pins : List (Addr × Obj)} {σ : St} {H : Hp} {s : Shared} {a : Addr} {xs ys : List V}
theorem SqL.of {K : PySem.W.Frag} (h : H a = some (.lst xs)) : SqL K H a xs := .inl (.inl h)
theorem SqT.of {K : PySem.W.Frag} (h : H a = some (.tup xs)) : SqT K H a xs := .inl (.inl h)
theorem Inv.list (I : Inv X pins σ H s) (h : SqL X.K H a xs) : ∃ its : List Value, Vals xs its ∧ PlainL s.heap a its.toArray ∧ xs.length ≤ sizeLine := by
 rcases h with h | ⟨o, its, n, hk, hc, hd, hs, hz, r⟩
 · obtain ⟨z, its, n, r, e⟩ := h.ok I.hok
   exact ⟨its, r, ⟨_, n, e, rfl, rfl, rfl⟩, z⟩
 · refine ⟨its.toList, r, ⟨o, n, I.kIn a o hk, hc, hd, by simpa using hs⟩, ?_⟩
   have e := r.length
   simp only [Array.length_toList] at e
   omega
theorem Inv.tuple (I : Inv X pins σ H s) (h : SqT X.K H a xs) : ∃ its : List Value, Vals xs its ∧ IsTup s.heap a its.toArray ∧ xs.length ≤ sizeLine := by
 rcases h with h | ⟨o, its, n, hk, hc, hs, hz, r⟩
 · obtain ⟨z, its, r, p, _⟩ := h.ok I.hok
   exact ⟨its, r, p, z⟩
 · refine ⟨its.toList, r, ⟨o, I.kIn a o hk, hc, n, by simpa using hs⟩, ?_⟩
   have e := r.length
   simp only [Array.length_toList] at e
   omega
theorem Inv.list_inj (I : Inv X pins σ H s) (h : SqL X.K H a xs) (h' : SqL X.K H a ys) : xs = ys := by
 obtain ⟨its, r, ⟨o, n, e, _, _, d⟩, _⟩ := I.list h
 obtain ⟨its', r', ⟨o', n', e', _, _, d'⟩, _⟩ := I.list h'
 rw [e] at e'; cases e'
 rw [d] at d'
 injection d' with d1 _
 have : its = its' := by simpa using congrArg Array.toList d1
 subst this
 exact r.inj r'
theorem Inv.tuple_inj (I : Inv X pins σ H s) (h : SqT X.K H a xs) (h' : SqT X.K H a ys) : xs = ys := by
 obtain ⟨its, r, ⟨o, e, _, n, d⟩, _⟩ := I.tuple h
 obtain ⟨its', r', ⟨o', e', _, n', d'⟩, _⟩ := I.tuple h'
 rw [e] at e'; cases e'
 rw [d] at d'
 injection d' with d1 _
 have : its = its' := by simpa using congrArg Array.toList d1
 subst this
 exact r.inj r'
end
abbrev Cx.wish (X : Cx) (E : Value → Shared → Prop) : Cx := { X with xe := E }
abbrev Cx.nox (X : Cx) : Cx := X.wish fun _ _ => False
theorem Cx.Ok.wish {X : Cx} (ok : X.Ok) (E : Value → Shared → Prop) : (X.wish E).Ok :=
 ⟨ok.mod, ok.kind, ok.glob, ok.blt, ok.above, ok.inj, ok.has, ok.cab, ok.hd, ok.frames, ok.stk, ok.exf, ok.bs, ok.bsz, ok.noex, ok.exfs, ok.funs, ok.frf⟩
theorem Cx.Ok.unwish {X : Cx} {E : Value → Shared → Prop} (ok : (X.wish E).Ok) : X.Ok :=
 ⟨ok.mod, ok.kind, ok.glob, ok.blt, ok.above, ok.inj, ok.has, ok.cab, ok.hd, ok.frames, ok.stk, ok.exf, ok.bs, ok.bsz, ok.noex, ok.exfs, ok.funs, ok.frf⟩
section
variable {X : Cx} {pins : List (Addr × Obj)} {σ : St} {H : Hp} {s : Shared} {E : Value → Shared → Prop}
theorem Inv.wish (I : Inv X pins σ H s) (E : Value → Shared → Prop) : Inv (X.wish E) pins σ H s := ⟨I.ok.wish E, I.os, I.bare, I.base, I.loc, I.cell, I.free, I.freeC, I.pin, I.hok, I.len⟩
theorem Inv.unwish (I : Inv (X.wish E) pins σ H s) : Inv X pins σ H s := ⟨I.ok.unwish, I.os, I.bare, I.base, I.loc, I.cell, I.free, I.freeC, I.pin, I.hok, I.len⟩
theorem SP.unwish {D : Ends} {f : Flow} {s' : Shared} (h : SP (X.wish E) pins D f s') : SP X pins D f s' := by
 cases f with
 | next => obtain ⟨σ', H', I, q⟩ := h; exact ⟨σ', H', I.unwish, q⟩
 | brk => obtain ⟨σ', H', I, q⟩ := h; exact ⟨σ', H', I.unwish, q⟩
 | cont => obtain ⟨σ', H', I, q⟩ := h; exact ⟨σ', H', I.unwish, q⟩
 | ret u => obtain ⟨v, σ', H', I, r, q⟩ := h; exact ⟨v, σ', H', I.unwish, r, q⟩
theorem PSs.nox {st : List Stmt} {t : TS} (h : PSs X.nox st t) : PSs X st t := fun pins s σ H D I hw =>
 wpAny_mono (h pins s σ H D (I.wish _) hw) (fun _ _ q => q.unwish) fun _ _ z => False.elim z
end
section
variable {X : Cx} {st : Stmt} {rest : List Stmt} {t u : TS} {e : Expr} {te : TE} {pos : Pos}
noncomputable def tNext : TS := fun D σ H => D.nx σ H
noncomputable def tSeq (t u : TS) : TS := fun D σ H => t { D with nx := u D } σ H
theorem pss_nil : PSs X [] tNext := fun _ _ σ H _ I h => wpAny_execs_nil ⟨σ, H, I, h⟩
theorem pss_cons (h1 : PS X st t) (h2 : PSs X rest u) : PSs X (st :: rest) (tSeq t u) := by
 intro pins s σ H D I h
 refine wpAny_execs_cons (thn (h1 pins s σ H { D with nx := u D } I h) fun f s1 q => ?_)
 cases f with
 | next =>
   obtain ⟨σ', H', I', q⟩ := q
   exact h2 pins s1 σ' H' D I' q
 | ret v => exact q
 | brk => exact q
 | cont => exact q
theorem pss_one (h1 : PS X st t) : PSs X [st] t := by
 intro pins s σ H D I h
 refine wpAny_execs_cons (thn (h1 pins s σ H D I h) fun f s1 q => ?_)
 cases f with
 | next => exact wpAny_execs_nil q
 | ret v => exact q
 | brk => exact q
 | cont => exact q
noncomputable def tBreak : TS := fun D σ H => D.bk σ H
theorem ps_break : PS X (.Break pos) tBreak := fun _ _ σ H _ I h => wpAny_Break ⟨σ, H, I, h⟩
theorem Inv.quiet {pins : List (Addr × Obj)} {σ : St} {H : Hp} {s : Shared} (I : Inv X pins σ H s) : interactive X.env = false := by simp [interactive, I.ok.kind]
noncomputable def tDrop (te : TE) : TS := fun D σ H => te σ H fun _ H1 => D.nx σ H1
theorem ps_expr (he : PE X e te) (hs : swapsWith e none pos.line X.env = pure false := by rfl) : PS X (.Expr e pos) (tDrop te) := by
 intro pins s σ H D I h
 exact wpAny_Expr_any (thn (he pins s σ H _ I h) fun v s1 ⟨x, H1, I1, r1, q1⟩ => ⟨σ, H1, I1, q1⟩) I.quiet hs
noncomputable def tRet (te : TE) : TS := fun D σ H => te σ H D.rt
theorem ps_ret (he : PE X e te) : PS X (.Return (some e) pos) (tRet te) := by
 intro pins s σ H D I h
 exact wpAny_Return_some (thn (he pins s σ H _ I h) fun v s1 ⟨x, H1, I1, r1, q1⟩ => ⟨x, σ, H1, I1, r1, q1⟩)
noncomputable def tIfS (c : TT) (t u : TS) : TS := fun D σ H => c σ H fun b H1 => if b = true then t D σ H1 else u D σ H1
theorem ps_if {c : Expr} {a b : List Stmt} {tc : TT} (hc : PT X c tc) (ha : PSs X a t) (hb : PSs X b u) : PS X (.If c a b pos) (tIfS tc t u) := by
 intro pins s σ H D I h
 refine wpAny_If (thn (hc pins s σ H _ I h) fun d s1 ⟨H1, I1, q1⟩ => ?_)
 cases d with
 | true => exact ha pins s1 σ H1 D I1 q1
 | false => exact hb pins s1 σ H1 D I1 q1
noncomputable def tNever : TS := fun _ _ _ => False
theorem ps_never : PS X st tNever := fun _ _ _ _ _ _ h => h.elim
end
abbrev TG := V → St → Hp → (St → Hp → Prop) → Prop
abbrev TGs := List V → St → Hp → (St → Hp → Prop) → Prop
noncomputable def PG (X : Cx) (target : Expr) (t : TG) : Prop :=
 ∀ (pins : List (Addr × Obj)) (s : Shared) (σ : St) (H : Hp) (v : V) (u : Value) (Q : St → Hp → Prop), Inv X pins σ H s → RelV v u → t v σ H Q →
   wpAny (model X.prog X.w) X.A (assign target X.env u) (fun _ s' => ∃ σ' H', Inv X pins σ' H' s' ∧ Q σ' H') X.xe s
noncomputable def PGs (X : Cx) (ts : List Expr) (t : TGs) : Prop :=
 ∀ (pins : List (Addr × Obj)) (s : Shared) (σ : St) (H : Hp) (vs : List V) (us : List Value) (Q : St → Hp → Prop), Inv X pins σ H s → Vals vs us → t vs σ H Q →
   wpAny (model X.prog X.w) X.A (assignInOrder ((assignEach ts X.env).map (·.2)) us) (fun _ s' => ∃ σ' H', Inv X pins σ' H' s' ∧ Q σ' H') X.xe s
abbrev TSet := V → V → V → Hp → (Hp → Prop) → Prop
noncomputable def PSet (X : Cx) (t : TSet) : Prop :=
 ∀ (pins : List (Addr × Obj)) (s : Shared) (σ : St) (H : Hp) (o i v : V) (ov iv u : Value) (Q : Hp → Prop), Inv X pins σ H s → RelV o ov → RelV i iv → RelV v u → t o i v H Q →
   wpAny (model X.prog X.w) X.A (setItem ov iv u) (fun _ s' => ∃ H', Inv X pins σ H' s' ∧ Q H') X.xe s
abbrev TIp := V → V → Hp → VK → Prop
noncomputable def PIp (X : Cx) (op : Operator) (t : TIp) : Prop :=
 ∀ (pins : List (Addr × Obj)) (s : Shared) (σ : St) (H : Hp) (x y : V) (v u : Value) (Q : VK), Inv X pins σ H s → RelV x v → RelV y u → t x y H Q →
   wpAny (model X.prog X.w) X.A (inplaceOp op v u) (EP X pins σ Q) X.xe s
section
variable {X : Cx} {pos : Pos}
noncomputable def gName (i : Nat) : TG := fun v σ H Q => Q (σ.set i (some v)) H
theorem pg_name {i : Nat} {x : Str} (hN : X.N.Nodup) (hi : X.N[i]? = some x) (hx : Loc X.env.scope x) (hf : X.fn x = true ∨ X.env.scope.names.lookup x = some .local := by first | exact .inl rfl | exact .inr rfl | assumption) : PG X (.Name x pos) (gName i) := by
 intro pins s σ H v u Q I r h
 exact wpAny_assign_Name (store_ok I hN hi hx r (fun s' I' => ⟨_, H, I', h⟩) hf)
noncomputable def gNil : TGs := fun vs σ H Q => vs = [] ∧ Q σ H
noncomputable def gCons (t : TG) (u : TGs) : TGs := fun vs σ H Q => ∃ v r, vs = v :: r ∧ t v σ H fun σ' H' => u r σ' H' Q
theorem pgs_nil : PGs X [] gNil := by
 intro pins s σ H vs us Q I r h
 obtain ⟨e, h⟩ := h
 subst e
 cases r
 exact assignInOrder_nil ⟨σ, H, I, h⟩
theorem pgs_cons {e : Expr} {es : List Expr} {t : TG} {u : TGs} (h1 : PG X e t) (h2 : PGs X es u)
  (hs : (assignEach (e :: es) X.env).map (·.2) = assign e X.env :: (assignEach es X.env).map (·.2) := by rfl) : PGs X (e :: es) (gCons t u) := by
 intro pins s σ H vs us Q I r h
 obtain ⟨v, vr, e1, h⟩ := h
 subst e1
 cases r with
 | cons r rr =>
   rw [hs]
   refine assignInOrder_cons (thn (h1 pins s σ H _ _ _ I r h) fun _ s1 ⟨σ1, H1, I1, q1⟩ => ?_)
   exact h2 pins s1 σ1 H1 _ _ Q I1 rr q1
noncomputable def gTup (K : PySem.W.Frag) (n : Nat) (t : TGs) : TG := fun v σ H Q => ∃ a xs, v = .ref a ∧ SqT K H a xs ∧ xs.length = n ∧ t xs σ H Q
theorem pg_tup {es : List Expr} {k : Nat} {t : TGs} {n : Nat} (hc : X.calm = true) (h : PGs X es t)
  (hn : (assignEach es X.env).length = n := by rfl) (hst : (assignEach es X.env).findIdx? (·.1) = none := by rfl) : PG X (.Tuple es k pos) (gTup X.K n t) := by
 intro pins s σ H v u Q I r hw
 obtain ⟨a, xs, e1, hq, hl, hw⟩ := hw
 subst e1
 cases r
 obtain ⟨its, rv, ht, hz⟩ := I.tuple hq
 refine assign_Tuple_tuple (I.ok.hd hc) ht (by simp [hn, ← hl, rv.length]) hst fun h' hx => ?_
 have I1 : Inv X pins σ H { s with heap := h' } := I.kept (t' := s.toks) fun b o e => hx b o (Nat.ne_of_lt (Heap.lt_size e)) e
 exact h pins _ σ H xs _ Q I1 (by simpa using rv) hw
noncomputable def gSub (to ti : TE) (t : TSet) : TG := fun v σ H Q => to σ H fun o H1 => ti σ H1 fun i H2 => t o i v H2 fun H3 => Q σ H3
theorem pg_sub {o i : Expr} {to ti : TE} {t : TSet} (ho : PE X o to) (hi : PE X i ti) (hs : PSet X t)
  (ha : ∀ v, assign (.Subscript o i pos) X.env v = (do
   let ov ← holding [v] (eval o X.env)
   let iv ← holding [v, ov] (eval i X.env)
   standAt pos
   holding [v, ov, iv] (setItem ov iv v)
   release [v, ov, iv] []) := by intro _; rfl) : PG X (.Subscript o i pos) (gSub to ti t) := by
 intro pins s σ H v u Q I r h
 rw [ha]
 refine wpAny_bind (wpAny_holding (thn (ho pins s σ H _ I h) fun ov s1 ⟨x, H1, I1, r1, q1⟩ => ?_))
 refine wpAny_bind (wpAny_holding (thn (hi pins s1 σ H1 _ I1 q1) fun iv s2 ⟨y, H2, I2, r2, q2⟩ => ?_))
 refine wpAny_bind (wpAny_standAt (wpAny_bind (wpAny_holding (thn (hs pins s2 σ H2 x y v ov iv u _ I2 r1 r2 r q2) fun _ s3 ⟨H3, I3, q3⟩ => ?_))))
 exact wpAny_release ⟨σ, H3, I3, q3⟩
noncomputable def tAsg (te : TE) (g : TG) : TS := fun D σ H => te σ H fun x H1 => g x σ H1 D.nx
theorem ps_asg {tg e : Expr} {te : TE} {g : TG} (he : PE X e te) (hg : PG X tg g) (hs : swapsWithSole [tg] e pos.line X.env = pure false := by rfl) (hw : swappedStores [tg] e X.env = pure none := by rfl)
  (h1 : (assignEach [tg] X.env).map (·.2) = [assign tg X.env] := by rfl) : PS X (.Assign [tg] e pos) (tAsg te g) := by
 intro pins s σ H D I h
 refine wpAny_Assign_stores (thn (he pins s σ H _ I h) fun v s1 ⟨x, H1, I1, r1, q1⟩ => ?_) hs hw
 rw [h1]
 exact thn (hg pins s1 σ H1 x v _ I1 r1 q1) fun _ s2 q => q
theorem ps_set {i : Nat} {x : Str} {e : Expr} {te : TE} {pos' : Pos} (hN : X.N.Nodup) (hi : X.N[i]? = some x) (hx : Loc X.env.scope x) (he : PE X e te) (hs : swapsWith e (some (.Name x pos')) pos.line X.env = pure false := by rfl) (hf : X.fn x = true ∨ X.env.scope.names.lookup x = some .local := by first | exact .inl rfl | exact .inr rfl | assumption) :
  PS X (.Assign [.Name x pos'] e pos) (tAsg te (gName i)) := by
 intro pins s σ H D I h
 refine wpAny_Assign_Name (thn (he pins s σ H _ I h) fun v s1 ⟨y, H1, I1, r1, q1⟩ => ?_) hs
 exact store_ok I1 hN hi hx r1 (fun s2 I2 => ⟨_, H1, I2, q1⟩) hf
noncomputable def tAug (i : Nat) (te : TE) (ti : TIp) : TS := fun D σ H => ∃ x, σ[i]? = some (some x) ∧ te σ H fun y H1 => ti x y H1 fun z H2 => D.nx (σ.set i (some z)) H2
theorem ps_aug {i : Nat} {x : Str} {e : Expr} {te : TE} {op : Operator} {ti : TIp} {pos' : Pos} (hN : X.N.Nodup) (hi : X.N[i]? = some x) (hx : Loc X.env.scope x) (he : PE X e te) (ho : PIp X op ti) (hf : X.fn x = true ∨ X.env.scope.names.lookup x = some .local := by first | exact .inl rfl | exact .inr rfl | assumption) :
  PS X (.AugAssign (.Name x pos') op e pos) (tAug i te ti) := by
 intro pins s σ H D I h
 obtain ⟨v, e1, h⟩ := h
 obtain ⟨m, hn, hl⟩ := I.loc
 have vis : Vis X.env.scope x := by rcases hx with k | k; exact .inl k; exact .inr (.inl k)
 obtain ⟨u, r, l⟩ := hl i x v hi e1 vis
 refine wpAny_AugAssign_Name ?_
 have go : wpAny (model X.prog X.w) X.A (eval e X.env) (fun w s₂ => wpAny (model X.prog X.w) X.A (inplaceOp op u w) (fun r s₃ => wpAny (model X.prog X.w) X.A (storeName X.env x r) (fun _ => SP X pins D .next) X.xe s₃) X.xe s₂) X.xe s := by
  refine thn (he pins s σ H _ I h) fun w s1 ⟨y, H1, I1, r1, q1⟩ => ?_
  refine thn (ho pins s1 σ H1 v y u w _ I1 r r1 q1) fun z s2 ⟨zv, H2, I2, r2, q2⟩ => ?_
  exact store_ok I2 hN hi hx r2 (fun s3 I3 => ⟨_, H2, I3, q2⟩) hf
 rcases l with ⟨hk, hm⟩ | ⟨hk, c, hc, hcell⟩
 · exact wpAny_loadName_local I.ok.kind hk hn hm go
 · rcases hk with hk | hk
   · exact wpAny_loadName_cell I.ok.kind hk hc hcell go
   · rcases hx with k | k
     · have : X.env.scope.names.lookup x = some .free := hk
       rw [k] at this; cases this
     · have : X.env.scope.names.lookup x = some .free := hk
       rw [k] at this; cases this
noncomputable def ipI (f : Int → Int → Int) : TIp := fun x y H Q => ∃ i j, x = .int i ∧ y = .int j ∧ Q (.int (f i j)) H
theorem ip_add : PIp X .Add (ipI fun i j => i + j) := by
 intro pins s σ H x y v u Q I r1 r2 h
 obtain ⟨i, j, e1, e2, q⟩ := h
 subst e1; subst e2
 obtain ⟨t, rfl⟩ := r1
 obtain ⟨t', rfl⟩ := r2
 exact iadd_int ⟨.int _, H, I.tok _, ⟨_, rfl⟩, q⟩
end
section
variable {X : Cx} {pos : Pos}
end
structure It where
 go : Nat → Hp → Prop
 yld : Nat → Hp → V → Hp → Prop
 stop : Nat → Hp → Prop
noncomputable def FpOk (X : Cx) (pins : List (Addr × Obj)) (H : Hp) (b : Addr) : Prop :=
 H b = none ∧ b ≠ X.env.locals ∧ b ∉ X.fs ∧ (b ∈ X.ex ∨ X.s₀.heap.objs.size ≤ b) ∧ (∀ x c, X.env.cells.lookup x = some c → c ≠ b) ∧ ∀ p ∈ X.pn ++ pins, p.1 ≠ b
theorem Inv.fpOk {X : Cx} {pins : List (Addr × Obj)} {σ : St} {H H' : Hp} {s : Shared} {b : Addr} (I : Inv X pins σ H s) (hb : s.heap.objs.size ≤ b) (hn : H' b = none) : FpOk X pins H' b := by
 refine ⟨hn, Nat.ne_of_gt (Nat.lt_of_lt_of_le I.lt hb), I.nofs hb, .inr (Nat.le_trans I.sz hb), fun x c e z => ?_, fun p hp z => ?_⟩
 · obtain ⟨v, q⟩ := I.cell x c e
   exact absurd (Nat.lt_of_lt_of_le q.lt (by rw [z]; exact hb)) (Nat.lt_irrefl _)
 · exact absurd (Nat.lt_of_lt_of_le (Heap.lt_size (I.pin p hp).1) (by rw [z]; exact hb)) (Nat.lt_irrefl _)
structure Turn (P : Program) (w : World) (K : PySem.W.Frag) (tg : Expr) (J : It) (fp : List Addr) (it : Addr) (tn : Nat → Heap → Prop) : Prop where
 mem : it ∈ fp
 obj : ∀ i h, tn i h → ∀ b ∈ fp, ∃ o, h.get? b = some o ∧ ∀ v, o.data ≠ .cell v
 keep : ∀ i h h', tn i h → (∀ b ∈ fp, ∀ o, h.get? b = some o → h'.get? b = some o) → tn i h'
 item : ∀ (X : Cx), X.prog = P → X.w = w → X.K = K → X.calm = true → ∀ (i : Nat) (pins : List (Addr × Obj)) (s : Shared) (σ : St) (H : Hp) (E : Value → Shared → Prop), Inv X pins σ H s → (∀ b ∈ fp, FpOk X pins H b) → tn i s.heap → J.go i H →
  wpAny (model P w) X.A (pyNext (.ref it)) (fun r s1 => ∃ u, r = some u ∧
   wpAny (model P w) X.A (letOwnedTupleGo tg (.ref it) u) (fun _ s2 => ∃ x H', Inv X pins σ H' s2 ∧ RelV x u ∧ J.yld i H x H' ∧ tn (i + 1) s2.heap ∧ ∀ b ∈ fp, H' b = none) E s1) E s
 done : ∀ (X : Cx), X.prog = P → X.w = w → X.K = K → X.calm = true → ∀ (i : Nat) (pins : List (Addr × Obj)) (s : Shared) (σ : St) (H : Hp) (E : Value → Shared → Prop), Inv X pins σ H s → (∀ b ∈ fp, FpOk X pins H b) → tn i s.heap → J.stop i H →
  wpAny (model P w) X.A (pyNext (.ref it)) (fun r s1 => r = none ∧ Inv X pins σ H s1) E s
 self : ∀ (A : Around) (i : Nat) (s : Shared) (Q : Value → Shared → Prop) (E : Value → Shared → Prop), tn i s.heap → Q (.ref it) s → wpAny (model P w) A (pyIter (.ref it)) Q E s
abbrev TI := St → Hp → (It → Hp → Prop) → Prop
noncomputable def PIE (X : Cx) (pins : List (Addr × Obj)) (σ : St) (tg : Expr) (R : It → Hp → Prop) (itv : Value) (s2 : Shared) : Prop :=
 ∃ (it : Addr) (fp : List Addr) (tn : Nat → Heap → Prop) (J : It) (H' : Hp), itv = .ref it ∧ Inv X pins σ H' s2 ∧ Turn X.prog X.w X.K tg J fp it tn ∧ tn 0 s2.heap ∧ (∀ b ∈ fp, FpOk X pins H' b) ∧ R J H'
noncomputable def PI (X : Cx) (tg iter : Expr) (wi : TI) : Prop :=
 ∀ (pins : List (Addr × Obj)) (s : Shared) (σ : St) (H : Hp) (R : It → Hp → Prop), Inv X pins σ H s → wi σ H R →
   wpAny (model X.prog X.w) X.A (eval iter X.env) (fun v s1 => wpAny (model X.prog X.w) X.A (pyIter v) (PIE X pins σ tg R) X.xe s1) X.xe s
theorem go_of {M : Model} {A : Around} {E : Value → Shared → Prop} {s : Shared} {tg : Expr} {it : Addr} {u : Value} {o : Obj} {n : String} {vs : Array Value} {Q : Unit → Shared → Prop} (ho : s.heap.get? it = some o) (hc : o.cls = .type n) (hd : o.data = .fields vs)
  (hn : ["enumerate", "zip", "dict_itemiterator", "dict_reverseitemiterator", "odict_iterator", "itertools.zip_longest", "itertools.pairwise"].contains n = false) (hQ : Q () s) : wpAny M A (letOwnedTupleGo tg (.ref it) u) Q E s := by
 unfold letOwnedTupleGo
 cases tg <;> first
  | exact wpAny_pure hQ
  | (cases u <;> first
   | exact wpAny_pure hQ
   | (refine wpAny_bind (wpAny_load ho ?_)
      rw [hc, hd]
      show wpAny M A (if (["enumerate", "zip", "dict_itemiterator", "dict_reverseitemiterator", "odict_iterator", "itertools.zip_longest", "itertools.pairwise"].contains n && vs[0]? == some (rawInt _)) = true then _ else _) Q E s
      rw [if_neg (by intro h; rw [hn, Bool.false_and] at h; cases h)]
      exact wpAny_pure hQ))
noncomputable def Itl (K : PySem.W.Frag) (a : Addr) : It :=
 ⟨fun i H => ∃ xs x, SqL K H a xs ∧ xs[i]? = some x, fun i H x H' => H' = H ∧ ∀ xs, SqL K H a xs → xs[i]? = some x, fun i H => ∃ xs, SqL K H a xs ∧ xs.length ≤ i⟩
noncomputable def Itt (K : PySem.W.Frag) (a : Addr) : It :=
 ⟨fun i H => ∃ xs x, SqT K H a xs ∧ xs[i]? = some x, fun i H x H' => H' = H ∧ ∀ xs, SqT K H a xs → xs[i]? = some x, fun i H => ∃ xs, SqT K H a xs ∧ xs.length ≤ i⟩
noncomputable def Itr (lo : Int) (n : Nat) : It := ⟨fun i _ => i < n, fun i H x H' => H' = H ∧ x = .int (lo + i), fun i _ => n ≤ i⟩
theorem turn_list {P : Program} {w : World} {K : PySem.W.Frag} {tg : Expr} (a it : Addr) : Turn P w K tg (Itl K a) [it] it (fun i h => h.IsListIter it a i) where
 mem := by simp
 obj := fun i h st b hb => by
  have e : b = it := by simpa using hb
  subst e
  obtain ⟨o, e, c, d⟩ := st
  exact ⟨o, e, fun v z => by rw [d] at z; cases z⟩
 keep := fun i h h' st k => st.at fun o e => k it (by simp) o e
 item := by
  intro X hP hw hK hc i pins s σ H E I hf st hg
  subst hP hw hK
  obtain ⟨xs, x, hq, hx⟩ := hg
  obtain ⟨its, rv, p, hz⟩ := I.list hq
  obtain ⟨u, hu, ru⟩ := rv.get hx
  obtain ⟨f0, f1, f2, f3, f4, f5⟩ := hf it (by simp)
  refine wpAny_pyNext_list_item st p.isList (x := u) (by simpa using hu) fun h' st' sb => ?_
  have I1 : Inv X pins σ H { s with heap := h' } := I.turned (t' := s.toks) (fun b o hb e => (sb.2 b hb).trans e) f0 f1 f3 f4 f5
  obtain ⟨o, e, c, d⟩ := id st'
  exact ⟨u, rfl, go_of (s := { s with heap := h' }) e c d (by decide) ⟨x, H, I1, ru, ⟨rfl, fun ys hy => by rw [I.list_inj hy hq]; exact hx⟩, st', fun b hb => (hf b hb).1⟩⟩
 done := by
  intro X hP hw hK hc i pins s σ H E I hf st hg
  subst hP hw hK
  obtain ⟨xs, hq, hx⟩ := hg
  obtain ⟨its, rv, p, hz⟩ := I.list hq
  obtain ⟨f0, f1, f2, f3, f4, f5⟩ := hf it (by simp)
  have hl := rv.length
  exact wpAny_pyNext_list_end (I.ok.hd hc) st p.isList (by simp; omega) fun h' eb => ⟨rfl, I.turned (t' := s.toks) (fun b o hb e => eb b o hb e) f0 f1 f3 f4 f5⟩
 self := fun _ _ _ _ _ st h => wpAny_pyIter_listiter st h
theorem turn_tuple {P : Program} {w : World} {K : PySem.W.Frag} {tg : Expr} (a it : Addr) : Turn P w K tg (Itt K a) [it] it (fun i h => h.IsTupleIter it a i) where
 mem := by simp
 obj := fun i h st b hb => by
  have e : b = it := by simpa using hb
  subst e
  obtain ⟨o, e, c, d⟩ := st
  exact ⟨o, e, fun v z => by rw [d] at z; cases z⟩
 keep := fun i h h' st k => st.at fun o e => k it (by simp) o e
 item := by
  intro X hP hw hK hc i pins s σ H E I hf st hg
  subst hP hw hK
  obtain ⟨xs, x, hq, hx⟩ := hg
  obtain ⟨its, rv, p, hz⟩ := I.tuple hq
  obtain ⟨u, hu, ru⟩ := rv.get hx
  obtain ⟨f0, f1, f2, f3, f4, f5⟩ := hf it (by simp)
  refine wpAny_pyNext_tuple_item st (show s.heap.IsTuple a its.toArray from p) (x := u) (by simpa using hu) fun h' st' sb => ?_
  have I1 : Inv X pins σ H { s with heap := h' } := I.turned (t' := s.toks) (fun b o hb e => (sb.2 b hb).trans e) f0 f1 f3 f4 f5
  obtain ⟨o, e, c, d⟩ := id st'
  exact ⟨u, rfl, go_of (s := { s with heap := h' }) e c d (by decide) ⟨x, H, I1, ru, ⟨rfl, fun ys hy => by rw [I.tuple_inj hy hq]; exact hx⟩, st', fun b hb => (hf b hb).1⟩⟩
 done := by
  intro X hP hw hK hc i pins s σ H E I hf st hg
  subst hP hw hK
  obtain ⟨xs, hq, hx⟩ := hg
  obtain ⟨its, rv, p, hz⟩ := I.tuple hq
  obtain ⟨f0, f1, f2, f3, f4, f5⟩ := hf it (by simp)
  have hl := rv.length
  exact wpAny_pyNext_tuple_end (I.ok.hd hc) st (show s.heap.IsTuple a its.toArray from p) (by simp; omega) fun h' eb => ⟨rfl, I.turned (t' := s.toks) (fun b o hb e => eb b o hb e) f0 f1 f3 f4 f5⟩
 self := fun _ _ _ _ _ st h => wpAny_pyIter_tupleiter st h
theorem turn_range {P : Program} {w : World} {K : PySem.W.Frag} {tg : Expr} (it : Addr) (lo : Int) (n : Nat) : Turn P w K tg (Itr lo n) [it] it (fun i h => IsRangeIter h it (lo + (i : Nat) * 1) ((n : Int) - (i : Nat)) 1) where
 mem := by simp
 obj := fun i h st b hb => by
  have e : b = it := by simpa using hb
  subst e
  exact ⟨_, st, fun v z => by
   have z' : Data.fields _ = Data.cell v := z
   cases z'⟩
 keep := fun i h h' st k => k it (by simp) _ st
 item := by
  intro X hP hw hK hc i pins s σ H E I hf st hg
  subst hP hw hK
  obtain ⟨f0, f1, f2, f3, f4, f5⟩ := hf it (by simp)
  have W := Walks.range (prog := X.prog) (w := X.w) (I.ok.hd hc) it lo 1 n
  refine W.item i s _ _ hg st fun v h' tk hv st' kk => ?_
  obtain ⟨t, rfl⟩ := hv
  have I1 : Inv X pins σ H { s with heap := h', toks := tk } := I.turned (fun b o hb e => kk b o (by simpa using hb) e) f0 f1 f3 f4 f5
  refine ⟨_, rfl, go_of (s := { s with heap := h', toks := tk }) (n := "range_iterator") st' rfl rfl (by decide) ⟨.int (lo + i), H, I1, ⟨t, ?_⟩, ⟨rfl, rfl⟩, st', fun b hb => (hf b hb).1⟩⟩
  rw [Int.mul_one]
 done := by
  intro X hP hw hK hc i pins s σ H E I hf st hg
  subst hP hw hK
  obtain ⟨f0, f1, f2, f3, f4, f5⟩ := hf it (by simp)
  exact wpAny_pyNext_range_end (I.ok.hd hc) st (by have : n ≤ i := hg; omega) fun h' eb => ⟨rfl, I.turned (t' := s.toks) (fun b o hb e => eb b o hb e) f0 f1 f3 f4 f5⟩
 self := fun _ _ _ _ _ st h => wpAny_pyIter_rangeiter st h
section
variable {X : Cx} {tg : Expr}
noncomputable def iList (K : PySem.W.Frag) (tl : TE) : TI := fun σ H R => tl σ H fun x H1 => ∃ a, x = .ref a ∧ (∃ xs, SqL K H1 a xs) ∧ R (Itl K a) H1
noncomputable def iTup (K : PySem.W.Frag) (tl : TE) : TI := fun σ H R => tl σ H fun x H1 => ∃ a, x = .ref a ∧ (∃ xs, SqT K H1 a xs) ∧ R (Itt K a) H1
theorem pi_list {l : Expr} {tl : TE} (hl : PE X l tl) : PI X tg l (iList X.K tl) := by
 intro pins s σ H R I h
 refine thn (hl pins s σ H _ I h) fun v s1 ⟨x, H1, I1, r1, q1⟩ => ?_
 obtain ⟨a, e, ⟨xs, hq⟩, q⟩ := q1
 subst e
 cases r1
 obtain ⟨its, rv, p, hz⟩ := I1.list hq
 refine wpAny_pyIter_list p.isList ?_
 refine ⟨s1.heap.objs.size, [s1.heap.objs.size], _, _, H1, rfl, I1.kept (t' := s1.toks) fun b o e => Heap.get?_push_of_some _ e, turn_list a _, ⟨_, Heap.get?_push_size _ rfl, rfl, rfl⟩, fun b hb => ?_, q⟩
 have e : b = s1.heap.objs.size := by simpa using hb
 subst e
 exact I1.fpOk (Nat.le_refl _) (I1.hok.fresh (Nat.le_refl _))
theorem pi_tup {l : Expr} {tl : TE} (hl : PE X l tl) : PI X tg l (iTup X.K tl) := by
 intro pins s σ H R I h
 refine thn (hl pins s σ H _ I h) fun v s1 ⟨x, H1, I1, r1, q1⟩ => ?_
 obtain ⟨a, e, ⟨xs, hq⟩, q⟩ := q1
 subst e
 cases r1
 obtain ⟨its, rv, p, hz⟩ := I1.tuple hq
 refine wpAny_pyIter_tuple (show s1.heap.IsTuple a its.toArray from p) ?_
 refine ⟨s1.heap.objs.size, [s1.heap.objs.size], _, _, H1, rfl, I1.kept (t' := s1.toks) fun b o e => Heap.get?_push_of_some _ e, turn_tuple a _, ⟨_, Heap.get?_push_size _ rfl, rfl, rfl⟩, fun b hb => ?_, q⟩
 have e : b = s1.heap.objs.size := by simpa using hb
 subst e
 exact I1.fpOk (Nat.le_refl _) (I1.hok.fresh (Nat.le_refl _))
theorem range_it {pins : List (Addr × Obj)} {σ : St} {H : Hp} {s : Shared} {R : It → Hp → Prop} {E : Value → Shared → Prop} {lo hi : Int} {t u v : Tok} {tk : Nat} (I : Inv X pins σ H s) (h1 : -(2 ^ 62) ≤ lo) (h2 : lo < 2 ^ 62) (h3 : -(2 ^ 62) ≤ hi) (h4 : hi < 2 ^ 62)
  (q : R (Itr lo (hi - lo).toNat) H) : wpAny (model X.prog X.w) X.A (pyIter (.ref s.heap.objs.size)) (PIE X pins σ tg R) E { s with heap := s.heap.push { cls := .type "range", data := .fields #[.int lo t, .int hi u, .int 1 v] }, toks := tk } := by
 refine wpAny_pyIter_range (IsRange.new ..) (small_one h1 h2 h3 h4) ?_
 have I1 : Inv X pins σ H { s with heap := s.heap.push { cls := .type "range", data := .fields #[.int lo t, .int hi u, .int 1 v] }, toks := tk } := I.kept fun b o e => Heap.get?_push_of_some _ e
 refine ⟨(s.heap.push { cls := .type "range", data := .fields #[.int lo t, .int hi u, .int 1 v] }).objs.size, [(s.heap.push { cls := .type "range", data := .fields #[.int lo t, .int hi u, .int 1 v] }).objs.size], _, _, H, rfl,
  I1.kept (t' := tk) fun b o e => Heap.get?_push_of_some _ e, turn_range _ lo (hi - lo).toNat, ?_, fun b hb => ?_, q⟩
 · have e1 : lo + ((0 : Nat) : Int) * 1 = lo := by simp
   have e2 : (((hi - lo).toNat : Nat) : Int) - ((0 : Nat) : Int) = Builtin.Range.rangeSize lo hi 1 := by rw [rangeSize_one]; split <;> omega
   show IsRangeIter _ _ (lo + ((0 : Nat) : Int) * 1) ((((hi - lo).toNat : Nat) : Int) - ((0 : Nat) : Int)) 1
   rw [e1, e2]
   exact Heap.get?_push_size _ rfl
 · have e : b = (s.heap.push { cls := .type "range", data := .fields #[.int lo t, .int hi u, .int 1 v] }).objs.size := by simpa using hb
   subst e
   exact I1.fpOk (Nat.le_refl _) (I1.hok.fresh (Nat.le_refl _))
noncomputable def iRng1 (ta : TA) : TI := fun σ H R => ta σ H fun vs H1 => ∃ j : Int, vs = [.int j] ∧ -(2 ^ 62) ≤ j ∧ j < 2 ^ 62 ∧ R (Itr 0 j.toNat) H1
noncomputable def iRng2 (ta : TA) : TI := fun σ H R => ta σ H fun vs H1 => ∃ i j : Int, vs = [.int i, .int j] ∧ (-(2 ^ 62) ≤ i ∧ i < 2 ^ 62 ∧ -(2 ^ 62) ≤ j ∧ j < 2 ^ 62) ∧ R (Itr i (j - i).toNat) H1
theorem pi_range1 {a : Expr} {ta : TA} {p pos : Pos} (hg : Gl X "range") (hm : X.mg "range" = none) (ha : PA X [a] ta) (hs : starEach [a] X.env = [(false, eval a X.env)] := by rfl) : PI X tg (.Call (.Name "range" p) [a] [] pos) (iRng1 ta) := by
 intro pins s σ H R I h
 refine Call_ (ld_blt I hg hm boot_range (PyProof.Rows.callWith_type1 (thn (ha pos pins s σ H _ I h) fun us s1 ⟨vs, H1, I1, r1, q1⟩ => ?_) hs rfl))
 obtain ⟨j, e, q1, q2, q⟩ := q1
 subst e
 cases r1 with
 | cons r rr =>
   cases rr
   obtain ⟨t, rfl⟩ := r
   exact call_range_1 (range_it I1 (by omega) (by omega) q1 q2 (by simpa using q))
theorem pi_range2 {a b : Expr} {ta : TA} {p pos : Pos} (hg : Gl X "range") (hm : X.mg "range" = none) (ha : PA X [a, b] ta) (hs : starEach [a, b] X.env = [(false, eval a X.env), (false, eval b X.env)] := by rfl) (hs2 : starEach [b] X.env = [(false, eval b X.env)] := by rfl) :
  PI X tg (.Call (.Name "range" p) [a, b] [] pos) (iRng2 ta) := by
 intro pins s σ H R I h
 refine Call_ (ld_blt I hg hm boot_range (PyProof.Rows.callWith_type1 (thn (ha pos pins s σ H _ I h) fun us s1 ⟨vs, H1, I1, r1, q1⟩ => ?_) (by rw [hs, hs2]) (by rw [hs2]; rfl)))
 obtain ⟨i, j, e, ⟨q1, q2, q3, q4⟩, q⟩ := q1
 subst e
 cases r1 with
 | cons r rr =>
   cases rr with
   | cons r' rr =>
     cases rr
     obtain ⟨t, rfl⟩ := r
     obtain ⟨t', rfl⟩ := r'
     exact call_range_2 (range_it I1 q1 q2 q3 q4 q)
noncomputable def tFor (wi : TI) (g : TG) (tb : TS) : TS := fun D σ H => wi σ H fun J H1 => ∃ W : Nat → Nat → St → Hp → Prop, (∃ m, W 0 m σ H1) ∧ ∀ i m σ H, W i m σ H →
 (J.stop i H ∧ D.nx σ H) ∨ (J.go i H ∧ ∃ N : St → Hp → Prop, (∀ σ' H', N σ' H' → ∃ m', m' < m ∧ W (i + 1) m' σ' H') ∧ ∀ x H', J.yld i H x H' → g x σ H' fun σ2 H2 => tb { D with nx := N, ct := N, bk := D.nx } σ2 H2)
noncomputable def pinsAt (fp : List Addr) (h : Heap) : List (Addr × Obj) := fp.filterMap fun b => (h.get? b).map fun o => (b, o)
theorem mem_pinsAt {fp : List Addr} {h : Heap} {b : Addr} {o : Obj} (hb : b ∈ fp) (e : h.get? b = some o) : (b, o) ∈ pinsAt fp h := List.mem_filterMap.mpr ⟨b, hb, by rw [e]; rfl⟩
theorem of_pinsAt {fp : List Addr} {h : Heap} {p : Addr × Obj} (hp : p ∈ pinsAt fp h) : p.1 ∈ fp ∧ h.get? p.1 = some p.2 := by
 obtain ⟨b, hb, e⟩ := List.mem_filterMap.mp hp
 cases q : h.get? b with
 | none => rw [q] at e; cases e
 | some o =>
   rw [q] at e
   have e' : (b, o) = p := Option.some.inj e
   subst e'
   exact ⟨hb, q⟩
theorem Inv.pinned {pins : List (Addr × Obj)} {σ : St} {H : Hp} {s : Shared} {fp : List Addr} (I : Inv X pins σ H s) (hf : ∀ b ∈ fp, FpOk X pins H b) (ho : ∀ b ∈ fp, ∃ o, s.heap.get? b = some o ∧ ∀ v, o.data ≠ .cell v) : Inv X (pins ++ pinsAt fp s.heap) σ H s :=
 I.pins_of fun p hp => (List.mem_append.mp hp).elim (fun z => I.pin p (List.mem_append_right _ z)) fun z => by
  obtain ⟨hb, e⟩ := of_pinsAt z
  obtain ⟨f0, f1, f2, _⟩ := hf p.1 hb
  obtain ⟨o, e', d⟩ := ho p.1 hb
  rw [e] at e'; cases e'
  exact ⟨e, f0, f1, f2, d⟩
theorem Inv.unpinned {pins pl : List (Addr × Obj)} {σ : St} {H : Hp} {s : Shared} (I : Inv X (pins ++ pl) σ H s) : Inv X pins σ H s := I.pins_of fun p hp => I.pin p (List.mem_append_right _ (List.mem_append_left _ hp))
theorem ps_for {iter : Expr} {body : List Stmt} {wi : TI} {g : TG} {tb : TS} {pos : Pos} (hp : PassesOwn (model X.prog X.w) X.A X.env X.xe) (hc : X.calm = true) (hi : PI X tg iter wi) (hg : PG X tg g) (hb : PSs X body tb)
  (hs : ∀ x, foldedSetIterable iter X.env x = pure x := by intro _; rfl) : PS X (.For tg iter body [] pos) (tFor wi g tb) := by
 intro pins s σ H D I h
 refine wpAny_For (thn (hi pins s σ H _ I h) fun v s1 h1 => thn h1 fun itv s2 h2 => ?_) hs
 obtain ⟨it, fp, tn, J, H2, e, I2, T, st2, f2, W, ⟨m0, w0⟩, turn⟩ := h2
 subst e
 have stat : ∀ {H' : Hp}, (∀ b ∈ fp, H' b = none) → ∀ b ∈ fp, FpOk X pins H' b := fun hn b hb => ⟨hn b hb, (f2 b hb).2⟩
 refine codeAny_forLoop_any (fun n s' => ∃ i σ' H', Inv X pins σ' H' s' ∧ tn i s'.heap ∧ (∀ b ∈ fp, H' b = none) ∧ W i n σ' H') ?_ m0 ⟨0, σ, H2, I2, st2, fun b hb => (f2 b hb).1, w0⟩
 rintro n s3 ⟨i, σ3, H3, I3, st3, fr3, w3⟩
 rcases turn i n σ3 H3 w3 with ⟨stop, qn⟩ | ⟨go, N, hN, step⟩
 · refine wpAny_passesOwn hp (thn (T.done X rfl rfl rfl hc i pins s3 σ3 H3 X.xe I3 (stat fr3) st3 stop) fun r s4 ⟨hr, I4⟩ => ?_)
   subst hr
   exact wpAny_execs_nil ⟨σ3, H3, I4, qn⟩
 · refine wpAny_passesOwn hp (thn (T.item X rfl rfl rfl hc i pins s3 σ3 H3 X.xe I3 (stat fr3) st3 go) fun r s4 ⟨u, hr, h4⟩ => ?_)
   subst hr
   refine wpAny_passesOwn hp (thn h4 fun _ s5 ⟨x, H5, I5, r5, y5, st5, fr5⟩ => ?_)
   have I5' := I5.pinned (stat fr5) (T.obj _ _ st5)
   refine wpAny_passesOwn hp (thn (hg _ s5 σ3 H5 x u _ I5' r5 (step x H5 y5)) fun _ s6 ⟨σ6, H6, I6, q6⟩ => ?_)
   refine wpAny_passesOwn hp (thn (hb _ s6 σ6 H6 _ I6 q6) fun f s7 q7 => ?_)
   have again : ∀ {σ7 : St} {H7 : Hp}, Inv X (pins ++ pinsAt fp s5.heap) σ7 H7 s7 → N σ7 H7 → ∃ m, m < n ∧ ∃ i σ' H', Inv X pins σ' H' s7 ∧ tn i s7.heap ∧ (∀ b ∈ fp, H' b = none) ∧ W i m σ' H' := fun {σ7 H7} I7 n7 => by
    obtain ⟨m', hm, w7⟩ := hN σ7 H7 n7
    refine ⟨m', hm, i + 1, σ7, H7, I7.unpinned, T.keep _ _ _ st5 fun b hb o e => (I7.pin (b, o) (List.mem_append_right _ (List.mem_append_right _ (mem_pinsAt hb e)))).1, fun b hb => ?_, w7⟩
    obtain ⟨o, e, d⟩ := T.obj _ _ st5 b hb
    exact (I7.pin (b, o) (List.mem_append_right _ (List.mem_append_right _ (mem_pinsAt hb e)))).2.1
   cases f with
   | next => obtain ⟨σ7, H7, I7, n7⟩ := q7; exact again I7 n7
   | cont => obtain ⟨σ7, H7, I7, n7⟩ := q7; exact again I7 n7
   | brk => obtain ⟨σ7, H7, I7, q7⟩ := q7; exact ⟨σ7, H7, I7.unpinned, q7⟩
   | ret v => obtain ⟨x7, σ7, H7, I7, r7, q7⟩ := q7; exact ⟨x7, σ7, H7, I7.unpinned, r7, q7⟩
end
theorem for_list {K : PySem.W.Frag} {a : Addr} {xs : List V} {g : TG} {tb : TS} {D : Ends} {σ : St} {H : Hp} (Pv : Nat → St → Hp → Prop) (h0 : Pv 0 σ H) (hl : ∀ i σ H, i ≤ xs.length → Pv i σ H → SqL K H a xs)
  (hs : ∀ i x σ H, xs[i]? = some x → Pv i σ H → g x σ H fun σ2 H2 => tb { D with nx := Pv (i + 1), ct := Pv (i + 1), bk := D.nx } σ2 H2) (hd : ∀ σ H, Pv xs.length σ H → D.nx σ H) :
  ∃ W : Nat → Nat → St → Hp → Prop, (∃ m, W 0 m σ H) ∧ ∀ i m σ H, W i m σ H →
    ((Itl K a).stop i H ∧ D.nx σ H) ∨ ((Itl K a).go i H ∧ ∃ N : St → Hp → Prop, (∀ σ' H', N σ' H' → ∃ m', m' < m ∧ W (i + 1) m' σ' H') ∧ ∀ x H', (Itl K a).yld i H x H' → g x σ H' fun σ2 H2 => tb { D with nx := N, ct := N, bk := D.nx } σ2 H2) := by
 refine ⟨fun i m σ H => m = xs.length - i ∧ i ≤ xs.length ∧ Pv i σ H, ⟨xs.length, by simp, Nat.zero_le _, h0⟩, ?_⟩
 rintro i m σ H ⟨rfl, hi, p⟩
 have q := hl i σ H hi p
 by_cases hlt : i < xs.length
 · refine .inr ⟨⟨xs, xs[i], q, by simp [hlt]⟩, Pv (i + 1), fun σ' H' p' => ⟨xs.length - (i + 1), by omega, rfl, hlt, p'⟩, fun x H' y => ?_⟩
   obtain ⟨e, y⟩ := y
   subst e
   exact hs i x σ _ (y xs q) p
 · have e : i = xs.length := by omega
   subst e
   exact .inl ⟨⟨xs, q, Nat.le_refl _⟩, hd σ H p⟩
theorem for_tup {K : PySem.W.Frag} {a : Addr} {xs : List V} {g : TG} {tb : TS} {D : Ends} {σ : St} {H : Hp} (Pv : Nat → St → Hp → Prop) (h0 : Pv 0 σ H) (hl : ∀ i σ H, i ≤ xs.length → Pv i σ H → SqT K H a xs)
  (hs : ∀ i x σ H, xs[i]? = some x → Pv i σ H → g x σ H fun σ2 H2 => tb { D with nx := Pv (i + 1), ct := Pv (i + 1), bk := D.nx } σ2 H2) (hd : ∀ σ H, Pv xs.length σ H → D.nx σ H) :
  ∃ W : Nat → Nat → St → Hp → Prop, (∃ m, W 0 m σ H) ∧ ∀ i m σ H, W i m σ H →
    ((Itt K a).stop i H ∧ D.nx σ H) ∨ ((Itt K a).go i H ∧ ∃ N : St → Hp → Prop, (∀ σ' H', N σ' H' → ∃ m', m' < m ∧ W (i + 1) m' σ' H') ∧ ∀ x H', (Itt K a).yld i H x H' → g x σ H' fun σ2 H2 => tb { D with nx := N, ct := N, bk := D.nx } σ2 H2) := by
 refine ⟨fun i m σ H => m = xs.length - i ∧ i ≤ xs.length ∧ Pv i σ H, ⟨xs.length, by simp, Nat.zero_le _, h0⟩, ?_⟩
 rintro i m σ H ⟨rfl, hi, p⟩
 have q := hl i σ H hi p
 by_cases hlt : i < xs.length
 · refine .inr ⟨⟨xs, xs[i], q, by simp [hlt]⟩, Pv (i + 1), fun σ' H' p' => ⟨xs.length - (i + 1), by omega, rfl, hlt, p'⟩, fun x H' y => ?_⟩
   obtain ⟨e, y⟩ := y
   subst e
   exact hs i x σ _ (y xs q) p
 · have e : i = xs.length := by omega
   subst e
   exact .inl ⟨⟨xs, q, Nat.le_refl _⟩, hd σ H p⟩
theorem for_range {lo : Int} {n : Nat} {g : TG} {tb : TS} {D : Ends} {σ : St} {H : Hp} (Pv : Nat → St → Hp → Prop) (h0 : Pv 0 σ H)
  (hs : ∀ i σ H, i < n → Pv i σ H → g (.int (lo + i)) σ H fun σ2 H2 => tb { D with nx := Pv (i + 1), ct := Pv (i + 1), bk := D.nx } σ2 H2) (hd : ∀ σ H, Pv n σ H → D.nx σ H) :
  ∃ W : Nat → Nat → St → Hp → Prop, (∃ m, W 0 m σ H) ∧ ∀ i m σ H, W i m σ H →
    ((Itr lo n).stop i H ∧ D.nx σ H) ∨ ((Itr lo n).go i H ∧ ∃ N : St → Hp → Prop, (∀ σ' H', N σ' H' → ∃ m', m' < m ∧ W (i + 1) m' σ' H') ∧ ∀ x H', (Itr lo n).yld i H x H' → g x σ H' fun σ2 H2 => tb { D with nx := N, ct := N, bk := D.nx } σ2 H2) := by
 refine ⟨fun i m σ H => m = n - i ∧ i ≤ n ∧ Pv i σ H, ⟨n, by simp, Nat.zero_le _, h0⟩, ?_⟩
 rintro i m σ H ⟨rfl, hi, p⟩
 by_cases hlt : i < n
 · refine .inr ⟨hlt, Pv (i + 1), fun σ' H' p' => ⟨n - (i + 1), by omega, rfl, hlt, p'⟩, fun x H' y => ?_⟩
   obtain ⟨e, y⟩ := y
   subst e y
   exact hs i σ _ hlt p
 · have e : i = n := by omega
   subst e
   exact .inl ⟨Nat.le_refl _, hd σ H p⟩
abbrev R2 := V → V → Hp → VK → Prop
noncomputable def OpR (X : Cx) (f : Value → Value → Sem Value) (r : R2) : Prop :=
 ∀ (pins : List (Addr × Obj)) (s : Shared) (σ : St) (H : Hp) (x y : V) (v u : Value) (Q : VK), Inv X pins σ H s → RelV x v → RelV y u → r x y H Q →
   wpAny (model X.prog X.w) X.A (f v u) (EP X pins σ Q) X.xe s
noncomputable def UnR (X : Cx) (f : Value → Sem Value) (r : V → Hp → VK → Prop) : Prop :=
 ∀ (pins : List (Addr × Obj)) (s : Shared) (σ : St) (H : Hp) (x : V) (v : Value) (Q : VK), Inv X pins σ H s → RelV x v → r x H Q →
   wpAny (model X.prog X.w) X.A (f v) (EP X pins σ Q) X.xe s
noncomputable def CallR (X : Cx) (f : Value) (r : List V → Hp → VK → Prop) : Prop :=
 ∀ (pins : List (Addr × Obj)) (s : Shared) (σ : St) (H : Hp) (xs : List V) (us : List Value) (Q : VK), Inv X pins σ H s → Vals xs us → r xs H Q →
   wpAny (model X.prog X.w) X.A (call f us) (EP X pins σ Q) X.xe s
noncomputable def TruR (X : Cx) (r : V → Hp → (Bool → Hp → Prop) → Prop) : Prop :=
 ∀ (pins : List (Addr × Obj)) (s : Shared) (σ : St) (H : Hp) (x : V) (v : Value) (Q : Bool → Hp → Prop), Inv X pins σ H s → RelV x v → r x H Q →
   wpAny (model X.prog X.w) X.A (truthy v) (TP X pins σ Q) X.xe s
noncomputable def tOp (r : R2) (ta tb : TE) : TE := fun σ H Q => ta σ H fun x H1 => tb σ H1 fun y H2 => r x y H2 Q
noncomputable def tUn (r : V → Hp → VK → Prop) (ta : TE) : TE := fun σ H Q => ta σ H fun x H1 => r x H1 Q
noncomputable def rI (C : Int → Int → Prop) (g : Int → Int → V) : R2 := fun x y H Q => ∃ i j, x = .int i ∧ y = .int j ∧ C i j ∧ Q (g i j) H
noncomputable def rI0 (g : Int → Int → V) : R2 := fun x y H Q => ∃ i j, x = .int i ∧ y = .int j ∧ Q (g i j) H
noncomputable def rU (g : Int → V) : V → Hp → VK → Prop := fun x H Q => ∃ i, x = .int i ∧ Q (g i) H
section
variable {X : Cx} {a b c : Expr} {ta tb tc : TE} {pos : Pos}
theorem binT (ha : PE X a ta) (hb : PE X b tb) {pins : List (Addr × Obj)} {s : Shared} {σ : St} {H : Hp} {R : V → V → Hp → Prop} (I : Inv X pins σ H s)
  (h : ta σ H fun x H1 => tb σ H1 fun y H2 => R x y H2) {Q : Value → Shared → Prop} {f : Value → Value → Sem Value}
  (hf : ∀ v u s2 x y H2, Inv X pins σ H2 s2 → RelV x v → RelV y u → R x y H2 → wpAny (model X.prog X.w) X.A (f v u) Q X.xe s2) :
  wpAny (model X.prog X.w) X.A (eval a X.env) (fun v s₁ => wpAny (model X.prog X.w) X.A (eval b X.env) (fun u s₂ => wpAny (model X.prog X.w) X.A (f v u) Q X.xe s₂) X.xe s₁) X.xe s := by
 refine thn (ha pins s σ H _ I h) fun v s1 ⟨x, H1, I1, r1, q1⟩ => ?_
 refine thn (hb pins s1 σ H1 _ I1 q1) fun u s2 ⟨y, H2, I2, r2, q2⟩ => ?_
 exact hf v u s2 x y H2 I2 r1 r2 q2
theorem pe_op {op : Operator} {r : R2} (ho : OpR X (binaryOp op) r) (ha : PE X a ta) (hb : PE X b tb) : PE X (.BinOp a op b pos) (tOp r ta tb) := by
 intro pins s σ H Q I h
 exact wpAny_BinOp (binT ha hb I h fun v u s2 x y H2 I2 rx ry q => ho pins s2 σ H2 x y v u Q I2 rx ry q)
theorem pe_un {op : UnaryOp} {r : V → Hp → VK → Prop} (ho : UnR X (unaryOp op) r) (ha : PE X a ta) : PE X (.UnaryOp op a pos) (tUn r ta) := by
 intro pins s σ H Q I h
 exact UnaryOp_ (thn (ha pins s σ H _ I h) fun v s1 ⟨x, H1, I1, r1, q1⟩ => ho pins s1 σ H1 x v Q I1 r1 q1)
theorem opI {f : Value → Value → Sem Value} {C : Int → Int → Prop} {g : Int → Int → Int}
  (rule : ∀ (i j : Int) (t u : Tok) (s : Shared) (Q : Value → Shared → Prop) (E : Value → Shared → Prop), C i j → Q (.int (g i j) s.toks) { s with toks := s.toks + 1 } → wpAny (model X.prog X.w) X.A (f (.int i t) (.int j u)) Q E s) :
  OpR X f (rI C fun i j => .int (g i j)) := by
 intro pins s σ H x y v u Q I rx ry h
 obtain ⟨i, j, rfl, rfl, hc, q⟩ := h
 obtain ⟨t, rfl⟩ := rx
 obtain ⟨t', rfl⟩ := ry
 exact rule i j t t' s _ _ hc ⟨.int (g i j), H, I.tok _, ⟨_, rfl⟩, q⟩
theorem opI0 {f : Value → Value → Sem Value} {g : Int → Int → Int}
  (rule : ∀ (i j : Int) (t u : Tok) (s : Shared) (Q : Value → Shared → Prop) (E : Value → Shared → Prop), Q (.int (g i j) s.toks) { s with toks := s.toks + 1 } → wpAny (model X.prog X.w) X.A (f (.int i t) (.int j u)) Q E s) :
  OpR X f (rI0 fun i j => .int (g i j)) := by
 intro pins s σ H x y v u Q I rx ry h
 obtain ⟨i, j, rfl, rfl, q⟩ := h
 obtain ⟨t, rfl⟩ := rx
 obtain ⟨t', rfl⟩ := ry
 exact rule i j t t' s _ _ ⟨.int (g i j), H, I.tok _, ⟨_, rfl⟩, q⟩
theorem opB0 {f : Value → Value → Sem Value} {g : Int → Int → Bool}
  (rule : ∀ (i j : Int) (t u : Tok) (s : Shared) (Q : Value → Shared → Prop) (E : Value → Shared → Prop), Q (.bool (g i j)) s → wpAny (model X.prog X.w) X.A (f (.int i t) (.int j u)) Q E s) :
  OpR X f (rI0 fun i j => .bl (g i j)) := by
 intro pins s σ H x y v u Q I rx ry h
 obtain ⟨i, j, rfl, rfl, q⟩ := h
 obtain ⟨t, rfl⟩ := rx
 obtain ⟨t', rfl⟩ := ry
 exact rule i j t t' s _ _ ⟨.bl (g i j), H, I, rfl, q⟩
noncomputable def CPow (i j : Int) : Prop := 0 ≤ j ∧ j ≤ 1000000 ∧ i.natAbs < 2 ^ 64
noncomputable def CMul (i j : Int) : Prop := (-(2 ^ 64) < i ∧ i < 2 ^ 64) ∨ (-(2 ^ 64) < j ∧ j < 2 ^ 64)
theorem CMul.ok {i j : Int} (h : CMul i j) : IntMulOk i j := by
 rcases h with ⟨h1, h2⟩ | ⟨h1, h2⟩
 · exact .of_left (intBits_le_64 h1 h2)
 · exact .of_right (intBits_le_64 h1 h2)
theorem op_add : OpR X (binaryOp .Add) (rI0 fun i j => .int (i + j)) := opI0 fun _ _ _ _ _ _ _ q => add_int q
theorem op_sub : OpR X (binaryOp .Sub) (rI0 fun i j => .int (i - j)) := opI0 fun _ _ _ _ _ _ _ q => sub_int q
theorem op_mul : OpR X (binaryOp .Mult) (rI CMul fun i j => .int (i * j)) := opI fun _ _ _ _ _ _ _ hc q => mul_int q hc.ok
theorem op_mod : OpR X (binaryOp .Mod) (rI (fun _ j => 0 < j) fun i j => .int (i % j)) := opI fun i j _ _ _ _ _ hc q => by
 have h1 : (0 : Int) < j := hc
 exact mod_int' (by omega) (by rw [Int.fmod_eq_emod_of_nonneg i (by omega)]; exact q)
theorem op_pow : OpR X (binaryOp .Pow) (rI CPow fun i j => .int (i ^ j.toNat)) := opI fun _ _ _ _ _ _ _ hc q => pow_int_small hc.1 hc.2.1 hc.2.2 q
theorem unI {f : Value → Sem Value} {g : Int → Int}
  (rule : ∀ (i : Int) (t : Tok) (s : Shared) (Q : Value → Shared → Prop) (E : Value → Shared → Prop), Q (.int (g i) s.toks) { s with toks := s.toks + 1 } → wpAny (model X.prog X.w) X.A (f (.int i t)) Q E s) :
  UnR X f (rU fun i => .int (g i)) := by
 intro pins s σ H x v Q I rx h
 obtain ⟨i, rfl, q⟩ := h
 obtain ⟨t, rfl⟩ := rx
 exact rule i t s _ _ ⟨.int (g i), H, I.tok _, ⟨_, rfl⟩, q⟩
theorem un_neg : UnR X (unaryOp .USub) (rU fun i => .int (-i)) := unI fun _ _ _ _ _ q => neg_int q
end
noncomputable def scal : V → V → Bool
 | .non, .non => true | .non, .int _ => true | .int _, .non => true | .non, .bl _ => true | .bl _, .non => true | .non, .str _ => true | .str _, .non => true
 | .int _, .int _ => true | .bl _, .bl _ => true | .str _, .str _ => true | .byt _, .byt _ => true
 | .int _, .str _ => true | .str _, .int _ => true | .bl _, .str _ => true | .str _, .bl _ => true
 | _, _ => false
noncomputable def rEq : R2 := fun x y H Q => scal x y = true ∧ Q (.bl (decide (x = y))) H
noncomputable def rNe : R2 := fun x y H Q => scal x y = true ∧ Q (.bl (!decide (x = y))) H
theorem dec_int {i j : Int} : decide (V.int i = V.int j) = (i == j) := by
 rw [Bool.eq_iff_iff]
 simp
theorem dec_bl {i j : Bool} : decide (V.bl i = V.bl j) = (i == j) := by
 rw [Bool.eq_iff_iff]
 simp
theorem dec_str {i j : Str} : decide (V.str i = V.str j) = (i == j) := by
 rw [Bool.eq_iff_iff]
 simp
theorem dec_byt {i j : Array UInt8} : decide (V.byt i = V.byt j) = (i.toList == j.toList) := by
 rw [Bool.eq_iff_iff]
 cases i
 cases j
 simp
section
variable {X : Cx} {a b c : Expr} {ta tb tc : TE} {pos : Pos}
theorem fin_bl {pins : List (Addr × Obj)} {σ : St} {H : Hp} {s : Shared} {Q : VK} {k k' : Bool} (I : Inv X pins σ H s) (q : Q (.bl k) H) (e : k = k') : EP X pins σ Q (.bool k') s := by
 subst e
 exact ⟨.bl k, H, I, rfl, q⟩
theorem op_eq : OpR X (compareOp .Eq) rEq := by
 intro pins s σ H x y v u Q I rx ry h
 obtain ⟨hs, q⟩ := h
 cases x with
 | non =>
   cases rx
   cases y with
   | non => cases ry; exact PySem.EqNone.eq_none_none (fin_bl I q (by simp))
   | bl j => cases ry; exact PySem.EqNone.eq_none_bool (fin_bl I q (by simp))
   | int j => obtain ⟨t', rfl⟩ := ry; exact PySem.EqNone.eq_none_int (fin_bl I q (by simp))
   | str j => obtain ⟨t', rfl⟩ := ry; exact PySem.EqNone.eq_none_str (fin_bl I q (by simp))
   | _ => exact absurd (show false = true from hs) Bool.false_ne_true
 | bl i =>
   cases rx
   cases y with
   | non => cases ry; exact PySem.EqNone.eq_bool_none (fin_bl I q (by simp))
   | bl j => cases ry; exact eq_bool (fin_bl I q dec_bl)
   | str j => obtain ⟨t', rfl⟩ := ry; exact PySem.EqMixed.eq_bool_str (fin_bl I q (by simp))
   | _ => exact absurd (show false = true from hs) Bool.false_ne_true
 | int i =>
   obtain ⟨t, rfl⟩ := rx
   cases y with
   | non => cases ry; exact PySem.EqNone.eq_int_none (fin_bl I q (by simp))
   | int j => obtain ⟨t', rfl⟩ := ry; exact eq_int (fin_bl I q dec_int)
   | str j => obtain ⟨t', rfl⟩ := ry; exact PySem.EqMixed.eq_int_str (fin_bl I q (by simp))
   | _ => exact absurd (show false = true from hs) Bool.false_ne_true
 | str i =>
   obtain ⟨t, rfl⟩ := rx
   cases y with
   | non => cases ry; exact PySem.EqNone.eq_str_none (fin_bl I q (by simp))
   | bl j => cases ry; exact PySem.EqMixed.eq_str_bool (fin_bl I q (by simp))
   | int j => obtain ⟨t', rfl⟩ := ry; exact PySem.EqMixed.eq_str_int (fin_bl I q (by simp))
   | str j => obtain ⟨t', rfl⟩ := ry; exact eq_str (fin_bl I q dec_str)
   | _ => exact absurd (show false = true from hs) Bool.false_ne_true
 | byt i =>
   obtain ⟨t, rfl⟩ := rx
   cases y with
   | byt j => obtain ⟨t', rfl⟩ := ry; exact PySem.W.eq_bytes (fin_bl I q dec_byt)
   | _ => exact absurd (show false = true from hs) Bool.false_ne_true
 | _ => cases y <;> exact absurd (show false = true from hs) Bool.false_ne_true
theorem op_ne : OpR X (compareOp .NotEq) rNe := by
 intro pins s σ H x y v u Q I rx ry h
 obtain ⟨hs, q⟩ := h
 cases x with
 | non =>
   cases rx
   cases y with
   | non => cases ry; exact PySem.EqNone.ne_none_none (fin_bl I q (by simp))
   | bl j => cases ry; exact PySem.EqNone.ne_none_bool (fin_bl I q (by simp))
   | int j => obtain ⟨t', rfl⟩ := ry; exact PySem.EqNone.ne_none_int (fin_bl I q (by simp))
   | str j => obtain ⟨t', rfl⟩ := ry; exact PySem.EqNone.ne_none_str (fin_bl I q (by simp))
   | _ => exact absurd (show false = true from hs) Bool.false_ne_true
 | bl i =>
   cases rx
   cases y with
   | non => cases ry; exact PySem.EqNone.ne_bool_none (fin_bl I q (by simp))
   | bl j => cases ry; exact ne_bool (fin_bl I q (congrArg not dec_bl))
   | str j => obtain ⟨t', rfl⟩ := ry; exact PySem.EqMixed.ne_bool_str (fin_bl I q (by simp))
   | _ => exact absurd (show false = true from hs) Bool.false_ne_true
 | int i =>
   obtain ⟨t, rfl⟩ := rx
   cases y with
   | non => cases ry; exact PySem.EqNone.ne_int_none (fin_bl I q (by simp))
   | int j => obtain ⟨t', rfl⟩ := ry; exact ne_int (fin_bl I q (congrArg not dec_int))
   | str j => obtain ⟨t', rfl⟩ := ry; exact PySem.EqMixed.ne_int_str (fin_bl I q (by simp))
   | _ => exact absurd (show false = true from hs) Bool.false_ne_true
 | str i =>
   obtain ⟨t, rfl⟩ := rx
   cases y with
   | non => cases ry; exact PySem.EqNone.ne_str_none (fin_bl I q (by simp))
   | bl j => cases ry; exact PySem.EqMixed.ne_str_bool (fin_bl I q (by simp))
   | int j => obtain ⟨t', rfl⟩ := ry; exact PySem.EqMixed.ne_str_int (fin_bl I q (by simp))
   | str j => obtain ⟨t', rfl⟩ := ry; exact ne_str (fin_bl I q (congrArg not dec_str))
   | _ => exact absurd (show false = true from hs) Bool.false_ne_true
 | byt i =>
   obtain ⟨t, rfl⟩ := rx
   cases y with
   | byt j => obtain ⟨t', rfl⟩ := ry; exact PySem.W.ne_bytes (fin_bl I q (congrArg not dec_byt))
   | _ => exact absurd (show false = true from hs) Bool.false_ne_true
 | _ => cases y <;> exact absurd (show false = true from hs) Bool.false_ne_true
theorem op_lt : OpR X (compareOp .Lt) (rI0 fun i j => .bl (decide (i < j))) := opB0 fun _ _ _ _ _ _ _ q => lt_int q
theorem op_le : OpR X (compareOp .LtE) (rI0 fun i j => .bl (decide (i ≤ j))) := opB0 fun _ _ _ _ _ _ _ q => le_int q
theorem op_gt : OpR X (compareOp .Gt) (rI0 fun i j => .bl (decide (j < i))) := opB0 fun _ _ _ _ _ _ _ q => gt_int q
theorem op_ge : OpR X (compareOp .GtE) (rI0 fun i j => .bl (decide (j ≤ i))) := opB0 fun _ _ _ _ _ _ _ q => ge_int q
theorem op_isN : OpR X (compareOp .Is) (fun x y H Q => y = .non ∧ Q (.bl (decide (x = .non))) H) := by
 intro pins s σ H x y v u Q I rx ry h
 obtain ⟨rfl, q⟩ := h
 cases ry
 refine is_none_gen (fin_bl I q ?_)
 cases x <;> first
  | (cases rx; rfl)
  | (obtain ⟨t, rfl⟩ := rx; rfl)
theorem nomark (b : Expr) {op : CmpOp} (h : op ≠ .In := by decide) (h2 : op ≠ .NotIn := by decide) : behindInMarks op b = false := by
 have e1 : (op == CmpOp.In) = false := by cases op <;> first | rfl | exact absurd rfl h
 have e2 : (op == CmpOp.NotIn) = false := by cases op <;> first | rfl | exact absurd rfl h2
 cases b <;> simp [behindInMarks, e1, e2]
theorem pe_cmpR {op : CmpOp} {r : R2} (ho : OpR X (compareOp op) r) (ha : PE X a ta) (hb : PE X b tb) (hm : behindInMarks op b = false) : PE X (.Compare a [op] [b] pos) (tOp r ta tb) := by
 intro pins s σ H Q I h
 exact wpAny_Compare1 (binT ha hb I h fun v u s2 x y H2 I2 rx ry q => ho pins s2 σ H2 x y v u Q I2 rx ry q) hm
noncomputable def tTest (t : TE) : TT := fun σ H Q => t σ H fun x H' => ∃ k, x = .bl k ∧ Q k H'
theorem pt_cmpR {op : CmpOp} {r : R2} (ho : OpR X (compareOp op) r) (ha : PE X a ta) (hb : PE X b tb) (hm : behindInMarks op b = false) : PT X (.Compare a [op] [b] pos) (tTest (tOp r ta tb)) := by
 intro pins s σ H Q I h
 refine wpAny_isTrue_Compare1 (thn (ha pins s σ H _ I h) fun v s1 ⟨x, H1, I1, r1, q1⟩ => thn (hb pins s1 σ H1 _ I1 q1) fun u s2 ⟨y, H2, I2, r2, q2⟩ =>
  thn (ho pins s2 σ H2 x y v u _ I2 r1 r2 q2) fun c s3 ⟨z, H3, I3, r3, k, e, q3⟩ => ?_) hm
 subst e
 cases r3
 exact wpAny_truthy_bool ⟨H3, I3, q3⟩
noncomputable def tChain (r r' : R2) (ta tb tc : TE) : TE := fun σ H Q => ta σ H fun x H1 => tb σ H1 fun y H2 => r x y H2 fun z H3 => ∃ k, z = .bl k ∧
 (if k = true then tc σ H3 fun w' H4 => r' y w' H4 Q else Q (.bl false) H3)
theorem pe_chain {op op' : CmpOp} {r r' : R2} (ho : OpR X (compareOp op) r) (ho' : OpR X (compareOp op') r') (ha : PE X a ta) (hb : PE X b tb) (hc : PE X c tc)
  (hm : lastMarks [op, op'] [b, c] = false := by with_unfolding_all rfl) : PE X (.Compare a [op, op'] [b, c] pos) (tChain r r' ta tb tc) := by
 intro pins s σ H Q I h
 refine Compare_chain (thn (ha pins s σ H _ I h) fun v s1 ⟨x, H1, I1, r1, q1⟩ => chain_link (thn (hb pins s1 σ H1 _ I1 q1) fun u s2 ⟨y, H2, I2, r2, q2⟩ =>
  thn (ho pins s2 σ H2 x y v u _ I2 r1 r2 q2) fun d s3 ⟨z, H3, I3, r3, k, e, q3⟩ => ?_)) hm
 subst e
 cases r3
 refine wpAny_truthy_bool ?_
 cases k with
 | false => exact ite_ff ⟨.bl false, H3, I3, rfl, q3⟩
 | true => exact ite_tt (chain_last (thn (hc pins s3 σ H3 _ I3 q3) fun w' s4 ⟨z', H4, I4, r4, q4⟩ => ho' pins s4 σ H4 y z' u w' Q I4 r2 r4 q4))
theorem pt_chain {op op' : CmpOp} {r r' : R2} (ho : OpR X (compareOp op) r) (ho' : OpR X (compareOp op') r') (ha : PE X a ta) (hb : PE X b tb) (hc : PE X c tc)
  (hm : lastMarks [op, op'] [b, c] = false := by with_unfolding_all rfl) : PT X (.Compare a [op, op'] [b, c] pos) (tTest (tChain r r' ta tb tc)) := by
 intro pins s σ H Q I h
 refine isTrue_chain (thn (ha pins s σ H _ I h) fun v s1 ⟨x, H1, I1, r1, q1⟩ => test_link (thn (hb pins s1 σ H1 _ I1 q1) fun u s2 ⟨y, H2, I2, r2, q2⟩ =>
  thn (ho pins s2 σ H2 x y v u _ I2 r1 r2 q2) fun d s3 ⟨z, H3, I3, r3, k, e, q3⟩ => ?_)) hm
 subst e
 cases r3
 refine wpAny_truthy_bool ?_
 cases k with
 | false =>
   obtain ⟨k', e', q'⟩ := q3
   cases e'
   exact ite_ff ⟨H3, I3, q'⟩
 | true =>
   refine ite_tt (test_last (thn (hc pins s3 σ H3 _ I3 q3) fun w' s4 ⟨z', H4, I4, r4, q4⟩ => thn (ho' pins s4 σ H4 y z' u w' _ I4 r2 r4 q4) fun d' s5 ⟨z2, H5, I5, r5, k2, e2, q5⟩ => ?_))
   subst e2
   cases r5
   exact wpAny_truthy_bool ⟨H5, I5, q5⟩
noncomputable def TruV (K : PySem.W.Frag) (x : V) (H : Hp) (k : Bool) : Prop :=
 match x with
 | .non => k = false
 | .bl b => k = b
 | .int i => k = (i != 0)
 | .str y => y.length ≤ sizeLine ∧ k = ((y.length : Int) != 0)
 | .byt y => y.size ≤ sizeLine ∧ k = ((y.size : Int) != 0)
 | .ref p => (∃ xs, SqL K H p xs ∧ k = !xs.isEmpty) ∨ (∃ xs, SqT K H p xs ∧ k = !xs.isEmpty) ∨ ∃ kvs, H p = some (.dK kvs) ∧ k = !kvs.isEmpty
 | _ => False
theorem isEmpty_kv {κ : Type} {kvs : List (κ × V)} {vs : List (κ × Value)} (r : KV kvs vs) : (!vs.isEmpty) = !kvs.isEmpty := by
 cases r <;> rfl
theorem isEmpty_of {xs : List V} {its : List Value} (r : Vals xs its) : (!its.toArray.isEmpty) = !xs.isEmpty := by
 cases r <;> simp
theorem line63 : (sizeLine : Nat) < 2 ^ 63 := by rw [sizeLine_eq]; decide
theorem tru_ok : TruR X (fun x H Q => ∃ k, TruV X.K x H k ∧ Q k H) := by
 intro pins s σ H x v Q I rx h
 obtain ⟨k, e, q⟩ := h
 have hl := line63
 have hs : sizeLine = 16777216 := sizeLine_eq
 cases x with
 | non =>
   cases rx
   have e' : k = false := e
   subst e'
   exact truthy_none ⟨H, I, q⟩
 | bl b =>
   cases rx
   have e' : k = b := e
   subst e'
   exact wpAny_truthy_bool ⟨H, I, q⟩
 | int i =>
   obtain ⟨t, rfl⟩ := rx
   have e' : k = (i != 0) := e
   subst e'
   exact PySem.P.truthy_int ⟨H, I, q⟩
 | str y =>
   obtain ⟨t, rfl⟩ := rx
   obtain ⟨hy, e'⟩ : y.length ≤ sizeLine ∧ k = ((y.length : Int) != 0) := e
   subst e'
   exact PySem.P.truthy_str (by omega) ⟨H, I.tok _, q⟩
 | byt y =>
   obtain ⟨t, rfl⟩ := rx
   obtain ⟨hy, e'⟩ : y.size ≤ sizeLine ∧ k = ((y.size : Int) != 0) := e
   subst e'
   exact PySem.W.truthy_bytes (by omega) ⟨H, I.tok _, q⟩
 | ref p =>
   cases rx
   have e' : (∃ xs, SqL X.K H p xs ∧ k = !xs.isEmpty) ∨ (∃ xs, SqT X.K H p xs ∧ k = !xs.isEmpty) ∨ ∃ kvs, H p = some (.dK kvs) ∧ k = !kvs.isEmpty := e
   rcases e' with ⟨xs, hx, e'⟩ | ⟨xs, hx, e'⟩ | ⟨kvs, hx, e'⟩
   · subst e'
     obtain ⟨its, r, pl, hz⟩ := I.list hx
     have hlen := r.length
     exact wpAny_truthy_list pl.isList (by simp only [List.size_toArray]; omega) ⟨H, I.tok _, by rw [isEmpty_of r]; exact q⟩
   · subst e'
     obtain ⟨its, r, pl, hz⟩ := I.tuple hx
     have hlen := r.length
     exact truthy_tuple pl (by simp only [List.size_toArray]; omega) ⟨H, I.tok _, by rw [isEmpty_of r]; exact q⟩
   · subst e'
     obtain ⟨hz, hS, vs, r, m⟩ : kvs.length ≤ sizeLine ∧ (p == sysModules) = false ∧ ∃ vs, KV kvs vs ∧ s.heap.DictOf (mixKind X.prog X.w) p vs := I.hok p _ hx
     have hlen : kvs.length = vs.length := Paired.length r
     exact wpAny_truthy_dict hS m (by omega) ⟨H, I.tok _, by rw [isEmpty_kv r]; exact q⟩
 | _ => exact (show False from e).elim
theorem pt_truth (ha : PE X a ta) (he : ∀ whole, isTrue a X.env whole = (do let v ← whole; standAt a.pos; holding [v] (truthy v))) :
  PT X a (fun σ H Q => ta σ H fun x H' => ∃ k, TruV X.K x H' k ∧ Q k H') := by
 intro pins s σ H Q I h
 exact isTrue_plain (thn (ha pins s σ H _ I h) fun v s1 ⟨x, H1, I1, r1, q1⟩ => tru_ok pins s1 σ H1 x v Q I1 r1 q1) (he _)
theorem op_add_str : OpR X (binaryOp .Add) (fun x y H Q => ∃ i j, x = .str i ∧ y = .str j ∧ i.length + j.length ≤ sizeLine ∧ Q (.str (i ++ j)) H) := by
 intro pins s σ H x y v u Q I rx ry h
 obtain ⟨i, j, rfl, rfl, hz, q⟩ := h
 obtain ⟨t, rfl⟩ := rx
 obtain ⟨t', rfl⟩ := ry
 exact add_str (fun t' tk => ⟨.str (i ++ j), H, I.tok _, ⟨_, rfl⟩, q⟩) hz
theorem vals1 {x : V} {us : List Value} (r : Vals [x] us) : ∃ u, us = [u] ∧ RelV x u := by
 cases r with
 | cons r1 r2 => cases r2; exact ⟨_, rfl, r1⟩
theorem vals2 {x y : V} {us : List Value} (r : Vals [x, y] us) : ∃ u w', us = [u, w'] ∧ RelV x u ∧ RelV y w' := by
 cases r with
 | cons r1 r2 =>
   cases r2 with
   | cons r3 r4 => cases r4; exact ⟨_, _, rfl, r1, r3⟩
end
structure ObjM (h : Heap) (x dx C : Addr) (mA : Str → Option Value) : Prop where
 obj : h.get? x = some (PySem.W.instObj C dx)
 ns : h.Ns1 dx mA
 ne : dx ≠ x
theorem lookIn_ns {h : Heap} {dx : Addr} {mA : Str → Option Value} (n : h.Ns1 dx mA) : ∃ od, h.get? dx = some od ∧ ∀ name, PySem.W.lookIn name od = some (mA name) := by
 obtain ⟨o, es, ep, ho, hd, hk, _, hm⟩ := n
 refine ⟨o, ho, fun name => ?_⟩
 have e := hm name
 unfold nsFind findBy at e
 rw [← Array.find?_toList] at e
 unfold PySem.W.lookIn
 rw [hd]
 dsimp only
 split
 · rename_i y q
   rw [q] at e
   exact congrArg some e
 · rename_i q
   rw [q] at e
   have a : es.toList.any (·.refKey) = false := by
    rw [List.any_eq_false]
    intro y hy
    obtain ⟨z, t, hkey⟩ := hk y (Array.mem_toList_iff.mp hy)
    simp [DictEntry.refKey, hkey]
   have a' : ¬ es.toList.any (·.refKey) = true := by rw [a]; exact Bool.false_ne_true
   rw [if_neg a']
   exact congrArg some e
theorem ObjM.look {h : Heap} {x dx C : Addr} {mA : Str → Option Value} (I : ObjM h x dx C mA) : ∃ od, PySem.W.InstAt h x (PySem.W.instObj C dx) C (some od) ∧ ∀ name, PySem.W.lookIn name od = some (mA name) :=
 let ⟨od, ho, hl⟩ := lookIn_ns I.ns
 ⟨od, ⟨I.obj, rfl, rfl, ho⟩, hl⟩
section
variable {prog : Program} {w : World} {A : Around} {E : Value → Shared → Prop} {s : Shared} {K : PySem.W.Frag} {x dx C f : Addr} {mA : Str → Option Value} {name : Str} {v : Value}
end
theorem RelO.some_of {v : V} {o : Option Value} (r : RelO (some v) o) : ∃ u, o = some u ∧ RelV v u := by
 cases o with
 | none => exact (show False from r).elim
 | some u => exact ⟨u, rfl, r⟩
section
variable {P : Program} {w : World} {H H' : Hp} {h h' : Heap} {a C dx : Addr} {fs fs' : List (Str × V)}
theorem ins_get (hok : HOk P w H h) (e : H a = some (.ins C dx fs)) : ∃ mA, ObjM h a dx C mA ∧ (∀ f, RelO (fs.lookup f) (mA f)) ∧ PySem.Within mA (fs.map (·.1)) ∧ fs.length ≤ 1000 ∧ H dx = some (.own a) := by
 obtain ⟨d, z, ne, ob, mA, n, r, q⟩ := (show ObjOk P w H h a (.ins C dx fs) from hok a _ e)
 exact ⟨mA, ⟨ob, n, ne⟩, r, q, z, d⟩
end
structure Cls (K : PySem.W.Frag) (C : Addr) : Prop where
 pg : PySem.W.plainGet K C Str.empty = true
 hd : PySem.W.hasDictIn K C = true
 po : PySem.W.plainOver K C = true
 sa : PySem.W.findIn K (.ref C) "__setattr__" = some (some (.builtin "object.__setattr__"))
theorem Cls.get {K : PySem.W.Frag} {C : Addr} (c : Cls K C) (f : Str) : PySem.W.plainGet K C f = true := c.pg
section
variable {X : Cx} {pins : List (Addr × Obj)} {σ : St} {H : Hp} {s : Shared} {a C dx : Addr} {fs : List (Str × V)} {f : Str} {v : V} {A : Around} {E : Value → Shared → Prop}
end
section
variable {X : Cx} {o e value : Expr} {f : Str} {pos pos' tpos : Pos} {ta tv : TE}
end
section
variable {X : Cx} {pins : List (Addr × Obj)} {σ : St} {H : Hp} {s : Shared} {A : Around} {E : Value → Shared → Prop} {Q : Value → Shared → Prop} {c : Value} {b : Bool}
inductive TyOf (K : PySem.W.Frag) (H : Hp) : V → Value → Prop where
 | non : TyOf K H .non (.type "NoneType")
 | bl (x : Bool) : TyOf K H (.bl x) (.type "bool")
 | int (i : Int) : TyOf K H (.int i) (.type "int")
 | str (x : Str) : TyOf K H (.str x) (.type "str")
 | flt (x : UInt64) : TyOf K H (.flt x) (.type "float")
 | lst {a : Addr} {xs : List V} (e : H a = some (.lst xs)) : TyOf K H (.ref a) (.type "list")
 | frz {a : Addr} {o : Obj} {xs : List V} (e : H a = some (.frz o (.lst xs))) : TyOf K H (.ref a) (.type "list")
 | tup {a : Addr} {xs : List V} (e : H a = some (.tup xs)) : TyOf K H (.ref a) (.type "tuple")
 | dK {a : Addr} {kvs : List (Key × V)} (e : H a = some (.dK kvs)) : TyOf K H (.ref a) (.type "dict")
 | dT {a : Addr} {kvs : List (List Key × V)} (e : H a = some (.dT kvs)) : TyOf K H (.ref a) (.type "dict")
 | ins {a C dx : Addr} {fs : List (Str × V)} (e : H a = some (.ins C dx fs)) (cl : Cls K C) (ha : PySem.W.findIn K (.ref C) "__class__" = some (some (.builtin "object.__class__")))
  (hn : PySem.W.specialIn K (.builtin "object.__class__") "__get__" = some (some (.builtin "getset_descriptor.__get__"))) (htk : PySem.W.takesIn K (.builtin "object.__class__") = some true)
  (hm : PySem.W.mroIn K C (.type "object") = some true) : TyOf K H (.ref a) (.ref C)
theorem isinst_ok {x : V} {u t : Value} (I : Inv X pins σ H s) (rx : RelV x u) (ty : TyOf X.K H x t) (e : PySem.W.kitOne X.K t c = some b) (h : ∀ tk, Q (.bool b) { s with toks := tk }) :
  wpAny (model X.prog X.w) A (call (.builtin "isinstance") [u, c]) Q E s := by
 cases ty with
 | non => cases (show u = Value.none from rx); exact PySem.W.kia_one PySem.W.kitx_none I.kIn True.intro e (fun z => nomatch z) h
 | bl y => cases (show u = Value.bool y from rx); exact PySem.W.kia_one PySem.W.kitx_bool I.kIn True.intro e (fun z => nomatch z) h
 | int i => obtain ⟨t, q⟩ := (show ∃ t, u = Value.int i t from rx); cases q; exact PySem.W.kia_one PySem.W.kitx_int I.kIn True.intro e (fun z => nomatch z) h
 | str y => obtain ⟨t, q⟩ := (show ∃ t, u = Value.str y t from rx); cases q; exact PySem.W.kia_one PySem.W.kitx_str I.kIn True.intro e (fun z => nomatch z) h
 | flt y => obtain ⟨t, q⟩ := (show ∃ t, u = Value.float y t from rx); cases q; exact PySem.W.kia_one PySem.W.kitx_float I.kIn True.intro e (fun z => nomatch z) h
 | @lst a xs ea =>
   cases (show u = Value.ref a from rx)
   obtain ⟨_, _, n, _, h1⟩ := (show ObjOk X.prog X.w H s.heap a (.lst xs) from I.hok a _ ea)
   exact PySem.W.kia_one PySem.W.kitx_list I.kIn ⟨_, h1, rfl⟩ e (fun z => nomatch z) h
 | @frz a ob xs ea =>
   cases (show u = Value.ref a from rx)
   obtain ⟨_, _, _, n, _, h1⟩ := (show ObjOk X.prog X.w H s.heap a (.frz ob (.lst xs)) from I.hok a _ ea)
   exact PySem.W.kia_one PySem.W.kitx_list I.kIn ⟨_, h1, rfl⟩ e (fun z => nomatch z) h
 | @tup a xs ea =>
   cases (show u = Value.ref a from rx)
   obtain ⟨_, _, _, p⟩ := (show ObjOk X.prog X.w H s.heap a (.tup xs) from I.hok a _ ea)
   obtain ⟨⟨o, h1, h2, _⟩, _⟩ := p
   exact PySem.W.kia_one PySem.W.kitx_tuple I.kIn ⟨o, h1, h2⟩ e (fun z => nomatch z) h
 | @dK a kvs ea =>
   cases (show u = Value.ref a from rx)
   obtain ⟨_, _, vs, _, p⟩ := (show ObjOk X.prog X.w H s.heap a (.dK kvs) from I.hok a _ ea)
   obtain ⟨o, es, ep, h1, h2, _⟩ := p
   exact PySem.W.kia_one PySem.W.kitx_dict I.kIn ⟨o, h1, h2.1⟩ e (fun z => nomatch z) h
 | @dT a kvs ea =>
   cases (show u = Value.ref a from rx)
   obtain ⟨_, _, xs, _, o, es, ep, h1, h2, _⟩ := (show ObjOk X.prog X.w H s.heap a (.dT kvs) from I.hok a _ ea)
   exact PySem.W.kia_one PySem.W.kitx_dict I.kIn ⟨o, h1, h2.1⟩ e (fun z => nomatch z) h
 | @ins a C dx fs ea cl ha hn htk hm =>
   cases (show u = Value.ref a from rx)
   obtain ⟨mA, O, _⟩ := ins_get I.hok ea
   obtain ⟨od, J, _⟩ := O.look
   exact PySem.W.kia_one (PySem.W.kitx_own (cl.get _) cl.hd ha hn htk hm) I.kIn J e (fun z => nomatch z) h
end
structure Room (k : Nat) (A : Around) : Prop where
 hd : A.handled = none
 dp : A.depth + 3 * k + 5 < recursionLimit
 un : A.units + 16 * k + 200 < cLine
theorem Room.mono {j k : Nat} {A : Around} (r : Room k A) (h : j ≤ k) : Room j A := ⟨r.hd, by have := r.dp; omega, by have := r.un; omega⟩
theorem Room.deeper {k : Nat} {A : Around} (r : Room (k + 1) A) (env : Env) : Room k (A.deeper env) :=
 ⟨r.hd, by have := r.dp; show A.depth + 1 + 3 * k + 5 < _; omega, by have := r.un; show A.units + 3 + 16 * k + 200 < _; omega⟩
theorem Room.depth {k : Nat} {A : Around} (r : Room k A) : A.depth < recursionLimit := by have := r.dp; omega
theorem Room.units {k : Nat} {A : Around} (r : Room k A) : A.units + 64 < cLine := by have := r.un; omega
theorem Room.units0 {k : Nat} {A : Around} (r : Room k A) : A.units < cLine := by have := r.un; omega
noncomputable def tNil : TA := fun _ H Q => Q [] H
noncomputable def tCons (ta : TE) (tr : TA) : TA := fun σ H Q => ta σ H fun x H1 => tr σ H1 fun xs H2 => Q (x :: xs) H2
section
variable {X : Cx} {e : Expr} {es : List Expr} {te : TE} {t : TA} {pos : Pos}
theorem pa_nil : PA X [] tNil := fun _ _ _ _ H Q I h => Calls.spliced_nil ⟨[], H, I, .nil, h⟩
theorem pa_cons (ha : PE X e te) (hr : PA X es t) (hs : starEach (e :: es) X.env = (false, eval e X.env) :: starEach es X.env := by rfl) : PA X (e :: es) (tCons te t) := by
 intro pos pins s σ H Q I h
 rw [hs]
 show wpAny _ _ (spliced ((false, eval e X.env) :: backTo pos (starEach es X.env))) _ _ s
 refine Calls.spliced_cons (thn (ha pins s σ H _ I h) fun u s1 ⟨x, H1, I1, r1, q1⟩ => ?_)
 exact thn (hr pos pins s1 σ H1 _ I1 q1) fun us s2 ⟨xs, H2, I2, r2, q2⟩ => ⟨x :: xs, H2, I2, .cons r1 r2, q2⟩
noncomputable def tTup (t : TA) : TE := fun σ H Q => t σ H fun xs H1 => xs.length ≤ sizeLine ∧ ∀ p, H1 p = none → Q (.ref p) (upd H1 p (.tup xs))
noncomputable def tLst (t : TA) : TE := fun σ H Q => t σ H fun xs H1 => xs.length ≤ sizeLine ∧ ∀ p, H1 p = none → Q (.ref p) (upd H1 p (.lst xs))
theorem pe_tup {x1} (h : PA X es t) : PE X (.Tuple es x1 pos) (tTup t) := by
 intro pins s σ H Q I hq
 refine wpAny_Tuple_spliced (thn (h pos pins s σ H _ I hq) fun us s1 ⟨xs, H1, I1, r, z, q⟩ => ⟨by rw [← r.length]; exact z, ?_⟩)
 have hf : H1 s1.heap.objs.size = none := I1.hok.fresh (Nat.le_refl _)
 refine ⟨.ref s1.heap.objs.size, upd H1 s1.heap.objs.size (.tup xs), I1.laid (t' := s1.toks) (fun b u e => Heap.get?_push_of_some _ e) (Nat.le_refl _) ?_, rfl, q _ hf⟩
 exact ⟨z, us, r, ⟨_, Heap.get?_push_size _ rfl, rfl, _, rfl⟩, NoD.push⟩
theorem pe_lst (h : PA X es t) : PE X (.List es pos) (tLst t) := by
 intro pins s σ H Q I hq
 refine wpAny_List_spliced (thn (h pos pins s σ H _ I hq) fun us s1 ⟨xs, H1, I1, r, z, q⟩ => ⟨by rw [← r.length]; exact z, ?_⟩)
 have hf : H1 s1.heap.objs.size = none := I1.hok.fresh (Nat.le_refl _)
 refine ⟨.ref s1.heap.objs.size, upd H1 s1.heap.objs.size (.lst xs), I1.laid (t' := s1.toks) (fun b u e => Heap.get?_push_of_some _ e) (Nat.le_refl _) ?_, rfl, q _ hf⟩
 exact ⟨z, us, 0, r, Heap.get?_push_size _ rfl⟩
end
abbrev Sp := List V → Hp → VK → XK → Prop
abbrev CXT := List Env → Hp → Shared → XK → Value → Shared → Prop
structure Env0 (P : Program) (w : World) (K : PySem.W.Frag) (mg : Str → Option Value) (base : Heap) (A : Around) (outer : List Env) (s : Shared) (H : Hp) : Prop where
 frames : A.frames = some outer
 mod : Mod K mg base
 bs : ∀ b o, base.get? b = some o → s.heap.get? b = some o ∧ H b = none
 bsz : base.objs.size ≤ s.heap.objs.size
 funs : s.heap.FunFrames base outer
 frf : ∀ b ∈ frs outer, H b = none
 hok : HOk P w H s.heap
 bare : AllBare s.gens
noncomputable def CE (outer : List Env) (P : Program) (w : World) (H : Hp) (s : Shared) (Q : VK) (u : Value) (s' : Shared) : Prop :=
 ∃ v H', s'.os = s.os ∧ AllBare s'.gens ∧ Un (frs outer) [] H H' s.heap s'.heap ∧ HOk P w H' s'.heap ∧ RelV v u ∧ Q v H'
noncomputable def CR (CX : CXT) (outer : List Env) (P : Program) (w : World) (H : Hp) (s : Shared) (Q : VK) (E : XK) (r : Result) (s' : Shared) : Prop :=
 match r with
 | .ok (.ret u) => CE outer P w H s Q u s'
 | .ok _ => False
 | .error e => CX outer H s E e s'
structure FnOk (P : Program) (w : World) (K : PySem.W.Frag) (mg : Str → Option Value) (base : Heap) (CX : CXT) (k : Nat) (f : Addr) (fd : FuncData) (ps : List Str) (sp : Sp) : Prop where
 len : ∀ vs H Q E, sp vs H Q E → vs.length = ps.length
 run : ∀ (A : Around) (outer : List Env) (s : Shared) (H : Hp) (args : Args) (us : List Value) (vs : List V) (Q : VK) (E : XK), Room k A → Env0 P w K mg base A outer s H → BindsTo s fd args (ps.zip us) → Vals vs us → sp vs H Q E →
  codeAny (model P w) A (.call (.ref f) args) (CR CX outer P w H s Q E) s
section
variable {X : Cx} {pins : List (Addr × Obj)} {σ : St} {H : Hp} {s s' : Shared}
theorem Inv.env0 (I : Inv X pins σ H s) : Env0 X.prog X.w X.K X.mg X.base X.A X.stack s H :=
 ⟨I.ok.frames, I.ok.mod, I.bs, Nat.le_trans I.ok.bsz I.sz, I.stack, I.stkFree, I.hok, I.bare⟩
theorem Inv.after {Q : VK} {u : Value} (I : Inv X pins σ H s) (h : CE X.stack X.prog X.w H s Q u s') : EP X pins σ Q u s' := by
 obtain ⟨v, H', os, bare, un, hok, r, q⟩ := h
 obtain ⟨hh, g, d, t, os'⟩ := s'
 obtain rfl : os' = s.os := os
 exact ⟨v, H', I.call (h' := hh) (g' := g) (d' := d) (t' := t) (ch := []) un hok bare (fun b z => absurd z (by simp)), r, q⟩
end
noncomputable def tCall (sp : Sp) (dvs : List V) (E : XK) (t : TA) : TE := fun σ H Q => t σ H fun vs H1 => sp (vs ++ dvs) H1 Q E
noncomputable def Binds (K : PySem.W.Frag) (fd : FuncData) (ps : List Str) (ds : List Value) : Prop :=
 ∀ (s : Shared) (us : List Value), K.In s.heap → (us ++ ds).length = ps.length → BindsTo s fd ⟨us, []⟩ (ps.zip (us ++ ds))
theorem Binds.all {K : PySem.W.Frag} {fd : FuncData} {ps : List Str} (h : ∀ us : List Value, us.length = ps.length → bindArgs fd ⟨us, []⟩ = pure (ps.zip us)) : Binds K fd ps [] := fun s us _ hl => by
 rw [List.append_nil] at hl ⊢
 exact .of_eq (h us hl)
noncomputable def Passes (CX : CXT) (X : Cx) (E : XK) : Prop := ∀ (pins : List (Addr × Obj)) (σ : St) (H : Hp) (s : Shared) (e : Value) (s' : Shared), Inv X pins σ H s → CX X.stack H s E e s' → X.xe e s'
section
variable {X : Cx} {CX : CXT} {k : Nat} {f C : Addr} {fd : FuncData} {ps : List Str} {sp : Sp} {dvs : List V} {ds : List Value} {E : XK} {x m : Str} {p pos apos : Pos} {e o : Expr} {es : List Expr} {ta : TE} {t : TA}
theorem run_fn {pins : List (Addr × Obj)} {σ : St} {H : Hp} {s : Shared} {Q : VK} {us : List Value} {vs : List V} (F : FnOk X.prog X.w X.K X.mg X.base CX k f fd ps sp) (hr : Room k X.A) (hb : Binds X.K fd ps ds) (hd : Vals dvs ds) (hx : Passes CX X E)
  (I : Inv X pins σ H s) (r : Vals vs us) (h : sp (vs ++ dvs) H Q E) : wpAny (model X.prog X.w) X.A (call (.ref f) us) (EP X pins σ Q) X.xe s := by
 have r2 : Vals (vs ++ dvs) (us ++ ds) := r.append hd
 have hl : (us ++ ds).length = ps.length := by rw [← r2.length]; exact F.len _ _ _ _ h
 refine wpAny_call (codeAny_mono (F.run X.A X.stack s H ⟨us, []⟩ (us ++ ds) (vs ++ dvs) Q E hr I.env0 (hb s us I.kIn hl) r2 h) fun r s' hq => ?_)
 cases r with
 | error e => exact hx pins σ H s e s' I hq
 | ok fl =>
   cases fl with
   | ret u => exact I.after hq
   | next => exact False.elim hq
   | brk => exact False.elim hq
   | cont => exact False.elim hq
theorem pe_call (F : FnOk X.prog X.w X.K X.mg X.base CX k f fd ps sp) (hr : Room k X.A) (hg : Gl X x) (hm : X.mg x = some (.ref f)) (hk : PySem.W.keepIn X.K (.ref f) = true) (hb : Binds X.K fd ps ds) (hd : Vals dvs ds) (hx : Passes CX X E)
  (ha : PA X (e :: es) t) (hdb : (x == ("__debug__" : Str)) = false := by decide) (he : starEach (e :: es) X.env = (false, eval e X.env) :: starEach es X.env := by rfl) (hpl : (backTo pos (starEach es X.env)).any (·.1) = false := by rfl) :
  PE X (.Call (.Name x p) (e :: es) [] pos) (tCall sp dvs E t) := by
 intro pins s σ H Q I h
 refine wpAny_Call_Name_kw (ld_glob I hg hm ?_ hdb)
 refine PySem.W.callWith_K (h₀ := X.base) I.ok.mod.kin hk (thn (ha pos pins s σ H _ I h) fun us s1 ⟨vs, H1, I1, r, q⟩ => ⟨I1.kIn, ?_⟩) he hpl
 exact run_fn F hr hb hd hx I1 r q
end
section
variable {X : Cx} {CX : CXT} {k : Nat} {f C : Addr} {fd : FuncData} {ps ks : List Str} {sp : Sp} {E : XK} {x m : Str} {p pos apos kpos : Pos} {e o : Expr} {es : List Expr} {kws : List Keyword} {te ta : TE} {t tk : TA} {nm : Option Str}
variable {g : List Value → List Value → List Value} {gV : List V → List V → List V}
end
structure FnScope (N P : List Str) (sc : Scope) : Prop where
 kind : sc.kind = .function
 co : sc.isCoroutine = false
 gen : sc.isGenerator = false
 nd : N.Nodup
 pre : N.take P.length = P
 par : ∀ x ∈ P, sc.names.lookup x = some .local ∨ sc.names.lookup x = some .cell
 nofree : ∀ y ∈ sc.names, y.2 ≠ .free
theorem bindL_out {kindOf : Str → Option NameKind} {x : Str} : ∀ {binds : List (Str × Value)} {m : Str → Option Value}, (∀ v, (x, v) ∉ binds) → bindL kindOf binds m x = m x
 | [], _, _ => rfl
 | (n, v) :: r, m, h => by
   unfold bindL
   rw [bindL_out fun w hw => h w (List.mem_cons_of_mem _ hw)]
   split
   · have : x ≠ n := by rintro rfl; exact h v List.mem_cons_self
     simp [this]
   · rfl
theorem bindC_out {kindOf : Str → Option NameKind} {x : Str} : ∀ {binds : List (Str × Value)} {m : Str → Option Value}, (∀ v, (x, v) ∉ binds) → bindC kindOf binds m x = m x
 | [], _, _ => rfl
 | (n, v) :: r, m, h => by
   unfold bindC
   rw [bindC_out fun w hw => h w (List.mem_cons_of_mem _ hw)]
   split
   · rfl
   · have : x ≠ n := by rintro rfl; exact h v List.mem_cons_self
     simp [this]
theorem bindL_get {kindOf : Str → Option NameKind} {x : Str} {v : Value} : ∀ {P : List Str} {vs : List Value} {i : Nat} {m : Str → Option Value}, P.Nodup → P[i]? = some x → vs[i]? = some v → kindOf x = some .local →
  bindL kindOf (P.zip vs) m x = some v
 | [], _, _, _, _, h, _, _ => by simp at h
 | _ :: _, [], _, _, _, _, h, _ => by simp at h
 | p :: P, w :: vs, 0, m, nd, h1, h2, hk => by
   simp at h1 h2; subst h1; subst h2
   show bindL kindOf ((p, w) :: P.zip vs) m p = _
   unfold bindL
   rw [bindL_out fun v hv => (List.nodup_cons.mp nd).1 (List.of_mem_zip hv).1, if_pos hk]
   simp
 | p :: P, w :: vs, i + 1, m, nd, h1, h2, hk => by
   show bindL kindOf ((p, w) :: P.zip vs) m x = _
   unfold bindL
   exact bindL_get (i := i) (List.nodup_cons.mp nd).2 (by simpa using h1) (by simpa using h2) hk
theorem bindC_get {kindOf : Str → Option NameKind} {x : Str} {v : Value} : ∀ {P : List Str} {vs : List Value} {i : Nat} {m : Str → Option Value}, P.Nodup → P[i]? = some x → vs[i]? = some v → kindOf x ≠ some .local →
  bindC kindOf (P.zip vs) m x = some v
 | [], _, _, _, _, h, _, _ => by simp at h
 | _ :: _, [], _, _, _, _, h, _ => by simp at h
 | p :: P, w :: vs, 0, m, nd, h1, h2, hk => by
   simp at h1 h2; subst h1; subst h2
   show bindC kindOf ((p, w) :: P.zip vs) m p = _
   unfold bindC
   rw [bindC_out fun v hv => (List.nodup_cons.mp nd).1 (List.of_mem_zip hv).1, if_neg hk]
   simp
 | p :: P, w :: vs, i + 1, m, nd, h1, h2, hk => by
   show bindC kindOf ((p, w) :: P.zip vs) m x = _
   unfold bindC
   exact bindC_get (i := i) (List.nodup_cons.mp nd).2 (by simpa using h1) (by simpa using h2) hk
noncomputable def start (N : List Str) (vs : List V) : St := vs.map some ++ List.replicate (N.length - vs.length) none
noncomputable def cxOf (CX : CXT) (P : Program) (w : World) (K : PySem.W.Frag) (mg : Str → Option Value) (base : Heap) (N : List Str) (qual : Str) (scope : Scope) (f : Addr) (cd : Value) (A : Around) (outer : List Env) (s : Shared) (H : Hp) (E : XK) : Cx where
 prog := P
 w := w
 K := K
 mg := mg
 base := base
 A := A.deeper (envOfC qual scope s.heap.objs.size f cd)
 N := N
 s₀ := s
 H₀ := H
 env := envOfC qual scope s.heap.objs.size f cd
 outer := outer
 stack := envOfC qual scope s.heap.objs.size f cd :: outer
 ex := []
 calm := true
 fn := fun _ => true
 pn := []
 xe := fun e s' => wpAny (model P w) (A.deeper (envOfC qual scope s.heap.objs.size f cd)) (leaving (envOfC qual scope s.heap.objs.size f cd) e) (fun _ s'' => CX outer H s E e s'') (fun e' s'' => CX outer H s E e' s'') s'
theorem cell_has {sc : Scope} {n : Nat} {x : Str} (h : sc.names.lookup x = some .cell) : ∃ c, (cellsFrom n sc.names []).lookup x = some c := by
 have q := PySem.W.cellsFrom_some sc.names n [] (.inl h)
 exact Option.isSome_iff_exists.mp q
theorem inv_start {CX : CXT} {P : Program} {w : World} {K : PySem.W.Frag} {mg : Str → Option Value} {base : Heap} {N ps : List Str} {qual : Str} {scope : Scope} {f : Addr} {cd : Value} {A : Around} {outer : List Env} {s s1 : Shared} {H : Hp} {E : XK} {us : List Value} {vs : List V}
  (S : FnScope N ps scope) (hd : A.handled = none) (e0 : Env0 P w K mg base A outer s H) (hl : vs.length = ps.length) (r : Vals vs us)
  (x : InCallC s s.heap.objs.size (bindL (envOfC qual scope s.heap.objs.size f cd).kindOf (ps.zip us) fun _ => none) (cellsFrom (s.heap.objs.size + 1) scope.names []) (bindC (envOfC qual scope s.heap.objs.size f cd).kindOf (ps.zip us) fun _ => none) s1) :
  Inv (cxOf CX P w K mg base N qual scope f cd A outer s H E) [] (start N vs) H s1 := by
 have hpl : ps.length ≤ N.length := by have := congrArg List.length S.pre; rw [List.length_take] at this; omega
 obtain ⟨h1, tk, rfl, hk⟩ := x.done
 have noA : ∀ b : Addr, b ∉ (cxOf CX P w K mg base N qual scope f cd A outer s H E).ex := fun b z => absurd (show b ∈ ([] : List Addr) from z) (by simp)
 refine ⟨⟨e0.mod, S.kind, rfl, rfl, Nat.le_refl _, fun y z c h1 h2 => ?_, fun y hy => ?_, fun y c _ h => ?_, fun _ => hd, Around.frames_deeper e0.frames, .inr ⟨rfl, rfl⟩, fun b z => absurd z (noA b), e0.bs, e0.bsz, fun b _ _ => noA b, fun b z => absurd z (noA b), e0.funs, e0.frf⟩,
  rfl, e0.bare, Un.kept hk, ⟨_, x.toInCall.ns, fun i y v h1 h2 h3 => ?_⟩, fun y c h => ⟨_, x.cell y c h⟩, e0.hok.fresh (Nat.le_refl _), fun y c h => ?_, fun p hp => absurd (show p ∈ ([] : List (Addr × Obj)) from hp) (by simp), e0.hok.kept hk, ?_⟩
 · exact name_of_addr x.apart (PySem.mem_of_lookup h1) (PySem.mem_of_lookup h2)
 · have hy : scope.names.lookup y = some .cell ∨ scope.names.lookup y = some .free := hy
   rcases hy with hy | hy
   · exact cell_has hy
   · exact absurd rfl (S.nofree _ (PySem.mem_of_lookup hy))
 · exact Nat.le_of_lt (x.above y c (PySem.mem_of_lookup h))
 · have hi : i < vs.length := by
    unfold start at h2
    by_cases hi : i < vs.length
    · exact hi
    · rw [List.getElem?_append_right (by simpa using hi)] at h2
      rw [List.getElem?_replicate] at h2
      split at h2 <;> cases h2
   have ha : vs[i]? = some v := by
    unfold start at h2
    rw [List.getElem?_append_left (by simpa using hi), List.getElem?_map] at h2
    cases e : vs[i]? with
    | none => rw [e] at h2; cases h2
    | some a => rw [e] at h2; cases h2; rfl
   obtain ⟨u, hu, rv⟩ := r.get ha
   have hp : ps[i]? = some y := by
    rw [← S.pre, List.getElem?_take_of_lt (by omega)]; exact h1
   have ndP : ps.Nodup := by rw [← S.pre]; exact S.nd.sublist (List.take_sublist _ _)
   refine ⟨u, rv, ?_⟩
   rcases S.par y (List.mem_of_getElem? hp) with k | k
   · exact .inl ⟨k, bindL_get ndP hp hu k⟩
   · obtain ⟨c, e⟩ := cell_has (n := s.heap.objs.size + 1) k
     refine .inr ⟨.inl k, c, e, ?_⟩
     have q := x.cell y c e
     rw [bindC_get ndP hp hu (by show scope.names.lookup y ≠ _; rw [k]; decide)] at q
     exact q
 · exact e0.hok.fresh (Nat.le_of_lt (x.above y c (PySem.mem_of_lookup h)))
 · unfold start
   show _ = N.length
   rw [List.length_append, List.length_map, List.length_replicate]
   omega
theorem fn_of {CX : CXT} {P : Program} {w : World} {K : PySem.W.Frag} {mg : Str → Option Value} {base : Heap} {k : Nat} {f : Addr} {name qual : Str} {params : Arguments} {body : List Stmt} {scope : Scope} {dV kV doc pm cdv ct oc : Value} {an od : Option Addr}
  {osl : Array (Option Value)} {N ps : List Str} {sp : Sp} (lk : K.lookup f = some ⟨oc, od, .func (PySem.W.fnOf name qual params body scope dV kV doc pm an cdv ct), osl⟩) (hcd : PySem.W.codeIn K cdv qual = true) (S : FnScope N ps scope)
  (len : ∀ vs H Q E, sp vs H Q E → vs.length = ps.length)
  (hbody : ∀ (A : Around) (outer : List Env) (s : Shared) (H : Hp) (vs : List V) (Q : VK) (E : XK), Room k (A.deeper (envOfC qual scope s.heap.objs.size f cdv)) → sp vs H Q E →
   ∃ t, PSs (cxOf CX P w K mg base N qual scope f cdv A outer s H E) body t ∧ t { nx := fun _ H' => Q .non H', rt := Q } (start N vs) H) :
  FnOk P w K mg base CX (k + 1) f (PySem.W.fnOf name qual params body scope dV kV doc pm an cdv ct) ps sp := by
 refine ⟨len, fun A outer s H args us vs Q E hr e0 hb r hsp => ?_⟩
 have hl := len _ _ _ _ hsp
 have KX : K.In s.heap := e0.mod.kin.keeps fun b o e => (e0.bs b o e).1
 have lim : s.heap.NoLimit := e0.mod.nolimit.keeps fun b o e => (e0.bs b o e).1
 have hkind : ∀ y ∈ ps.zip us, scope.names.lookup y.1 = some .local ∨ (scope.names.lookup y.1 = some .cell ∧ ((cellsFrom (s.heap.objs.size + 1) scope.names []).lookup y.1).isSome = true) := fun ⟨n, v⟩ hy => by
  rcases S.par n (List.of_mem_zip hy).1 with q | q
  · exact .inl q
  · exact .inr ⟨q, PySem.W.cellsFrom_some _ _ _ (.inl q)⟩
 refine codeAny_call_function hr.depth (KX _ _ lk) rfl S.co S.gen rfl (PySem.W.codeRec_of KX hcd) (hb _ _ _ _ ?_)
 refine wpAny_newFunctionEnv_cells S.kind hkind fun env he s1 x => ?_
 subst he
 refine ⟨lim.keeps x.toInCall.keep, codeAny_func ?_⟩
 obtain ⟨t, ht, hq⟩ := hbody A outer s H vs Q E (hr.deeper _) hsp
 have I : Inv (cxOf CX P w K mg base N qual scope f cdv A outer s H E) [] (start N vs) H s1 := inv_start S hr.hd e0 hl r x
 refine wpAny_mono (ht [] s1 (start N vs) H _ I hq) (fun fl s' hs => ?_) fun e s' hs => hs
 have fin : ∀ {σ' : St} {H' : Hp} {v : V} {u : Value}, Inv (cxOf CX P w K mg base N qual scope f cdv A outer s H E) [] σ' H' s' → RelV v u → Q v H' → CE outer P w H s Q u s' :=
  fun {σ' H' v u} J rv q => ⟨v, H', J.os, J.bare, J.base, J.hok, rv, q⟩
 cases fl with
 | ret u =>
   obtain ⟨v, σ', H', J, rv, q⟩ := hs
   exact fin J rv q
 | next =>
   obtain ⟨σ', H', J, q⟩ := hs
   exact fin (v := V.non) (u := Value.none) J rfl q
 | brk =>
   obtain ⟨_, _, _, q⟩ := hs
   exact False.elim q
 | cont =>
   obtain ⟨_, _, _, q⟩ := hs
   exact False.elim q
section
variable {X : Cx} {x : Str} {p pos : Pos} {e : Expr} {es : List Expr} {t : TA} {id T : String} {r : List V → Hp → VK → Prop}
noncomputable def tCB (r : List V → Hp → VK → Prop) (t : TA) : TE := fun σ H Q => t σ H fun vs H1 => r vs H1 Q
theorem pe_callB (hc : CallR X (.builtin id) r) (hg : Gl X x) (hm : X.mg x = none) (hv : bootBuiltins x = some (.builtin id)) (ha : PA X (e :: es) t) (hn : x ≠ "__name__" := by decide) (hdb : (x == ("__debug__" : Str)) = false := by decide)
  (he : starEach (e :: es) X.env = (false, eval e X.env) :: starEach es X.env := by rfl) (hpl : (backTo pos (starEach es X.env)).any (·.1) = false := by rfl) : PE X (.Call (.Name x p) (e :: es) [] pos) (tCB r t) := by
 intro pins s σ H Q I h
 refine wpAny_Call_Name_kw (ld_blt I hg hm hv ?_ hn hdb)
 exact PyProof.Rows.callWith_builtin1 (thn (ha pos pins s σ H _ I h) fun us s1 ⟨vs, H1, I1, r1, q1⟩ => hc pins s1 σ H1 vs us Q I1 r1 q1) he hpl
theorem pe_callTy (hc : CallR X (.type T) r) (hg : Gl X x) (hm : X.mg x = none) (hv : bootBuiltins x = some (.type T)) (ha : PA X (e :: es) t) (hn : x ≠ "__name__" := by decide) (hdb : (x == ("__debug__" : Str)) = false := by decide)
  (he : starEach (e :: es) X.env = (false, eval e X.env) :: starEach es X.env := by rfl) (hpl : (backTo pos (starEach es X.env)).any (·.1) = false := by rfl) : PE X (.Call (.Name x p) (e :: es) [] pos) (tCB r t) := by
 intro pins s σ H Q I h
 refine wpAny_Call_Name_kw (ld_blt I hg hm hv ?_ hn hdb)
 exact PyProof.Rows.callWith_type1 (thn (ha pos pins s σ H _ I h) fun us s1 ⟨vs, H1, I1, r1, q1⟩ => hc pins s1 σ H1 vs us Q I1 r1 q1) he hpl
end
section
variable {κ : Type} [DecidableEq κ]
noncomputable def valV (kvs : List (κ × V)) (k : κ) : Option V := (kvs.find? fun kv => decide (kv.1 = k)).map (·.2)
noncomputable def putK (kvs : List (κ × V)) (k : κ) (v : V) : List (κ × V) :=
 if (kvs.any fun kv => decide (kv.1 = k)) = true then kvs.map (fun kv => if kv.1 = k then (kv.1, v) else kv) else kvs ++ [(k, v)]
noncomputable def dropK (kvs : List (κ × V)) (k : κ) : List (κ × V) := kvs.filter fun kv => decide (kv.1 ≠ k)
theorem valV_pos {p : κ × V} {r : List (κ × V)} {k : κ} (e : p.1 = k) : valV (p :: r) k = some p.2 := by simp [valV, List.find?_cons, e]
theorem valV_neg {p : κ × V} {r : List (κ × V)} {k : κ} (e : ¬ p.1 = k) : valV (p :: r) k = valV r k := by simp [valV, List.find?_cons, e]
theorem valV_any (k : κ) : ∀ kvs : List (κ × V), (kvs.any fun kv => decide (kv.1 = k)) = (valV kvs k).isSome
 | [] => rfl
 | p :: r => by
   rw [List.any_cons]
   by_cases e : p.1 = k
   · simp only [valV_pos e, decide_eq_true e, Bool.true_or, Option.isSome_some]
   · rw [valV_neg e, decide_eq_false e, Bool.false_or]; exact valV_any k r
theorem valV_map (k j : κ) (y : V) : ∀ kvs : List (κ × V), valV (kvs.map fun kv => if kv.1 = k then (kv.1, y) else kv) j = (valV kvs j).map fun x => if j = k then y else x
 | [] => rfl
 | p :: r => by
   have ih := valV_map k j y r
   rw [List.map_cons]
   by_cases h : p.1 = k
   · rw [if_pos h]
     by_cases e : p.1 = j
     · rw [valV_pos (p := (p.1, y)) e, valV_pos e, Option.map_some, if_pos (e.symm.trans h)]
     · rw [valV_neg (p := (p.1, y)) e, valV_neg e, ih]
   · rw [if_neg h]
     by_cases e : p.1 = j
     · rw [valV_pos (p := p) e, valV_pos e, Option.map_some, if_neg (fun z => h (e.trans z))]
     · rw [valV_neg (p := p) e, valV_neg e, ih]
theorem valV_snoc (k j : κ) (y : V) : ∀ kvs : List (κ × V), valV kvs k = none → valV (kvs ++ [(k, y)]) j = if j = k then some y else valV kvs j
 | [], _ => by
   by_cases e : k = j
   · rw [if_pos e.symm]; exact valV_pos (p := (k, y)) e
   · rw [if_neg (fun z => e z.symm)]; exact valV_neg (p := (k, y)) e
 | p :: r, hn => by
   rw [List.cons_append]
   have hk : ¬ p.1 = k := fun z => by rw [valV_pos z] at hn; cases hn
   rw [valV_neg hk] at hn
   have ih := valV_snoc k j y r hn
   by_cases e : p.1 = j
   · rw [valV_pos e, valV_pos e, if_neg (fun z => hk (e.trans z))]
   · rw [valV_neg e, valV_neg e, ih]
theorem valV_put (kvs : List (κ × V)) (k j : κ) (y : V) : valV (putK kvs k y) j = if j = k then some y else valV kvs j := by
 unfold putK
 by_cases a : (kvs.any fun kv => decide (kv.1 = k)) = true
 · rw [if_pos a, valV_map]
   rw [valV_any] at a
   by_cases e : j = k
   · obtain ⟨x, hx⟩ := Option.isSome_iff_exists.mp a
     rw [if_pos e, e, hx, Option.map_some, if_pos rfl]
   · rw [if_neg e]
     cases valV kvs j with
     | none => rfl
     | some x => rw [Option.map_some, if_neg e]
 · rw [if_neg a]
   refine valV_snoc k j y kvs ?_
   rw [valV_any] at a
   cases q : valV kvs k with
   | none => rfl
   | some x => rw [q] at a; exact (a rfl).elim
theorem length_putK (kvs : List (κ × V)) (k : κ) (v : V) : (putK kvs k v).length ≤ kvs.length + 1 := by
 unfold putK
 split
 · rw [List.length_map]; omega
 · rw [List.length_append, List.length_cons, List.length_nil]; omega
theorem putK_new {kvs : List (κ × V)} {k : κ} (v : V) (h : valV kvs k = none) : putK kvs k v = kvs ++ [(k, v)] := by
 unfold putK
 rw [valV_any, h]
 exact if_neg (by decide)
theorem RelO.isSome_eq {o : Option V} {u : Option Value} (r : RelO o u) : o.isSome = u.isSome := by
 cases o with
 | none => cases u with
   | none => rfl
   | some _ => exact (show False from r).elim
 | some _ => cases u with
   | none => exact (show False from r).elim
   | some _ => rfl
theorem RelO.getD {o : Option V} {u : Option Value} {d : V} {d' : Value} (r : RelO o u) (rd : RelV d d') : RelV (o.getD d) (u.getD d') := by
 cases o with
 | none => cases u with
   | none => exact rd
   | some _ => exact (show False from r).elim
 | some _ => cases u with
   | none => exact (show False from r).elim
   | some _ => exact r
theorem KV.val {kvs : List (κ × V)} {vs : List (κ × Value)} (r : KV kvs vs) (k : κ) : RelO (valV kvs k) (valueAt vs k) := by
 unfold KV at r
 induction r with
 | nil => exact True.intro
 | @cons p q ps qs h t ih =>
   obtain ⟨h1, h2⟩ := h
   by_cases e : p.1 = k
   · have e' : q.1 = k := h1.symm.trans e
     have b : valueAt (q :: qs) k = some q.2 := by simp [valueAt, List.find?_cons, e']
     rw [valV_pos e, b]; exact h2
   · have e' : ¬ q.1 = k := fun z => e (h1.trans z)
     have b : valueAt (q :: qs) k = valueAt qs k := by simp [valueAt, List.find?_cons, e']
     rw [valV_neg e, b]; exact ih
theorem KV.any {kvs : List (κ × V)} {vs : List (κ × Value)} (r : KV kvs vs) (k : κ) : (kvs.any fun kv => decide (kv.1 = k)) = vs.any fun kv => decide (kv.1 = k) := by
 unfold KV at r
 induction r with
 | nil => rfl
 | cons h t ih => rw [List.any_cons, List.any_cons, ih, h.1]
theorem KV.repl {kvs : List (κ × V)} {vs : List (κ × Value)} (r : KV kvs vs) (k : κ) {y : V} {u : Value} (ry : RelV y u) :
  KV (kvs.map fun kv => if kv.1 = k then (kv.1, y) else kv) (vs.map fun kv => if kv.1 = k then (kv.1, u) else kv) := by
 unfold KV at r ⊢
 induction r with
 | nil => exact .nil
 | @cons p q ps qs h t ih =>
   rw [List.map_cons, List.map_cons]
   refine .cons ?_ ih
   obtain ⟨h1, h2⟩ := h
   by_cases e : p.1 = k
   · rw [if_pos e, if_pos (h1.symm.trans e)]; exact ⟨h1, ry⟩
   · rw [if_neg e, if_neg (fun z => e (h1.trans z))]; exact ⟨h1, h2⟩
theorem KV.put {kvs : List (κ × V)} {vs : List (κ × Value)} (r : KV kvs vs) (k : κ) {y : V} {u : Value} (ry : RelV y u) : KV (putK kvs k y) (stored vs k u) := by
 unfold putK stored
 rw [r.any k]
 by_cases e : (vs.any fun kv => decide (kv.1 = k)) = true
 · rw [if_pos e, if_pos e]; exact r.repl k ry
 · rw [if_neg e, if_neg e]; exact Paired.snoc r ⟨rfl, ry⟩
theorem KV.drop {kvs : List (κ × V)} {vs : List (κ × Value)} (r : KV kvs vs) (k : κ) : KV (dropK kvs k) (without vs k) := by
 unfold KV at r ⊢
 unfold dropK without
 induction r with
 | nil => exact .nil
 | @cons p q ps qs h t ih =>
   obtain ⟨h1, h2⟩ := h
   rw [List.filter_cons, List.filter_cons]
   by_cases e : p.1 = k
   · have a : ¬ decide (p.1 ≠ k) = true := by simp [e]
     have b : ¬ decide (q.1 ≠ k) = true := by simp [h1.symm.trans e]
     rw [if_neg a, if_neg b]; exact ih
   · have e' : ¬ q.1 = k := fun z => e (h1.trans z)
     have a : decide (p.1 ≠ k) = true := by simp [e]
     have b : decide (q.1 ≠ k) = true := by simp [e']
     rw [if_pos a, if_pos b]; exact .cons ⟨h1, h2⟩ ih
theorem KV.keys {kvs : List (κ × V)} {vs : List (κ × Value)} (r : KV kvs vs) : kvs.map (·.1) = vs.map (·.1) := by
 unfold KV at r
 induction r with
 | nil => rfl
 | cons h t ih => rw [List.map_cons, List.map_cons, ih, h.1]
theorem KV.length {kvs : List (κ × V)} {vs : List (κ × Value)} (r : KV kvs vs) : kvs.length = vs.length := Paired.length r
theorem dropK_le (kvs : List (κ × V)) (k : κ) : (dropK kvs k).length ≤ kvs.length := List.length_filter_le _ _
end
theorem kV_is {P : Program} {w : World} {k : Key} {u : Value} (r : RelV (kV k) u) : (mixKind P w).is k u = true := by
 cases k with
 | inl i => obtain ⟨t, e⟩ := (show ∃ t, u = Value.int i t from r); subst e; exact mixKind_int P w i t
 | inr x => obtain ⟨t, e⟩ := (show ∃ t, u = Value.str x t from r); subst e; exact mixKind_str P w x t
theorem items_are {P : Program} {w : World} : ∀ {ks : List Key} {us : List Value}, Vals (ks.map kV) us → ItemsAre (mixKind P w) ks us
 | [], _, r => by rw [List.map_nil] at r; cases r; exact .nil
 | k :: ks, _, r => by
   rw [List.map_cons] at r
   cases r with
   | cons h t => exact .cons (kV_is h) (items_are t)
abbrev KT (H : Hp) : List (List Key × V) → List (List Key × Addr × Value) → Prop := Paired fun p q => p.1 = q.1 ∧ H q.2.1 = some (.tup (p.1.map kV)) ∧ RelV p.2 q.2.2
theorem KT.val {H : Hp} {kvs : List (List Key × V)} {xs : List (List Key × Addr × Value)} (r : KT H kvs xs) (k : List Key) : RelO (valV kvs k) ((atKey xs k).map (·.2)) := by
 induction r with
 | nil => exact True.intro
 | @cons p q ps qs h t ih =>
   obtain ⟨h1, _, h2⟩ := h
   by_cases e : p.1 = k
   · have e' : q.1 = k := h1.symm.trans e
     have b : atKey (q :: qs) k = some q.2 := by simp [atKey, List.find?_cons, e']
     rw [valV_pos e, b]; exact h2
   · have e' : ¬ q.1 = k := fun z => e (h1.trans z)
     have b : atKey (q :: qs) k = atKey qs k := by simp [atKey, List.find?_cons, e']
     rw [valV_neg e, b]; exact ih
theorem KT.repl {H : Hp} {kvs : List (List Key × V)} {xs : List (List Key × Addr × Value)} (r : KT H kvs xs) (k : List Key) {y : V} {u : Value} (ry : RelV y u) :
  KT H (kvs.map fun kv => if kv.1 = k then (kv.1, y) else kv) (xs.map (putAt k u)) := by
 induction r with
 | nil => exact .nil
 | @cons p q ps qs h t ih =>
   rw [List.map_cons, List.map_cons]
   refine .cons ?_ ih
   obtain ⟨h1, h2, h3⟩ := h
   unfold putAt
   by_cases e : p.1 = k
   · rw [if_pos e, if_pos (h1.symm.trans e)]; exact ⟨h1, h2, ry⟩
   · rw [if_neg e, if_neg (fun z => e (h1.trans z))]; exact ⟨h1, h2, h3⟩
theorem KT.put {H : Hp} {kvs : List (List Key × V)} {xs : List (List Key × Addr × Value)} (r : KT H kvs xs) (k : List Key) {b : Addr} {y : V} {u : Value} (hb : H b = some (.tup (k.map kV))) (ry : RelV y u) :
  KT H (putK kvs k y) (storedH xs k b u) := by
 have e : (kvs.any fun kv => decide (kv.1 = k)) = (atKey xs k).isSome := by
  rw [valV_any, (r.val k).isSome_eq, Option.isSome_map]
 unfold putK storedH
 rw [e]
 by_cases q : (atKey xs k).isSome = true
 · rw [if_pos q, if_pos q]; exact r.repl k ry
 · rw [if_neg q, if_neg q]; exact Paired.snoc r ⟨rfl, hb, ry⟩
theorem KT.keeps {H H' : Hp} {kvs : List (List Key × V)} {xs : List (List Key × Addr × Value)} (r : KT H kvs xs) (ht : ∀ b ys, H b = some (.tup ys) → H' b = some (.tup ys)) : KT H' kvs xs :=
 Paired.mapP r fun _ _ z => ⟨z.1, ht _ _ z.2.1, z.2.2⟩
section
variable {P : Program} {w : World} {H : Hp} {h : Heap} {a : Addr}
theorem rd_of {u : HO} (ok : HOk P w H h) (e : Rd H a u) : ObjOk P w H h a u := e.ok ok
theorem dk_rd {kvs : List (Key × V)} (ok : HOk P w H h) (e : Rd H a (.dK kvs)) : kvs.length ≤ sizeLine ∧ (a == sysModules) = false ∧ ∃ vs, KV kvs vs ∧ h.DictOf (mixKind P w) a vs :=
 show ObjOk P w H h a (.dK kvs) from rd_of ok e
theorem dk_of {kvs : List (Key × V)} (ok : HOk P w H h) (e : H a = some (.dK kvs)) : kvs.length ≤ sizeLine ∧ (a == sysModules) = false ∧ ∃ vs, KV kvs vs ∧ h.DictOf (mixKind P w) a vs := dk_rd ok (.inl e)
theorem key_of {ks : List Key} (ok : HOk P w H h) (e : H a = some (.tup (ks.map kV))) : (tupleKind (mixKind P w)).is h ks a := by
 obtain ⟨_, its, r, ⟨o, h1, h2, n, h3⟩, _⟩ := (show ObjOk P w H h a (.tup (ks.map kV)) from ok a _ e)
 exact ⟨o, its.toArray, n, h1, h2, h3, by simpa using items_are r⟩
theorem dt_rd {kvs : List (List Key × V)} (ok : HOk P w H h) (e : Rd H a (.dT kvs)) : kvs.length ≤ sizeLine ∧ (a == sysModules) = false ∧
  ∃ xs, KT H kvs xs ∧ h.DictOfH (tupleKind (mixKind P w)) a xs := by
 obtain ⟨z, y, xs, r, o, es, ep, h1, h2, h3, h4, h5⟩ := (show ObjOk P w H h a (.dT kvs) from rd_of ok e)
 refine ⟨z, y, xs, r, o, es, ep, h1, h2, h3, h4, fun x hx => ?_, h5⟩
 have all : ∀ {l : List (List Key × V)} {m : List (List Key × Addr × Value)}, KT H l m → ∀ x ∈ m, (tupleKind (mixKind P w)).is h x.1 x.2.1 := by
  intro l m q
  induction q with
  | nil => intro x hx; exact nomatch hx
  | @cons p q ps qs hq t ih =>
    intro x hx
    rcases List.mem_cons.mp hx with e | hx
    · subst e
      exact key_of ok (by rw [← hq.1]; exact hq.2.1)
    · exact ih x hx
 exact all r x hx
theorem dt_of {kvs : List (List Key × V)} (ok : HOk P w H h) (e : H a = some (.dT kvs)) : kvs.length ≤ sizeLine ∧ (a == sysModules) = false ∧
 ∃ xs, KT H kvs xs ∧ h.DictOfH (tupleKind (mixKind P w)) a xs := dt_rd ok (.inl e)
end
noncomputable def DGet (H : Hp) (a : Addr) (y : V) (r : Option V) : Prop :=
 (∃ kvs k, Rd H a (.dK kvs) ∧ y = kV k ∧ r = valV kvs k) ∨ ∃ kvs k b, Rd H a (.dT kvs) ∧ y = .ref b ∧ H b = some (.tup (k.map kV)) ∧ r = valV kvs k
noncomputable def DPut (H : Hp) (a : Addr) (y v : V) (H' : Hp) : Prop :=
 (∃ kvs k, H a = some (.dK kvs) ∧ y = kV k ∧ kvs.length < sizeLine ∧ H' = upd H a (.dK (putK kvs k v))) ∨
 ∃ kvs k b, H a = some (.dT kvs) ∧ y = .ref b ∧ H b = some (.tup (k.map kV)) ∧ kvs.length < sizeLine ∧ H' = upd H a (.dT (putK kvs k v))
theorem DGet.k {H : Hp} {a : Addr} {kvs : List (Key × V)} {k : Key} (e : H a = some (.dK kvs)) : DGet H a (kV k) (valV kvs k) := .inl ⟨kvs, k, .inl e, rfl, rfl⟩
theorem DPut.k {H : Hp} {a : Addr} {kvs : List (Key × V)} {k : Key} {v : V} (e : H a = some (.dK kvs)) (hl : kvs.length < sizeLine) : DPut H a (kV k) v (upd H a (.dK (putK kvs k v))) := .inl ⟨kvs, k, e, rfl, hl, rfl⟩
section
variable {X : Cx} {pins : List (Addr × Obj)} {σ : St} {H : Hp} {s : Shared} {a : Addr} {y v : V} {u r : Value} {o : Option V} {A : Around} {E : Value → Shared → Prop}
theorem Inv.big (I : Inv X pins σ H s) : sysModules < s.heap.objs.size := by
 have h : mainGlobals < s.heap.objs.size := (I.mod.glob.keeps I.bk).lt
 exact Nat.lt_trans (by decide) h
theorem d_getItem {Q : Value → Shared → Prop} (hu : A.units + 1 < cLine) (I : Inv X pins σ H s) (g : DGet H a y (some v)) (ry : RelV y u) (h : ∀ w' s', Inv X pins σ H s' → RelV v w' → Q w' s') :
  wpAny (model X.prog X.w) A (getItem (.ref a) u) Q E s := by
 rcases g with ⟨kvs, k, e, ey, l⟩ | ⟨kvs, k, b, e, ey, eb, l⟩
 · subst ey
   obtain ⟨z, hd, vs, rel, dd⟩ := dk_rd I.hok e
   obtain ⟨w', hw, rw'⟩ := RelO.some_of (v := v) (o := valueAt vs k) (by rw [l]; exact rel.val k)
   exact wpAny_getItem_of (kV_is ry) dd.mapOf hw (h w' _ (I.tok _) rw')
 · subst ey
   cases (show u = Value.ref b from ry)
   obtain ⟨z, hd, xs, rel, dd⟩ := dt_rd I.hok e
   obtain ⟨w', hw, rw'⟩ := RelO.some_of (v := v) (o := (atKey xs k).map (·.2)) (by rw [l]; exact rel.val k)
   obtain ⟨p, hp, hp2⟩ := Option.map_eq_some_iff.mp hw
   refine wpAny_getItem_heap (tupleKind_room_in1 hu) (key_of I.hok eb) dd hp ?_
   rw [hp2]
   exact h w' _ (I.tok _) rw'
theorem d_in {Q : Value → Shared → Prop} (hu : A.units + 1 < cLine) (I : Inv X pins σ H s) (g : DGet H a y o) (ry : RelV y u) (h : ∀ s', Inv X pins σ H s' → Q (.bool o.isSome) s') :
  wpAny (model X.prog X.w) A (compareOp .In u (.ref a)) Q E s := by
 rcases g with ⟨kvs, k, e, ey, l⟩ | ⟨kvs, k, b, e, ey, eb, l⟩
 · subst ey
   obtain ⟨z, hd, vs, rel, dd⟩ := dk_rd I.hok e
   refine wpAny_in_of (kV_is ry) hd dd.mapOf ?_
   rw [← (rel.val k).isSome_eq, ← l]
   exact h _ (I.tok _)
 · subst ey
   cases (show u = Value.ref b from ry)
   obtain ⟨z, hd, xs, rel, dd⟩ := dt_rd I.hok e
   refine wpAny_in_heap (tupleKind_room_in1 hu) (key_of I.hok eb) hd dd ?_
   have q := (rel.val k).isSome_eq
   rw [Option.isSome_map] at q
   rw [← q, ← l]
   exact h _ (I.tok _)
theorem d_notIn {Q : Value → Shared → Prop} (hu : A.units + 1 < cLine) (I : Inv X pins σ H s) (g : DGet H a y o) (ry : RelV y u) (h : ∀ s', Inv X pins σ H s' → Q (.bool (!o.isSome)) s') :
  wpAny (model X.prog X.w) A (compareOp .NotIn u (.ref a)) Q E s := by
 rcases g with ⟨kvs, k, e, ey, l⟩ | ⟨kvs, k, b, e, ey, eb, l⟩
 · subst ey
   obtain ⟨z, hd, vs, rel, dd⟩ := dk_rd I.hok e
   refine wpAny_notIn_of (kV_is ry) hd dd.mapOf ?_
   rw [← (rel.val k).isSome_eq, ← l]
   exact h _ (I.tok _)
 · subst ey
   cases (show u = Value.ref b from ry)
   obtain ⟨z, hd, xs, rel, dd⟩ := dt_rd I.hok e
   refine wpAny_notIn_heap (tupleKind_room_in1 hu) (key_of I.hok eb) hd dd ?_
   have q := (rel.val k).isSome_eq
   rw [Option.isSome_map] at q
   rw [← q, ← l]
   exact h _ (I.tok _)
theorem d_write {h' : Heap} {t' : Nat} {ob : HO} (I : Inv X pins σ H s) (mu : Mut (H a)) (hs : Heap.SameBut a s.heap h') (he : ∃ q, h'.get? a = some q) (new : ObjOk X.prog X.w (upd H a ob) h' a ob) :
  Inv X pins σ (upd H a ob) { s with heap := h', toks := t' } :=
 I.write (x := a) (e := a) mu (.inl rfl) (fun b q hb z => (hs.2 b hb).trans z) he new
theorem dk_new {P : Program} {w : World} {H' : Hp} {h' : Heap} {kvs : List (Key × V)} {vs : List (Key × Value)} (z : kvs.length ≤ sizeLine) (hd : (a == sysModules) = false) (rel : KV kvs vs) (dd : h'.DictOf (mixKind P w) a vs) :
 ObjOk P w H' h' a (.dK kvs) := ⟨z, hd, vs, rel, dd⟩
theorem d_setItem {H' : Hp} {Q : Unit → Shared → Prop} (hu : A.units + 1 < cLine) (I : Inv X pins σ H s) (g : DPut H a y v H') (ry : RelV y u) (rv : RelV v r) (h : ∀ s', Inv X pins σ H' s' → Q () s') :
  wpAny (model X.prog X.w) A (setItem (.ref a) u r) Q E s := by
 rcases g with ⟨kvs, k, e, ey, l, eH⟩ | ⟨kvs, k, b, e, ey, eb, l, eH⟩
 · subst ey eH
   obtain ⟨z, hd, vs, rel, dd⟩ := dk_of I.hok e
   have hz : vs.length ≤ sizeLine := by rw [← rel.length]; exact z
   have hl : (putK kvs k v).length ≤ sizeLine := by have := length_putK kvs k v; omega
   refine wpAny_setItem_pairs (hsz := hz) (kV_is ry) dd fun h' dd' hs => h _ ?_
   have he : ∃ q, h'.get? a = some q := let ⟨q, _, _, hq, _⟩ := dd'; ⟨q, hq⟩
   exact d_write I (by rw [e]; exact True.intro) hs he (dk_new hl hd (rel.put k rv) dd')
 · subst ey eH
   cases (show u = Value.ref b from ry)
   obtain ⟨z, hd, xs, rel, dd⟩ := dt_of I.hok e
   have hz : xs.length ≤ sizeLine := by rw [← Paired.length rel]; exact z
   have hl : (putK kvs k v).length ≤ sizeLine := by have := length_putK kvs k v; omega
   refine wpAny_setItem_heap (hsz := hz) (tupleKind_room_in1 hu) (key_of I.hok eb) dd fun h' dd' hs => h _ ?_
   obtain ⟨q, es, ep, hq, h2, h3, h4, _, h5⟩ := dd'
   refine d_write I (by rw [e]; exact True.intro) hs ⟨q, hq⟩ ⟨hl, hd, _, (rel.put k eb rv).keeps fun c ys ec => ?_, q, es, ep, hq, h2, h3, h4, h5⟩
   rw [upd_ne (ne_of ec e (fun z => nomatch z))]
   exact ec
end
section
variable {X : Cx} {pins : List (Addr × Obj)} {σ : St} {H : Hp} {s : Shared} {a : Addr} {kvs : List (Key × V)} {k : Key} {u : Value} {A : Around} {E : Value → Shared → Prop}
theorem d_pop {v : V} {more : List Value} {Q : Value → Shared → Prop} (I : Inv X pins σ H s) (e : H a = some (.dK kvs)) (ry : RelV (kV k) u) (l : valV kvs k = some v) (hm : more = [] ∨ ∃ x, more = [x])
  (h : ∀ w' s', Inv X pins σ (upd H a (.dK (dropK kvs k))) s' → RelV v w' → Q w' s') : wpAny (model X.prog X.w) A (call (.builtin "dict.pop") (.ref a :: u :: more)) Q E s := by
 obtain ⟨z, hd, vs, rel, dd⟩ := dk_of I.hok e
 obtain ⟨w', hw, rw'⟩ := RelO.some_of (v := v) (o := valueAt vs k) (by rw [← l]; exact rel.val k)
 have hp : (keyPart u).isSome = true := by
  cases k with
  | inl i => obtain ⟨t, q⟩ := (show ∃ t, u = Value.int i t from ry); subst q; rfl
  | inr x => obtain ⟨t, q⟩ := (show ∃ t, u = Value.str x t from ry); subst q; rfl
 have ha : argsOk "dict.pop" ⟨.ref a :: u :: more, []⟩ := by
  rcases hm with q | ⟨x, q⟩
  · subst q; exact PySem.F.args_dict_pop_2 _ _
  · subst q; exact PySem.F.args_dict_pop_3 _ _ _
 refine call_meetsIn PySem.F.slot_dict_pop dd.typeIs PySem.F.entry_dict_pop ha (meets_dict_pop_there (mixKind X.prog X.w) a (kV_is ry) more hm hp)
  ⟨vs, w', dd, by rw [← rel.length]; exact z, hw, fun h' dd' hs => h w' _ ?_ rw'⟩
 have he : ∃ q, h'.get? a = some q := let ⟨q, _, _, hq, _⟩ := dd'; ⟨q, hq⟩
 exact d_write I (by rw [e]; exact True.intro) hs he (dk_new (Nat.le_trans (dropK_le kvs k) z) hd (rel.drop k) dd')
theorem d_clear {Q : Value → Shared → Prop} (I : Inv X pins σ H s) (e : H a = some (.dK kvs)) (h : ∀ s', Inv X pins σ (upd H a (.dK [])) s' → Q .none s') : wpAny (model X.prog X.w) A (call (.builtin "dict.clear") [.ref a]) Q E s := by
 obtain ⟨z, hd, vs, rel, dd⟩ := dk_of I.hok e
 refine call_meetsIn PySem.F.slot_dict_clear dd.typeIs PySem.F.entry_dict_clear (PySem.F.args_dict_clear_1 _) (meets_dict_clear (mixKind X.prog X.w) a) ⟨vs, dd, by rw [← rel.length]; exact z, fun h' dd' hs => h _ ?_⟩
 have he : ∃ q, h'.get? a = some q := let ⟨q, _, _, hq, _⟩ := dd'; ⟨q, hq⟩
 exact d_write (t' := s.toks) I (by rw [e]; exact True.intro) hs he (dk_new (Nat.zero_le _) hd .nil dd')
end
noncomputable def NoSl (i : Expr) : Prop := ∀ ov iv, subscripted i false ov iv = operate [ov, iv] (getItem ov iv)
theorem subD_of {prog : Program} {w : World} {A : Around} {E : Value → Shared → Prop} {s : Shared} {env : Env} {value slice : Expr} {pos : Pos} {T id : String} {Q : Value → Shared → Prop}
  (hl : typeLookup (.type T) "__getitem__" = pure (some (.builtin id))) (hs : NoSl slice)
  (h : wpAny (model prog w) A (eval value env) (fun o s₁ => wpAny (model prog w) A (eval slice env) (fun i s₂ => s₂.TypeIs o T ∧ wpAny (model prog w) A (getItem o i) Q E s₂) E s₁) E s) :
  wpAny (model prog w) A (eval (.Subscript value slice pos) env) Q E s := by
 refine Subscript_ (wpAny_mono h (fun o s₁ h₁ => wpAny_mono h₁ (fun i s₂ h₂ => ?_) fun _ _ x => x) fun _ _ x => x)
 obtain ⟨hT, h₂⟩ := h₂
 unfold subscriptTail
 refine wpAny_bind ?_
 rw [getitemInPython_of_ne hT.not_modules]
 refine wpAny_bind (wpAny_specialOf hT hl ?_)
 have fin : wpAny (model prog w) A (subscripted slice false o i) (fun r s₃ => wpAny (model prog w) A (letTemporaryGo value o r >>= fun _ => pure r) Q E s₃) E s₂ := by
  rw [hs o i]
  exact wpAny_operating (wpAny_mono h₂ (fun r s₃ h₃ => wpAny_bind (wpAny_letTemporaryGo (wpAny_pure h₃))) fun _ _ x => x)
 first
  | exact wpAny_pure (wpAny_bind fin)
  | exact wpAny_bind (wpAny_pure (wpAny_bind fin))
  | exact wpAny_bind fin
theorem dict_typeIs {X : Cx} {pins : List (Addr × Obj)} {σ : St} {H : Hp} {s : Shared} {a : Addr} {y : V} {o : Option V} (I : Inv X pins σ H s) (g : DGet H a y o) : s.TypeIs (.ref a) "dict" := by
 rcases g with ⟨kvs, k, e, _, _⟩ | ⟨kvs, k, b, e, _, _, _⟩
 · obtain ⟨_, _, vs, _, dd⟩ := dk_rd I.hok e
   exact dd.typeIs
 · obtain ⟨_, _, xs, _, dd⟩ := dt_rd I.hok e
   exact dd.typeIs
noncomputable def tDGet (td ty : TE) : TE := fun σ H Q => td σ H fun x H1 => ty σ H1 fun y H2 => ∃ a v, x = .ref a ∧ DGet H2 a y (some v) ∧ Q v H2
noncomputable def tDIn (ty td : TE) : TE := fun σ H Q => ty σ H fun y H1 => td σ H1 fun x H2 => ∃ a o, x = .ref a ∧ DGet H2 a y o ∧ Q (.bl o.isSome) H2
noncomputable def tDNotIn (ty td : TE) : TE := fun σ H Q => ty σ H fun y H1 => td σ H1 fun x H2 => ∃ a o, x = .ref a ∧ DGet H2 a y o ∧ Q (.bl (!o.isSome)) H2
noncomputable def sDPut (td ty tv : TE) : TS := fun D σ H => tv σ H fun v H1 => td σ H1 fun x H2 => ty σ H2 fun y H3 => ∃ a H4, x = .ref a ∧ DPut H3 a y v H4 ∧ D.nx σ H4
section
variable {X : Cx} {o i e value : Expr} {pos pos' tpos : Pos} {td ty tv : TE}
theorem pe_dget (hu : X.A.units + 1 < cLine) (ho : PE X o td) (hi : PE X i ty) (hs : NoSl i) : PE X (.Subscript o i pos) (tDGet td ty) := by
 intro pins s σ H Q I h
 refine subD_of PySem.F.slot_dict_getitem.lookup hs (thn (ho pins s σ H _ I h) fun u s1 ⟨x, H1, I1, rx, q1⟩ => thn (hi pins s1 σ H1 _ I1 q1) fun iv s2 ⟨y, H2, I2, ry, a, v, ex, g, q2⟩ => ?_)
 subst ex
 obtain rfl : u = Value.ref a := rx
 exact ⟨dict_typeIs I2 g, d_getItem hu I2 g ry fun w' s3 I3 rw' => ⟨v, H2, I3, rw', q2⟩⟩
theorem pc_din (hu : X.A.units + 1 < cLine) (hi : PE X i ty) (ho : PE X o td) : PC X .In i o (tDIn ty td) := by
 intro pins s σ H Q I h
 refine thn (hi pins s σ H _ I h) fun iv s1 ⟨y, H1, I1, ry, q1⟩ => thn (ho pins s1 σ H1 _ I1 q1) fun u s2 ⟨x, H2, I2, rx, a, ov, ex, g, q2⟩ => ?_
 subst ex
 obtain rfl : u = Value.ref a := rx
 exact d_in hu I2 g ry fun s3 I3 => ⟨.bl ov.isSome, H2, I3, rfl, q2⟩
theorem pc_dnotin (hu : X.A.units + 1 < cLine) (hi : PE X i ty) (ho : PE X o td) : PC X .NotIn i o (tDNotIn ty td) := by
 intro pins s σ H Q I h
 refine thn (hi pins s σ H _ I h) fun iv s1 ⟨y, H1, I1, ry, q1⟩ => thn (ho pins s1 σ H1 _ I1 q1) fun u s2 ⟨x, H2, I2, rx, a, ov, ex, g, q2⟩ => ?_
 subst ex
 obtain rfl : u = Value.ref a := rx
 exact d_notIn hu I2 g ry fun s3 I3 => ⟨.bl (!ov.isSome), H2, I3, rfl, q2⟩
theorem ps_dput (hu : X.A.units + 1 < cLine) (ho : PE X o td) (hi : PE X i ty) (hv : PE X value tv) (hs : swapsWith value (some (.Subscript o i pos')) pos.line X.env = pure false) :
  PS X (.Assign [.Subscript o i pos'] value pos) (sDPut td ty tv) := by
 intro pins s σ H D I h
 refine wpAny_Assign_Subscript (thn (hv pins s σ H _ I h) fun r s1 ⟨v, H1, I1, rv, q1⟩ => thn (ho pins s1 σ H1 _ I1 q1) fun u s2 ⟨x, H2, I2, rx, q2⟩ => thn (hi pins s2 σ H2 _ I2 q2) fun iv s3 ⟨y, H3, I3, ry, a, H4, ex, g, q3⟩ => ?_) hs
 subst ex
 obtain rfl : u = Value.ref a := rx
 exact d_setItem hu I3 g ry rv fun s4 I4 => ⟨σ, H4, I4, q3⟩
end
theorem dk_empty {P : Program} {w : World} {H : Hp} (h : Heap) (hb : sysModules < h.objs.size) : ObjOk P w H (h.push { cls := .type "dict", data := .dict #[] }) h.objs.size (.dK []) :=
 ⟨Nat.zero_le _, beq_eq_false_iff_ne.mpr (Ne.symm (Nat.ne_of_lt hb)), [], .nil, Heap.DictOf.new h⟩
noncomputable def tDNewK : TE := fun _ H Q => ∀ p, H p = none → Q (.ref p) (upd H p (.dK []))
section
variable {X : Cx} {pos : Pos}
theorem pe_dnewK : PE X (.Dict [] [] pos) tDNewK := fun pins s σ H Q I h =>
 wpAny_Dict_empty ⟨.ref s.heap.objs.size, _, I.laid (a := s.heap.objs.size) (o := .dK []) (t' := s.toks) (fun _ _ q => Heap.get?_push_of_some _ q) (Nat.le_refl _) (dk_empty s.heap I.big), rfl, h _ (I.hok.fresh (Nat.le_refl _))⟩
end
noncomputable def mergeK (kvs more : List (Key × V)) : List (Key × V) := more.foldl (fun acc kv => putK acc kv.1 kv.2) kvs
theorem KV.merge : ∀ {more : List (Key × V)} {rs : List (Key × Value)} {kvs : List (Key × V)} {vs : List (Key × Value)}, KV more rs → KV kvs vs → KV (mergeK kvs more) (merged vs rs) := by
 intro more rs kvs vs r
 unfold KV at r
 induction r generalizing kvs vs with
 | nil => intro q; exact q
 | @cons p q ps qs h t ih =>
   intro r0
   have e : KV (putK kvs p.1 p.2) (stored vs q.1 q.2) := by
    have := r0.put p.1 h.2
    rw [← h.1]; exact this
   exact ih e
theorem length_mergeK : ∀ (more kvs : List (Key × V)), (mergeK kvs more).length ≤ kvs.length + more.length
 | [], kvs => by show kvs.length ≤ kvs.length + 0; omega
 | p :: r, kvs => by
   have h1 := length_mergeK r (putK kvs p.1 p.2)
   have h2 := length_putK kvs p.1 p.2
   show (mergeK (putK kvs p.1 p.2) r).length ≤ _
   rw [List.length_cons]; omega
structure M1 (X : Cx) (o : Expr) (m : Str) (apos : Pos) (e : Expr) (cpos : Pos) : Prop where
 base : attributeBase o m X.env (eval o X.env) = eval o X.env
 few : ((backTo cpos (starEach [e] X.env)).all (fun x => !x.1) && (backToKw cpos (keywordEach [] X.env)).all (fun x => x.1.isSome)
  && decide (([e] : List Expr).length + ([] : List Keyword).length + (if ([] : List Keyword).isEmpty then 0 else 1) < 30)) = true
 line : (apos.endLine == cpos.line) = true
 trees : backTo cpos (starEach [e] X.env) = [(false, eval e X.env)]
noncomputable def IsD (H : Hp) (a : Addr) : Prop := (∃ kvs, Rd H a (.dK kvs)) ∨ ∃ kvs, Rd H a (.dT kvs)
theorem isD_at {X : Cx} {pins : List (Addr × Obj)} {σ : St} {H : Hp} {s : Shared} {a : Addr} (I : Inv X pins σ H s) (d : IsD H a) :
  s.TypeIs (.ref a) "dict" ∧ (∀ b, Value.ref a = .ref b → ∃ ob, s.heap.get? b = some ob ∧ ob.dict = none) ∧ (a == sysModules) = false := by
 rcases d with ⟨kvs, e⟩ | ⟨kvs, e⟩
 · obtain ⟨_, hd, vs, _, dd⟩ := dk_rd I.hok e
   refine ⟨dd.typeIs, fun b q => ?_, hd⟩
   cases q
   obtain ⟨ob, _, _, h1, h2, _⟩ := dd
   exact ⟨ob, h1, h2.2.1⟩
 · obtain ⟨_, hd, xs, _, dd⟩ := dt_rd I.hok e
   refine ⟨dd.typeIs, fun b q => ?_, hd⟩
   cases q
   obtain ⟨ob, _, _, h1, h2, _⟩ := dd
   exact ⟨ob, h1, h2.2.1⟩
section
variable {X : Cx} {pins : List (Addr × Obj)} {σ : St} {H : Hp} {s : Shared} {a : Addr} {y d : V} {u r : Value} {o : Option V} {A : Around} {E : Value → Shared → Prop}
theorem d_get1 {Q : Value → Shared → Prop} (hu : A.units + 1 < cLine) (I : Inv X pins σ H s) (g : DGet H a y o) (ry : RelV y u) (h : ∀ w' s', Inv X pins σ H s' → RelV (o.getD .non) w' → Q w' s') :
  wpAny (model X.prog X.w) A (call (.builtin "dict.get") [.ref a, u]) Q E s := by
 rcases g with ⟨kvs, k, e, ey, l⟩ | ⟨kvs, k, b, e, ey, eb, l⟩
 · subst ey
   obtain ⟨z, hd, vs, rel, dd⟩ := dk_rd I.hok e
   refine call_meetsIn PySem.F.slot_dict_get dd.typeIs PySem.F.entry_dict_get (PySem.F.args_dict_get_2 _ _) (meets_dict_get (mixKind X.prog X.w) a (kV_is ry) hd) ⟨_, dd.mapOf, h _ _ (I.tok _) ?_⟩
   rw [l]
   exact (rel.val k).getD rfl
 · subst ey
   cases (show u = Value.ref b from ry)
   obtain ⟨z, hd, xs, rel, dd⟩ := dt_rd I.hok e
   refine call_meetsIn PySem.F.slot_dict_get dd.typeIs PySem.F.entry_dict_get (PySem.F.args_dict_get_2 _ _) (meetsH_dict_get (tupleKind (mixKind X.prog X.w)) a b hd) ⟨tupleKind_room_in1 hu, k, xs, key_of I.hok eb, dd, h _ _ (I.tok _) ?_⟩
   rw [l]
   exact (rel.val k).getD rfl
end
noncomputable def tDGet1 (td ty : TE) : TE := fun σ H Q => td σ H fun x H1 => ∃ a, x = .ref a ∧ IsD H1 a ∧ ty σ H1 fun y H2 => ∃ o, DGet H2 a y o ∧ Q (o.getD .non) H2
noncomputable def tDPop1 (td ty : TE) : TE := fun σ H Q => td σ H fun x H1 => ∃ a, x = .ref a ∧ IsD H1 a ∧ ty σ H1 fun y H2 => ∃ kvs k v, H2 a = some (.dK kvs) ∧ y = kV k ∧ valV kvs k = some v ∧ Q v (upd H2 a (.dK (dropK kvs k)))
section
variable {X : Cx} {o e f : Expr} {apos cpos : Pos} {td ty tx : TE}
theorem pe_dget1 (hu : X.A.units + 1 < cLine) (ho : PE X o td) (he : PE X e ty) (m : M1 X o "get" apos e cpos) : PE X (.Call (.Attribute o "get" apos) [e] [] cpos) (tDGet1 td ty) := by
 intro pins s σ H Q I h
 refine wpAny_Call_method m.base m.few m.line PySem.F.plainAttrs_dict PySem.F.slot_dict_get PySem.F.type_dict_get (thn (ho pins s σ H _ I h) fun u s1 ⟨x, H1, I1, rx, a, ex, d, q1⟩ => ?_)
 subst ex
 obtain rfl : u = Value.ref a := rx
 obtain ⟨t1, t2, _⟩ := isD_at I1 d
 refine ⟨t1, t2, ?_⟩
 rw [m.trees]
 refine Calls.callWith_builtin rfl (Calls.evalArgs_plain (Calls.spliced_cons (thn (he pins s1 σ H1 _ I1 q1) fun iv s2 ⟨y, H2, I2, ry, ov, g, q2⟩ => Calls.spliced_nil ?_)))
 exact d_get1 hu I2 g ry fun w' s3 I3 rw' => ⟨_, H2, I3, rw', q2⟩
theorem pe_dpop1 (ho : PE X o td) (he : PE X e ty) (m : M1 X o "pop" apos e cpos) : PE X (.Call (.Attribute o "pop" apos) [e] [] cpos) (tDPop1 td ty) := by
 intro pins s σ H Q I h
 refine wpAny_Call_method m.base m.few m.line PySem.F.plainAttrs_dict PySem.F.slot_dict_pop PySem.F.type_dict_pop (thn (ho pins s σ H _ I h) fun u s1 ⟨x, H1, I1, rx, a, ex, d, q1⟩ => ?_)
 subst ex
 obtain rfl : u = Value.ref a := rx
 obtain ⟨t1, t2, _⟩ := isD_at I1 d
 refine ⟨t1, t2, ?_⟩
 rw [m.trees]
 refine Calls.callWith_builtin rfl (Calls.evalArgs_plain (Calls.spliced_cons (thn (he pins s1 σ H1 _ I1 q1) fun iv s2 ⟨y, H2, I2, ry, kvs, k, v, ea, ey, l, q2⟩ => Calls.spliced_nil ?_)))
 subst ey
 exact d_pop I2 ea ry l (.inl rfl) fun w' s3 I3 rw' => ⟨v, _, I3, rw', q2⟩
end
section
variable {X : Cx} {pins : List (Addr × Obj)} {σ : St} {H : Hp} {s : Shared} {a : Addr} {kvs : List (Key × V)} {A : Around} {E : Value → Shared → Prop}
end
section
variable {X : Cx} {pins : List (Addr × Obj)} {σ : St} {H : Hp} {s : Shared} {a : Addr} {y : V} {u : Value} {A : Around} {E : Value → Shared → Prop}
end
end L2
namespace HT
open PySem PyProof.Rows
section
open PySem.SeqAt
open PySem.AutoSeq1 (wpAny_loadPart')
open PySem.MeetsSeq PySem.MeetsSeq2 PySem.MeetsSeq3
end
section
variable {prog : Program} {w : World} {A : Around} {E : Value → Shared → Prop} {s : Shared}
theorem cat_tup {t b : Addr} {vs ws : List Value} {Q : Value → Shared → Prop} (ht : IsTup s.heap t vs.toArray) (hb : IsTup s.heap b ws.toArray) (hv : vs ≠ [])
  (h1 : ws = [] → Q (.ref t) s) (h2 : ws ≠ [] → Q (.ref s.heap.objs.size) { s with heap := s.heap.push { cls := .type "tuple", data := .seq (vs ++ ws).toArray } })
  (hsz : vs.length + ws.length ≤ sizeLine) : wpAny (model prog w) A (binaryOp .Add (.ref t) (.ref b)) Q E s := by
 obtain ⟨⟨cls, dd, data, sl⟩, ho, hc, n, hd⟩ := id ht
 obtain ⟨⟨cls2, dd2, data2, sl2⟩, ho2, hc2, n2, hd2⟩ := id hb
 simp only at hc hd hc2 hd2
 subst hc hd hc2 hd2
 have e : vs.toArray ++ ws.toArray = (vs ++ ws).toArray := by simp
 by_cases hw : ws = []
 · exact concat_meets ⟨_, ho, rfl⟩ ⟨_, ho2, rfl⟩ noFill_tuple_add seq_tuple_add PySem.F.slot_tuple_add PySem.F.entry_tuple_add (PySem.F.args_tuple_add_2 _ _)
    (tuple_addW1 t b vs.toArray ws.toArray n n2 dd dd2 sl sl2 (by simpa using hv) (by simp [hw])) ⟨ho, ho2, h1 hw⟩
 · refine concat_meets ⟨_, ho, rfl⟩ ⟨_, ho2, rfl⟩ noFill_tuple_add seq_tuple_add PySem.F.slot_tuple_add PySem.F.entry_tuple_add (PySem.F.args_tuple_add_2 _ _)
    (tuple_addW2 t b vs.toArray ws.toArray n n2 dd dd2 sl sl2 (by simpa using hv) (by simpa using hw) (by rw [List.size_toArray, List.size_toArray]; exact hsz)) ⟨ho, ho2, ?_⟩
   rw [e]
   exact h2 hw
noncomputable def sIx (n d : Nat) : Option Int → Nat
 | none => d
 | some v => if v < 0 then (v + (n : Int)).toNat else min v.toNat n
theorem sIx_none (n d : Nat) : sIx n d none = d := rfl
theorem sIx_nat (n d k : Nat) : sIx n d (some (k : Int)) = min k n := by
 show (if (k : Int) < 0 then ((k : Int) + (n : Int)).toNat else min (k : Int).toNat n) = min k n
 rw [if_neg (by omega), Int.toNat_natCast]
theorem sIx_le (n d : Nat) (hd : d ≤ n) (o : Option Int) : sIx n d o ≤ n := by
 cases o with
 | none => exact hd
 | some v =>
   show (if v < 0 then (v + (n : Int)).toNat else min v.toNat n) ≤ n
   by_cases hv : v < 0
   · rw [if_pos hv]; omega
   · rw [if_neg hv]; exact Nat.min_le_right _ _
theorem clip_eq (v : Int) (n d : Nat) : (if v < 0 then max (v + (n : Int)) 0 else min v (n : Int)) = ((sIx n d (some v) : Nat) : Int) := by
 show (if v < 0 then max (v + (n : Int)) 0 else min v (n : Int)) = (((if v < 0 then (v + (n : Int)).toNat else min v.toNat n) : Nat) : Int)
 by_cases hv : v < 0
 · simp only [if_pos hv]; omega
 · simp only [if_neg hv]; omega
theorem adjust_gen (lo hi : Option Int) (n : Nat) : Builtin.Slice.sliceAdjust lo hi 1 (n : Int) = (((sIx n 0 lo : Nat) : Int), ((sIx n n hi : Nat) : Int)) := by
 have h1 : ¬ ((1 : Int) < 0) := by omega
 unfold Builtin.Slice.sliceAdjust
 simp only [h1, if_false]
 refine Prod.ext ?_ ?_
 · cases lo with
   | none => rfl
   | some v => exact clip_eq v n 0
 · cases hi with
   | none => rfl
   | some v => exact clip_eq v n n
theorem places_gen (i j : Nat) : Builtin.Slice.slicePlaces (i : Int) (j : Int) 1 = j - i := by
 unfold Builtin.Slice.slicePlaces
 have h1 : (1 : Int) > 0 := by omega
 simp only [h1, if_true, Int.ediv_one]
 split <;> omega
theorem slicePart_ {v : Value} {o : Option Int} {Q : Option Int → Shared → Prop} (p : IsPart v o) (h : Q o s) : wpAny (model prog w) A (Builtin.Slice.slicePartIndex v) Q E s := by
 cases p with
 | none => exact slicePart_none h
 | int i t => exact slicePart_int h
theorem sliceApplied_gen {sl : Addr} {vl vu : Value} {lo hi : Option Int} {n : Nat} {Q : Int × Int × Nat → Shared → Prop} (hs : s.heap.IsSliceOf sl vl vu .none) (pl : IsPart vl lo) (pu : IsPart vu hi)
  (h : Q (((sIx n 0 lo : Nat) : Int), 1, sIx n n hi - sIx n 0 lo) s) : wpAny (model prog w) A (Builtin.Slice.sliceApplied (.ref sl) (pure (n : Int))) Q E s := by
 obtain ⟨os, hos, hcs, hds⟩ := id hs
 unfold Builtin.Slice.sliceApplied Builtin.Slice.sliceFields
 refine wpAny_bind (wpAny_bind (wpAny_field hos hds (x := vl) rfl (wpAny_bind (wpAny_field hos hds (x := vu) rfl (wpAny_bind (wpAny_field hos hds (x := .none) rfl (wpAny_pure ?_)))))))
 refine wpAny_bind (slicePart_none ?_)
 show wpAny _ _ (if ((1 : Int) == 0) = true then _ else _) _ _ s
 rw [if_neg (by decide)]
 refine wpAny_bind (slicePart_ pl (wpAny_bind (slicePart_ pu (wpAny_bind (wpAny_pure ?_)))))
 show wpAny _ _ (match Builtin.Slice.sliceAdjust lo hi 1 (n : Int) with | (lo, hi) => pure (lo, (1 : Int), Builtin.Slice.slicePlaces lo hi 1)) _ _ s
 rw [adjust_gen lo hi n]
 show wpAny _ _ (pure (((sIx n 0 lo : Nat) : Int), (1 : Int), Builtin.Slice.slicePlaces ((sIx n 0 lo : Nat) : Int) ((sIx n n hi : Nat) : Int) 1)) _ _ s
 rw [places_gen]
 exact wpAny_pure h
theorem pick_gen (xs : Array Value) (i k : Nat) : ((List.range k).filterMap fun (m : Nat) => xs[((i : Int) + (m : Int) * 1).toNat]?).toArray = ((xs.toList.drop i).take k).toArray := by
 have e : (fun (m : Nat) => xs[((i : Int) + (m : Int) * 1).toNat]?) = fun m => xs[i + m]? := by
  funext m
  have : ((i : Int) + (m : Int) * 1).toNat = i + m := by omega
  rw [this]
 rw [e]
 have := pick_run xs i k
 rw [List.filterMap_map] at this
 have e2 : ((fun x => xs[x]?) ∘ fun x => i + x) = fun m => xs[i + m]? := rfl
 rw [e2] at this
 rw [this]
theorem getItem_tuple_cut {t sl : Addr} {items : Array Value} {vl vu : Value} {lo hi : Option Int} {Q : Value → Shared → Prop} (ht : IsTup s.heap t items) (hs : s.heap.IsSliceOf sl vl vu .none) (pl : IsPart vl lo) (pu : IsPart vu hi)
  (hw : ¬ (sIx items.size 0 lo = 0 ∧ sIx items.size items.size hi = items.size))
  (h : Q (.ref s.heap.objs.size) { s with heap := s.heap.push { cls := .type "tuple", data := .seq ((items.toList.drop (sIx items.size 0 lo)).take (sIx items.size items.size hi - sIx items.size 0 lo)).toArray } })
  (hsz : items.size ≤ sizeLine) : wpAny (model prog w) A (getItem (.ref t) (.ref sl)) Q E s := by
 have htake : sizeOk (.seq ((items.toList.drop (sIx items.size 0 lo)).take (sIx items.size items.size hi - sIx items.size 0 lo)).toArray) := by
  show ((items.toList.drop (sIx items.size 0 lo)).take (sIx items.size items.size hi - sIx items.size 0 lo)).toArray.size ≤ sizeLine
  rw [List.size_toArray, List.length_take, List.length_drop, Array.length_toList]
  omega
 have hj : sIx items.size items.size hi ≤ items.size := sIx_le _ _ (Nat.le_refl _) hi
 obtain ⟨os, hos, hcs, hds⟩ := id hs
 have hTs : s.TypeIs (.ref sl) "slice" := ⟨os, hos, hcs⟩
 unfold getItem
 try with_reducible refine wpAny_holding ?_
 first | refine wpAny_bind (wpAny_pure ?_) | skip
 refine wpAny_bind (wpAny_sequenceKey ht.typeIs (by decide) ?_)
 refine wpAny_bind (wpAny_callSpecial?_slot (name := Str.ofString "__getitem__") ht.typeIs PyProof.Rows.slot_tuple_getitem
  (wpAny_call_entry PyProof.Rows.slot_tuple_getitem ht.typeIs entry_tuple_getitem ?_ (args_tuple_getitem _ _)))
 show wpAny _ _ (Builtin.Tuple.tupleItemsOf (.ref t) >>= _) _ _ s
 refine wpAny_bind (tupleItemsOf_ ht ?_)
 refine wpAny_bind (wpAny_typeOf hTs ?_)
 rw [if_pos (by decide)]
 refine wpAny_bind (sliceApplied_gen hs pl pu ?_)
 have hno : ¬ ((((sIx items.size 0 lo : Nat) : Int) == 0 && (1 : Int) == 1 && (sIx items.size items.size hi - sIx items.size 0 lo) == items.size) = true) := by
  intro q
  rw [Bool.and_eq_true, Bool.and_eq_true] at q
  have q1 : ((sIx items.size 0 lo : Nat) : Int) = 0 := eq_of_beq q.1.1
  have q2 : sIx items.size items.size hi - sIx items.size 0 lo = items.size := eq_of_beq q.2
  exact hw ⟨by omega, by omega⟩
 show wpAny _ _ (if (((sIx items.size 0 lo : Nat) : Int) == 0 && (1 : Int) == 1 && (sIx items.size items.size hi - sIx items.size 0 lo) == items.size) = true then _ else _) _ _ s
 rw [if_neg hno, pick_gen]
 first
  | exact wpAny_bind (m := Builtin.Tuple.tupleExact _) (wpAny_newObj_type (wpAny_pure ⟨_, rfl, wpAny_pure h⟩) htake)
  | exact wpAny_bind (m := Builtin.Tuple.tupleExact _) (wpAny_newObj_type (wpAny_bind (wpAny_pure (wpAny_pure ⟨_, rfl, wpAny_pure h⟩))) htake)
  | exact wpAny_bind (wpAny_bind (m := Builtin.Tuple.tupleExact _) (wpAny_newObj_type (wpAny_pure (wpAny_pure ⟨_, rfl, wpAny_pure h⟩)) htake))
  | exact wpAny_bind (wpAny_bind (m := Builtin.Tuple.tupleExact _) (wpAny_newObj_type (wpAny_pure ⟨_, rfl, wpAny_pure h⟩) htake))
end
end HT
namespace L2
open PySem PySem.Spec PyProof.Rows
abbrev TO := St → Hp → (Option Int → Hp → Prop) → Prop
noncomputable def PO (X : Cx) (e : Option Expr) (t : TO) : Prop :=
 ∀ (pins : List (Addr × Obj)) (s : Shared) (σ : St) (H : Hp) (Q : Option Int → Hp → Prop), Inv X pins σ H s → t σ H Q →
   wpAny (model X.prog X.w) X.A (evalPart e X.env) (fun u s' => ∃ o H', Inv X pins σ H' s' ∧ IsPart u o ∧ Q o H') X.xe s
noncomputable def tNoPart : TO := fun _ H Q => Q none H
noncomputable def tPart (t : TE) : TO := fun σ H Q => t σ H fun x H1 => ∃ i, x = .int i ∧ Q (some i) H1
theorem intsAre_of {ns : List Int} : ∀ {us : List Value}, Vals (ns.map V.int) us → IntsAre us ns := by
 induction ns with
 | nil => intro us r; rw [List.map_nil] at r; cases r; exact .nil
 | cons n ns ih =>
   intro us r
   rw [List.map_cons] at r
   cases r with
   | cons r1 r2 =>
     obtain ⟨t, e⟩ := r1
     subst e
     exact .cons n t (ih r2)
section
variable {X : Cx} {e : Expr} {te : TE} {lo hi : Option Expr} {tl th : TO} {pos p2 : Pos}
theorem po_none : PO X none tNoPart := by
 intro pins s σ H Q I h
 rw [evalPart_none]
 exact wpAny_pure ⟨none, H, I, .none, h⟩
theorem po_some (h : PE X e te) : PO X (some e) (tPart te) := by
 intro pins s σ H Q I hw
 rw [evalPart_some]
 refine thn (h pins s σ H _ I hw) fun u s1 ⟨x, H1, I1, r1, q1⟩ => ?_
 obtain ⟨i, rfl, q⟩ := q1
 obtain ⟨t, rfl⟩ := r1
 exact ⟨some i, H1, I1, .int i t, q⟩
noncomputable def SlR (X : Cx) (r : V → Option Int → Option Int → Hp → VK → Prop) : Prop :=
 ∀ (pins : List (Addr × Obj)) (s : Shared) (σ : St) (H : Hp) (x : V) (v vl vu : Value) (lo hi : Option Int) (sl : Addr) (Q : VK), Inv X pins σ H s → RelV x v → s.heap.IsSliceOf sl vl vu .none → IsPart vl lo → IsPart vu hi → r x lo hi H Q →
   ∃ T id, typeLookup (.type T) "__getitem__" = pure (some (.builtin id)) ∧ s.TypeIs v T ∧ wpAny (model X.prog X.w) X.A (getItem v (.ref sl)) (EP X pins σ Q) X.xe s
noncomputable def tSl (r : V → Option Int → Option Int → Hp → VK → Prop) (te : TE) (tl th : TO) : TE := fun σ H Q => te σ H fun x H1 => tl σ H1 fun l H2 => th σ H2 fun u H3 => r x l u H3 Q
theorem pe_slice {r : V → Option Int → Option Int → Hp → VK → Prop} (hr : SlR X r) (he : PE X e te) (hl : PO X lo tl) (hu : PO X hi th) : PE X (.Subscript e (.Slice lo hi none p2) pos) (tSl r te tl th) := by
 intro pins s σ H Q I h
 refine Subscript_ (thn (he pins s σ H _ I h) fun v s1 ⟨x, H1, I1, r1, q1⟩ => ?_)
 refine wpAny_Slice (thn (hl pins s1 σ H1 _ I1 q1) fun vl s2 ⟨l, H2, I2, pl, q2⟩ => thn (hu pins s2 σ H2 _ I2 q2) fun vu s3 ⟨u, H3, I3, pu, q3⟩ => ?_)
 rw [evalPart_none]
 refine wpAny_pure ?_
 have I4 : Inv X pins σ H3 { s3 with heap := s3.heap.push { cls := .type "slice", data := .fields #[vl, vu, .none] } } := I3.kept (t' := s3.toks) fun b ob q => Heap.get?_push_of_some _ q
 obtain ⟨T, id, hT, ht, hg⟩ := hr pins { s3 with heap := s3.heap.push { cls := .type "slice", data := .fields #[vl, vu, .none] } } σ H3 x v vl vu l u s3.heap.objs.size Q I4 r1 (Heap.IsSliceOf.new ..) pl pu q3
 show wpAny (model X.prog X.w) X.A (subscriptTail e (.Slice lo hi none p2) v (.ref s3.heap.objs.size)) (EP X pins σ Q) X.xe { s3 with heap := s3.heap.push { cls := .type "slice", data := .fields #[vl, vu, .none] } }
 exact tail_any (ops := [.ref s3.heap.objs.size, v]) ht hT hg (by with_unfolding_all rfl)
noncomputable def cutV (xs : List V) (lo hi : Option Int) : List V := (xs.drop (HT.sIx xs.length 0 lo)).take (HT.sIx xs.length xs.length hi - HT.sIx xs.length 0 lo)
theorem cutV_length (xs : List V) (lo hi : Option Int) : (cutV xs lo hi).length ≤ xs.length := by
 unfold cutV
 rw [List.length_take, List.length_drop]
 omega
noncomputable def rSlT (K : PySem.W.Frag) : V → Option Int → Option Int → Hp → VK → Prop := fun x lo hi H Q => ∃ a xs, x = .ref a ∧ SqT K H a xs ∧
 ¬ (HT.sIx xs.length 0 lo = 0 ∧ HT.sIx xs.length xs.length hi = xs.length) ∧ ∀ p, H p = none → Q (.ref p) (upd H p (.tup (cutV xs lo hi)))
theorem sl_tup : SlR X (rSlT X.K) := by
 intro pins s σ H x v vl vu lo hi sl Q I rx hs pl pu h
 obtain ⟨a, xs, rfl, hx, hw, q⟩ := h
 cases rx
 obtain ⟨its, r, ht, hz⟩ := I.tuple hx
 have hlen : its.toArray.size = xs.length := by rw [List.size_toArray]; exact r.length.symm
 refine ⟨"tuple", _, PyProof.Rows.slot_tuple_getitem.lookup, ht.typeIs, ?_⟩
 refine HT.getItem_tuple_cut ht hs pl pu (by rw [hlen]; exact hw) ?_ (by rw [hlen]; exact hz)
 rw [hlen]
 refine ⟨.ref s.heap.objs.size, _, I.laid (t' := s.toks) (o := .tup (cutV xs lo hi)) (fun b ob q => Heap.get?_push_of_some _ q) (Nat.le_refl _) ?_, rfl, q _ (I.hok.fresh (Nat.le_refl _))⟩
 exact ⟨Nat.le_trans (cutV_length xs lo hi) hz, _, (r.drop (HT.sIx xs.length 0 lo)).take (HT.sIx xs.length xs.length hi - HT.sIx xs.length 0 lo), IsTup.new _ _, NoD.push⟩
noncomputable def rCatT (K : PySem.W.Frag) : R2 := fun x y H Q => ∃ a b xs ys, x = .ref a ∧ y = .ref b ∧ SqT K H a xs ∧ SqT K H b ys ∧ xs ≠ [] ∧ xs.length + ys.length ≤ sizeLine ∧
 (ys = [] → Q (.ref a) H) ∧ (ys ≠ [] → ∀ p, H p = none → Q (.ref p) (upd H p (.tup (xs ++ ys))))
theorem Vals.nil_iff {xs : List V} {us : List Value} (r : Vals xs us) : us = [] ↔ xs = [] := by
 cases r with
 | nil => simp
 | cons _ _ => simp
theorem op_catT : OpR X (binaryOp .Add) (rCatT X.K) := by
 intro pins s σ H x y v u Q I rx ry h
 obtain ⟨a, b, xs, ys, rfl, rfl, ha, hb, hx, hz, q1, q2⟩ := h
 cases rx
 cases ry
 obtain ⟨its, r1, p1, _⟩ := I.tuple ha
 obtain ⟨its2, r2, p2, _⟩ := I.tuple hb
 refine HT.cat_tup p1 p2 (fun z => hx (r1.nil_iff.mp z)) (fun z => ⟨.ref a, H, I, rfl, q1 (r2.nil_iff.mp z)⟩) (fun z => ?_) (by rw [← r1.length, ← r2.length]; exact hz)
 refine ⟨.ref s.heap.objs.size, _, I.laid (t' := s.toks) (o := .tup (xs ++ ys)) (fun b ob q => Heap.get?_push_of_some _ q) (Nat.le_refl _) ?_, rfl, q2 (fun w => z (r2.nil_iff.mpr w)) _ (I.hok.fresh (Nat.le_refl _))⟩
 exact ⟨by rw [List.length_append]; exact hz, _, r1.append r2, IsTup.new _ _, NoD.push⟩
end
noncomputable def ixN (n : Nat) (i : Int) : Option Nat := if 0 ≤ i then (if i < n then some i.toNat else none) else if -(n : Int) ≤ i then some (i + n).toNat else none
noncomputable def atI {α : Type} (xs : List α) (i : Int) : Option α := (ixN xs.length i).bind fun j => xs[j]?
theorem ixN_seq {n : Nat} {i : Int} {j : Nat} (h : ixN n i = some j) : seqIndex? i n = some j ∧ j < n ∧ -(n : Int) ≤ i ∧ i < n := by
 unfold ixN at h
 by_cases h0 : 0 ≤ i
 · rw [if_pos h0] at h
   by_cases h1 : i < n
   · rw [if_pos h1] at h
     have e : i.toNat = j := Option.some.inj h
     exact ⟨by rw [seqIndex_of h0 h1, e], by omega, by omega, h1⟩
   · rw [if_neg h1] at h; cases h
 · rw [if_neg h0] at h
   by_cases h1 : -(n : Int) ≤ i
   · rw [if_pos h1] at h
     have e : (i + n).toNat = j := Option.some.inj h
     exact ⟨by rw [seqIndex_neg (by omega) h1, e], by omega, h1, by omega⟩
   · rw [if_neg h1] at h; cases h
theorem atI_get {α : Type} {xs : List α} {i : Int} {v : α} (h : atI xs i = some v) : ∃ j, seqIndex? i xs.length = some j ∧ xs[j]? = some v ∧ j < xs.length ∧ -(xs.length : Int) ≤ i ∧ i < xs.length := by
 unfold atI at h
 cases e : ixN xs.length i with
 | none => rw [e] at h; cases h
 | some j =>
   rw [e] at h
   obtain ⟨h1, h2, h3, h4⟩ := ixN_seq e
   exact ⟨j, h1, h, h2, h3, h4⟩
theorem atI_nat {α : Type} {xs : List α} {j : Nat} {v : α} (h : xs[j]? = some v) : atI xs (j : Int) = some v := by
 have hj : j < xs.length := (List.getElem?_eq_some_iff.mp h).1
 have e : ixN xs.length (j : Int) = some j := by
  unfold ixN
  rw [if_pos (by omega), if_pos (by omega)]; simp
 unfold atI; rw [e]; exact h
noncomputable def PlainIx (b : Expr) : Prop := ∀ o i, subscripted b false o i = operate [o, i] (getItem o i)
noncomputable def IxR (X : Cx) (r : R2) : Prop :=
 ∀ (value slice : Expr) (pins : List (Addr × Obj)) (s : Shared) (σ : St) (H : Hp) (x y : V) (v u : Value) (Q : VK), Inv X pins σ H s → RelV x v → RelV y u → r x y H Q →
   subscripted slice false v u = operate [v, u] (getItem v u) → wpAny (model X.prog X.w) X.A (subscriptTail value slice v u) (EP X pins σ Q) X.xe s
noncomputable def MtR (X : Cx) (id : String) (r : V → List V → Hp → VK → Prop) : Prop :=
 ∀ (pins : List (Addr × Obj)) (s : Shared) (σ : St) (H : Hp) (x : V) (xs : List V) (v : Value) (us : List Value) (Q : VK), Inv X pins σ H s → RelV x v → Vals xs us → r x xs H Q →
   wpAny (model X.prog X.w) X.A (call (.builtin id) (v :: us)) (EP X pins σ Q) X.xe s
section
variable {X : Cx} {a b : Expr} {ta tb : TE} {pos : Pos}
theorem pe_ix {r : R2} (hr : IxR X r) (ha : PE X a ta) (hb : PE X b tb) (hs : PlainIx b) : PE X (.Subscript a b pos) (tOp r ta tb) := by
 intro pins s σ H Q I h
 exact Subscript_ (binT ha hb I h fun v u s2 x y H2 I2 rx ry q => hr a b pins s2 σ H2 x y v u Q I2 rx ry q (hs _ _))
noncomputable def rIxL (K : PySem.W.Frag) : R2 := fun x y H Q => ∃ p xs i v, x = .ref p ∧ y = .int i ∧ SqL K H p xs ∧ atI xs i = some v ∧ Q v H
noncomputable def rIxT (K : PySem.W.Frag) : R2 := fun x y H Q => ∃ p xs i v, x = .ref p ∧ y = .int i ∧ SqT K H p xs ∧ atI xs i = some v ∧ Q v H
theorem ix_list : IxR X (rIxL X.K) := by
 intro value slice pins s σ H x y v u Q I rx ry h hs
 obtain ⟨p, xs, i, z, rfl, rfl, hq, he, q⟩ := h
 cases rx
 obtain ⟨t, rfl⟩ := ry
 obtain ⟨its, r, pl, hz⟩ := I.list hq
 obtain ⟨j, h1, h2, h3, h4, h5⟩ := atI_get he
 obtain ⟨w, ew, rw'⟩ := r.get h2
 have hl := r.length
 have hn := line63
 have fin : EP X pins σ Q w s := ⟨z, H, I, rw', q⟩
 by_cases h0 : 0 ≤ i
 · have hj : i.toNat = j := by
    rw [seqIndex_of h0 h5] at h1
    exact Option.some.inj h1
   exact item_listR pl.isList h0 (by omega) (by rw [hj]; simpa using ew) fin hs
 · have hj : (i + (its.toArray.size : Int)).toNat = j := by
    rw [seqIndex_neg (by omega) h4] at h1
    rw [List.size_toArray, ← hl]
    exact Option.some.inj h1
   exact subscriptTail_builtinR (x := w) pl.isList.typeIs slot_list_getitem.lookup
    (wpAny_getItem_list_neg (Q := fun r s' => r = w ∧ EP X pins σ Q r s') pl.isList (by omega) (by rw [List.size_toArray] <;> omega) (by omega) (by rw [hj]; simpa using ew) ⟨rfl, fin⟩) hs
theorem ix_tup : IxR X (rIxT X.K) := by
 intro value slice pins s σ H x y v u Q I rx ry h hs
 obtain ⟨p, xs, i, z, rfl, rfl, hq, he, q⟩ := h
 cases rx
 obtain ⟨t, rfl⟩ := ry
 obtain ⟨its, r, pl, hz⟩ := I.tuple hq
 obtain ⟨j, h1, h2, h3, h4, h5⟩ := atI_get he
 obtain ⟨w, ew, rw'⟩ := r.get h2
 have hl := r.length
 have hn := line63
 have fin : EP X pins σ Q w s := ⟨z, H, I, rw', q⟩
 exact subscriptTail_builtinR (x := w) pl.typeIs slot_tuple_getitem.lookup
  (getItem_tuple (j := j) (Q := fun r s' => r = w ∧ EP X pins σ Q r s') pl (by omega) (by omega) (by rw [List.size_toArray, ← hl]; exact h1) (by simpa using ew) ⟨rfl, fin⟩) hs
theorem mapSeq_set (its : List Value) (n j : Nat) (u : Value) : Obj.mapSeq (·.setIfInBounds j u) { cls := .type "list", data := .seq its.toArray n } = { cls := .type "list", data := .seq (its.set j u).toArray n } := by
 simp [Obj.mapSeq]
theorem Inv.lst {pins : List (Addr × Obj)} {σ : St} {H : Hp} {s : Shared} {p : Addr} {xs : List V} (I : Inv X pins σ H s) (h : H p = some (.lst xs)) :
  ∃ (its : List Value) (n : Nat), Vals xs its ∧ s.heap.get? p = some { cls := .type "list", data := .seq its.toArray n } ∧ xs.length ≤ sizeLine := by
 obtain ⟨z, its, n, r, e⟩ := I.hok p _ h
 exact ⟨its, n, r, e, z⟩
theorem Inv.lstUpd {pins : List (Addr × Obj)} {σ : St} {H : Hp} {s : Shared} {p : Addr} {xs ys : List V} {its its' : List Value} {n n' : Nat} {f : Obj → Obj} (I : Inv X pins σ H s) (h : H p = some (.lst xs))
  (ho : s.heap.get? p = some { cls := .type "list", data := .seq its.toArray n }) (hf : f { cls := .type "list", data := .seq its.toArray n } = { cls := .type "list", data := .seq its'.toArray n' }) (r : Vals ys its') (hz : ys.length ≤ sizeLine) (t : Nat) :
  Inv X pins σ (upd H p (.lst ys)) { s with heap := s.heap.update p f, toks := t } := by
 have e : (s.heap.update p f).get? p = some { cls := .type "list", data := .seq its'.toArray n' } := by
  rw [Heap.get?_update_self f ho (by rw [hf] <;> rfl), hf]
 refine I.write (x := p) (e := p) (by rw [h]; trivial) (.inl rfl) (fun b u hb q => (Heap.get?_update_other _ _ (Ne.symm hb)).trans q) ⟨_, e⟩ ?_
 exact ⟨hz, its', n', r, e⟩
noncomputable def rSetL : V → V → V → Hp → (Hp → Prop) → Prop := fun o i v H Q => ∃ p xs k j, o = .ref p ∧ i = .int k ∧ H p = some (.lst xs) ∧ ixN xs.length k = some j ∧ Q (upd H p (.lst (xs.set j v)))
theorem set_list : PSet X rSetL := by
 intro pins s σ H o i v ov iv u Q I ro ri rv h
 obtain ⟨p, xs, k, j, rfl, rfl, hp, hj, q⟩ := h
 cases ro
 obtain ⟨t, rfl⟩ := ri
 obtain ⟨its, n, r, ho, hz⟩ := I.lst hp
 obtain ⟨h1, h2, h3, h4⟩ := ixN_seq hj
 have hl := r.length
 have hn := line63
 have I' : Inv X pins σ (upd H p (.lst (xs.set j v))) { s with heap := s.heap.update p (Obj.mapSeq (·.setIfInBounds j u)) } :=
  I.lstUpd hp ho (mapSeq_set its n j u) (r.set rv j) (by rw [List.length_set]; exact hz) s.toks
 by_cases h0 : 0 ≤ k
 · have hk : k.toNat = j := by
    rw [seqIndex_of h0 h4] at h1
    exact Option.some.inj h1
   exact PySem.W.ki_setAt ho h0 (by omega) (by rw [List.size_toArray, ← hl]; exact h4) (by rw [hk]; exact ⟨_, I', q⟩)
 · have hk : (k + (its.toArray.size : Int)).toNat = j := by
    rw [seqIndex_neg (by omega) h3] at h1
    rw [List.size_toArray, ← hl]
    exact Option.some.inj h1
   exact PySem.W.ki_setBack ho (by omega) (by rw [List.size_toArray, ← hl]; exact h3) (by omega) (by rw [hk]; exact ⟨_, I', q⟩)
theorem slice_bounds (lo hi : Option Int) (n : Nat) : (sliceBounds lo hi none n).1 = ((HT.sIx n 0 lo : Nat) : Int) ∧ (sliceBounds lo hi none n).2.1 = ((HT.sIx n n hi : Nat) : Int) ∧ (sliceBounds lo hi none n).2.2 = 1 := by
 refine ⟨?_, ?_, rfl⟩
 · cases lo with
   | none => simp [sliceBounds, HT.sIx]
   | some i =>
     simp only [sliceBounds, HT.sIx, Option.getD_none, show (1 : Int) > 0 by decide, if_true]
     by_cases h : i < 0
     · simp only [h, if_true] <;> omega
     · simp only [h, if_false] <;> omega
 · cases hi with
   | none => simp [sliceBounds, HT.sIx]
   | some i =>
     simp only [sliceBounds, HT.sIx, Option.getD_none, show (1 : Int) > 0 by decide, if_true]
     by_cases h : i < 0
     · simp only [h, if_true] <;> omega
     · simp only [h, if_false] <;> omega
theorem slicePick_cut (its : List Value) (lo hi : Option Int) : slicePick its.toArray lo hi none = ((its.drop (HT.sIx its.length 0 lo)).take (HT.sIx its.length its.length hi - HT.sIx its.length 0 lo)).toArray := by
 obtain ⟨h1, h2, h3⟩ := slice_bounds lo hi its.toArray.size
 unfold slicePick
 rw [h1, h2, h3]
 simp only [sliceRange_one, pick_run, List.size_toArray] <;> rfl
noncomputable def rSlL (K : PySem.W.Frag) : V → Option Int → Option Int → Hp → VK → Prop := fun x lo hi H Q => ∃ a xs, x = .ref a ∧ SqL K H a xs ∧ ∀ p, H p = none → Q (.ref p) (upd H p (.lst (cutV xs lo hi)))
theorem sl_list : SlR X (rSlL X.K) := by
 intro pins s σ H x v vl vu lo hi sl Q I rx hs pl pu h
 obtain ⟨a, xs, rfl, hx, q⟩ := h
 cases rx
 obtain ⟨its, r, ht, hz⟩ := I.list hx
 have hlen := r.length
 refine ⟨"list", _, slot_list_getitem.lookup, ht.isList.typeIs, ?_⟩
 refine wpAny_getItem_list_slice ht.isList hs pl pu .none (by simp) ?_ (by rw [List.size_toArray] <;> omega)
 rw [slicePick_cut, ← hlen]
 refine ⟨.ref s.heap.objs.size, _, I.laid (t' := s.toks) (o := .lst (cutV xs lo hi)) (fun b ob q => Heap.get?_push_of_some _ q) (Nat.le_refl _) ?_, rfl, q _ (I.hok.fresh (Nat.le_refl _))⟩
 exact ⟨Nat.le_trans (cutV_length xs lo hi) hz, _, 0, (r.drop (HT.sIx xs.length 0 lo)).take (HT.sIx xs.length xs.length hi - HT.sIx xs.length 0 lo), Heap.get?_push_size _ rfl⟩
noncomputable def flatV : V → Bool
 | .non => true
 | .bl _ => true
 | .int _ => true
 | .str _ => true
 | _ => false
noncomputable def eqV : V → V → Bool
 | .non, .non => true
 | .bl a, .bl b => a == b
 | .bl a, .int b => (if a then 1 else 0) == b
 | .int a, .bl b => a == (if b then 1 else 0)
 | .int a, .int b => a == b
 | .str a, .str b => a == b
 | _, _ => false
theorem eqAt_V {A : Around} {s : Shared} {y x : V} {u v : Value} (ry : RelV y u) (rx : RelV x v) (fy : flatV y = true) (fx : flatV x = true) : SeqAt.EqAt A s u v (eqV y x) := by
 cases y with
 | non =>
   cases ry
   cases x with
   | non => cases rx; exact SeqAt.EqAt.same _
   | bl b => cases rx; exact SeqAt.EqAt.none_bool b
   | int b => obtain ⟨t, rfl⟩ := rx; exact SeqAt.EqAt.none_int b t
   | str b => obtain ⟨t, rfl⟩ := rx; exact SeqAt.EqAt.none_str b t
   | _ => exact absurd (show false = true from fx) Bool.false_ne_true
 | bl a =>
   cases ry
   cases x with
   | non => cases rx; exact SeqAt.EqAt.bool_none a
   | bl b => cases rx; exact SeqAt.EqAt.bool_bool a b
   | int b => obtain ⟨t, rfl⟩ := rx; exact SeqAt.EqAt.bool_int a b t
   | str b => obtain ⟨t, rfl⟩ := rx; exact SeqAt.EqAt.bool_str a b t
   | _ => exact absurd (show false = true from fx) Bool.false_ne_true
 | int a =>
   obtain ⟨t', rfl⟩ := ry
   cases x with
   | non => cases rx; exact SeqAt.EqAt.int_none a t'
   | bl b => cases rx; exact SeqAt.EqAt.int_bool a t' b
   | int b => obtain ⟨t, rfl⟩ := rx; exact SeqAt.EqAt.int_int a t' b t
   | str b => obtain ⟨t, rfl⟩ := rx; exact SeqAt.EqAt.int_str a t' b t
   | _ => exact absurd (show false = true from fx) Bool.false_ne_true
 | str a =>
   obtain ⟨t', rfl⟩ := ry
   cases x with
   | non => cases rx; exact SeqAt.EqAt.str_none a t'
   | bl b => cases rx; exact SeqAt.EqAt.str_bool a t' b
   | int b => obtain ⟨t, rfl⟩ := rx; exact SeqAt.EqAt.str_int a t' b t
   | str b => obtain ⟨t, rfl⟩ := rx; exact SeqAt.EqAt.str_str a t' b t
   | _ => exact absurd (show false = true from fx) Bool.false_ne_true
 | _ => exact absurd (show false = true from fy) Bool.false_ne_true
noncomputable def eqU (x : V) (u : Value) : Bool := match u with
 | .none => eqV .non x
 | .bool b => eqV (.bl b) x
 | .int i _ => eqV (.int i) x
 | .str z _ => eqV (.str z) x
 | _ => false
theorem eqU_of {x y : V} {u : Value} (r : RelV y u) (f : flatV y = true) : eqU x u = eqV y x := by
 cases y with
 | non => cases r; rfl
 | bl b => cases r; rfl
 | int i => obtain ⟨t, rfl⟩ := r; rfl
 | str z => obtain ⟨t, rfl⟩ := r; rfl
 | _ => exact absurd (show false = true from f) Bool.false_ne_true
theorem any_eqU {x : V} : ∀ {xs : List V} {us : List Value}, Vals xs us → xs.all flatV = true → us.any (eqU x) = xs.any fun y => eqV y x
 | _, _, .nil, _ => rfl
 | y :: xs, u :: us, .cons r t, f => by
   rw [List.all_cons, Bool.and_eq_true] at f
   rw [List.any_cons, List.any_cons, eqU_of r f.1, any_eqU t f.2]
theorem mem_eqAt {A : Around} {s : Shared} {x : V} {v : Value} (rx : RelV x v) (fx : flatV x = true) : ∀ {xs : List V} {us : List Value}, Vals xs us → xs.all flatV = true → ∀ u ∈ us, SeqAt.EqAt A s u v (eqU x u)
 | _, _, .nil, _ => fun u hu => by cases hu
 | y :: xs, u :: us, .cons r t, f => fun u' hu => by
   rw [List.all_cons, Bool.and_eq_true] at f
   rcases List.mem_cons.mp hu with rfl | hu
   · rw [eqU_of r f.1]; exact eqAt_V r rx f.1 fx
   · exact mem_eqAt rx fx t f.2 u' hu
noncomputable def inV (x : V) (xs : List V) : Bool := xs.any fun y => eqV y x
noncomputable def rIn (K : PySem.W.Frag) (neg : Bool) : R2 := fun x y H Q => ∃ p xs, y = .ref p ∧ (SqL K H p xs ∨ SqT K H p xs) ∧ flatV x = true ∧ xs.all flatV = true ∧ Q (.bl (if neg then !inV x xs else inV x xs)) H
theorem op_in_seq : OpR X (compareOp .In) (rIn X.K false) := by
 intro pins s σ H x y v u Q I rx ry h
 obtain ⟨p, xs, rfl, hq, fx, fs, q⟩ := h
 cases ry
 rcases hq with hq | hq
 · obtain ⟨its, r, pl, hz⟩ := I.list hq
   refine SeqAt.in_listAt (eqU x) pl.isList (fun w hw => mem_eqAt rx fx r fs w (by simpa using hw)) ⟨.bl _, H, I, rfl, ?_⟩
   rw [show its.toArray.any (eqU x) = its.any (eqU x) by simp, any_eqU r fs]
   exact q
 · obtain ⟨its, r, pl, hz⟩ := I.tuple hq
   refine SeqAt.in_tupleAt (eqU x) pl (fun w hw => mem_eqAt rx fx r fs w (by simpa using hw)) ⟨.bl _, H, I, rfl, ?_⟩
   rw [show its.toArray.any (eqU x) = its.any (eqU x) by simp, any_eqU r fs]
   exact q
theorem op_notIn_seq : OpR X (compareOp .NotIn) (rIn X.K true) := by
 intro pins s σ H x y v u Q I rx ry h
 obtain ⟨p, xs, rfl, hq, fx, fs, q⟩ := h
 cases ry
 rcases hq with hq | hq
 · obtain ⟨its, r, pl, hz⟩ := I.list hq
   refine SeqAt.notIn_listAt (eqU x) pl.isList (fun w hw => mem_eqAt rx fx r fs w (by simpa using hw)) ⟨.bl _, H, I, rfl, ?_⟩
   rw [show its.toArray.any (eqU x) = its.any (eqU x) by simp, any_eqU r fs]
   exact q
 · obtain ⟨its, r, pl, hz⟩ := I.tuple hq
   refine SeqAt.notIn_tupleAt (eqU x) pl (fun w hw => mem_eqAt rx fx r fs w (by simpa using hw)) ⟨.bl _, H, I, rfl, ?_⟩
   rw [show its.toArray.any (eqU x) = its.any (eqU x) by simp, any_eqU r fs]
   exact q
theorem call_len_seq : CallR X (.builtin "len") (fun xs H Q => ∃ p ys, xs = [.ref p] ∧ (SqL X.K H p ys ∨ SqT X.K H p ys) ∧ Q (.int ys.length) H) := by
 intro pins s σ H xs us Q I r h
 obtain ⟨p, ys, rfl, hq, q⟩ := h
 obtain ⟨u, rfl, rx⟩ := vals1 r
 cases rx
 have hn := line63
 rcases hq with hq | hq
 · obtain ⟨its, r', pl, hz⟩ := I.list hq
   have hlen := r'.length
   exact Calls.call_len_list pl.isList (by simp only [List.size_toArray] <;> omega) ⟨.int ys.length, H, I.tok _, ⟨s.toks + 1, by rw [List.size_toArray, hlen]⟩, q⟩
 · obtain ⟨its, r', pl, hz⟩ := I.tuple hq
   have hlen := r'.length
   exact len_tuple pl (by simp only [List.size_toArray] <;> omega) ⟨.int ys.length, H, I.tok _, ⟨s.toks + 1, by rw [List.size_toArray, hlen]⟩, q⟩
theorem call_len_str : CallR X (.builtin "len") (fun xs H Q => ∃ z, xs = [.str z] ∧ z.length ≤ sizeLine ∧ Q (.int z.length) H) := by
 intro pins s σ H xs us Q I r h
 obtain ⟨z, rfl, hz, q⟩ := h
 obtain ⟨u, rfl, t, rfl⟩ := vals1 r
 have hn := line63
 exact len_str (by omega) ⟨.int z.length, H, I.tok _, ⟨_, rfl⟩, q⟩
theorem call_tuple_of : CallR X (.type "tuple") (fun xs H Q => ∃ p ys, xs = [.ref p] ∧ ((SqL X.K H p ys ∧ ∀ l, H l = none → Q (.ref l) (upd H l (.tup ys))) ∨ (SqT X.K H p ys ∧ Q (.ref p) H))) := by
 intro pins s σ H xs us Q I r h
 obtain ⟨p, ys, rfl, h⟩ := h
 obtain ⟨u, rfl, rx⟩ := vals1 r
 cases rx
 rcases h with ⟨hq, q⟩ | ⟨hq, q⟩
 · obtain ⟨its, r', pl, hz⟩ := I.list hq
   have hlen := r'.length
   refine call_tuple_list pl.isList (fun h' kp => ?_) (by simp only [List.size_toArray] <;> omega)
   have I1 : Inv X pins σ H { s with heap := h' } := I.kept (t' := s.toks) kp
   have I2 : Inv X pins σ (upd H h'.objs.size (.tup ys)) { s with heap := h'.push { cls := .type "tuple", data := .seq its.toArray } } :=
    I1.laid (t' := s.toks) (fun b o e => Heap.get?_push_of_some _ e) (Nat.le_refl _) (show ObjOk X.prog X.w _ _ _ (.tup ys) from ⟨hz, its, r', IsTup.new _ _, NoD.push⟩)
   exact ⟨.ref h'.objs.size, _, I2, rfl, q _ (I1.hok.fresh (Nat.le_refl _))⟩
 · obtain ⟨its, r', pl, hz⟩ := I.tuple hq
   exact call_tuple_same pl ⟨.ref p, H, I, rfl, q⟩
noncomputable def tyV (K : PySem.W.Frag) (T : String) (x : V) (H : Hp) : Prop := match x with
 | .str _ => T = "str"
 | .int _ => T = "int"
 | .ref p => (T = "list" ∧ ∃ xs, SqL K H p xs) ∨ (T = "tuple" ∧ ∃ o, K.lookup p = some o ∧ o.cls = .type "tuple" ∧ o.dict = none) ∨
  (T = "dict" ∧ ((∃ kvs, H p = some (.dK kvs)) ∨ ∃ kvs, H p = some (.dT kvs))) ∨ (T = "set" ∧ ∃ S n, H p = some (.set S n))
 | _ => False
theorem tyV_is {pins : List (Addr × Obj)} {σ : St} {H : Hp} {s : Shared} {T : String} {x : V} {v : Value} (I : Inv X pins σ H s) (r : RelV x v) (ty : tyV X.K T x H) :
  s.TypeIs v T ∧ ∀ a, v = .ref a → ∃ ob, s.heap.get? a = some ob ∧ ob.dict = none := by
 cases x with
 | str z =>
   obtain ⟨t, rfl⟩ := r
   cases (show T = "str" from ty)
   exact ⟨typeIs_str s z t, fun _ e => nomatch e⟩
 | int i =>
   obtain ⟨t, rfl⟩ := r
   cases (show T = "int" from ty)
   exact ⟨typeIs_int s i t, fun _ e => nomatch e⟩
 | ref p =>
   cases r
   rcases ty with ⟨rfl, xs, hq⟩ | ⟨rfl, o, hk, hc, hd⟩ | ⟨rfl, hk⟩ | ⟨rfl, S, n, hk⟩
   · obtain ⟨its, _, pl, _⟩ := I.list hq
     refine ⟨pl.isList.typeIs, fun a e => ?_⟩
     cases e
     obtain ⟨o, n, e, c, hd, _⟩ := pl
     exact ⟨o, e, hd⟩
   · refine ⟨⟨o, I.kIn p o hk, hc⟩, fun a e => ?_⟩
     cases e
     exact ⟨o, I.kIn _ o hk, hd⟩
   · have z : ∃ o, s.heap.get? p = some o ∧ o.ExactDict := by
      rcases hk with ⟨kvs, hk⟩ | ⟨kvs, hk⟩
      · obtain ⟨_, _, _, _, o, _, _, e, ex, _⟩ := I.hok p _ hk
        exact ⟨o, e, ex⟩
      · obtain ⟨_, _, _, _, o, _, _, e, ex, _⟩ := I.hok p _ hk
        exact ⟨o, e, ex⟩
     obtain ⟨o, e, ex⟩ := z
     refine ⟨⟨o, e, ex.1⟩, fun a e2 => ?_⟩
     cases e2
     exact ⟨o, e, ex.2.1⟩
   · obtain ⟨o, _, _, _, e, ex, _⟩ := I.hok p _ hk
     refine ⟨⟨o, e, ex.1⟩, fun a e2 => ?_⟩
     cases e2
     exact ⟨o, e, ex.2.1⟩
 | _ => exact False.elim ty
noncomputable def tBM0 (K : PySem.W.Frag) (T : String) (r : V → List V → Hp → VK → Prop) (to : TE) : TE := fun σ H Q => to σ H fun x H1 => tyV K T x H1 ∧ r x [] H1 Q
noncomputable def tBM (K : PySem.W.Frag) (T : String) (r : V → List V → Hp → VK → Prop) (to : TE) (t : TA) : TE := fun σ H Q => to σ H fun x H1 => tyV K T x H1 ∧ t σ H1 fun xs H2 => r x xs H2 Q
variable {o e : Expr} {es : List Expr} {to : TE} {t : TA} {name : Str} {apos cpos : Pos} {T id : String} {r : V → List V → Hp → VK → Prop}
theorem pe_bm0 (pa : PlainAttrs T) (slot : Slot T name id) (hty : typeOf (.builtin id) = pure (.type "method_descriptor")) (hm : MtR X id r) (ho : PE X o to)
  (hbase : attributeBase o name X.env (eval o X.env) = eval o X.env := by rfl) (hline : (apos.endLine == cpos.line) = true := by rfl) : PE X (.Call (.Attribute o name apos) [] [] cpos) (tBM0 X.K T r to) := by
 intro pins s σ H Q I h
 refine wpAny_Call_method0_late hbase hline (thn (ho pins s σ H _ I h) fun v s1 ⟨x, H1, I1, r1, ty, q1⟩ => ?_)
 obtain ⟨h1, h2⟩ := tyV_is I1 r1 ty
 exact ⟨T, id, pa, slot, hty, h1, h2, Calls.callWith_builtin rfl (PySem.evalArgs_none (hm pins s1 σ H1 x [] v [] Q I1 r1 .nil q1))⟩
theorem pe_bm (pa : PlainAttrs T) (slot : Slot T name id) (hty : typeOf (.builtin id) = pure (.type "method_descriptor")) (hm : MtR X id r) (ho : PE X o to) (ha : PA X (e :: es) t)
  (hbase : attributeBase o name X.env (eval o X.env) = eval o X.env := by rfl)
  (hfew : ((backTo cpos (starEach (e :: es) X.env)).all (fun x => !x.1) && (backToKw cpos (keywordEach [] X.env)).all (fun x => x.1.isSome)
   && decide ((e :: es).length + ([] : List Keyword).length + (if ([] : List Keyword).isEmpty then 0 else 1) < 30)) = true := by rfl)
  (hline : (apos.endLine == cpos.line) = true := by rfl) (hs : starEach (e :: es) X.env = (false, eval e X.env) :: starEach es X.env := by rfl) (hplain : (backTo cpos (starEach es X.env)).any (·.1) = false := by rfl) :
  PE X (.Call (.Attribute o name apos) (e :: es) [] cpos) (tBM X.K T r to t) := by
 intro pins s σ H Q I h
 refine wpAny_Call_method_late hbase hfew hline rfl (thn (ho pins s σ H _ I h) fun v s1 ⟨x, H1, I1, r1, ty, q1⟩ => ?_)
 obtain ⟨h1, h2⟩ := tyV_is I1 r1 ty
 refine ⟨T, id, pa, slot, hty, h1, h2, ?_⟩
 have hA := ha cpos pins s1 σ H1 _ I1 q1
 rw [hs] at hA ⊢
 refine Calls.callWith_builtin (by show (false || (backTo cpos (starEach es X.env)).any (·.1)) = false; rw [hplain] <;> rfl) (Calls.evalArgs_plain ?_)
 exact thn hA fun us s2 ⟨vs, H2, I2, r2, q2⟩ => hm pins s2 σ H2 x vs v us Q I2 r1 r2 q2
/- xs.append(e), list.index on a module's tuple .. are MtR facts of 06m -/
end
noncomputable def MtM (X : Cx) (id : String) (r : V → List V → Hp → VK → Prop) : Prop :=
 ∀ (pins : List (Addr × Obj)) (s : Shared) (σ : St) (H : Hp) (x : V) (xs : List V) (v : Value) (us : List Value) (Q : VK), Inv X pins σ H s → RelV x v → Vals xs us → r x xs H Q →
   wpAny (model X.prog X.w) X.A (call (.builtin id) (v :: us)) (EP X pins σ Q) X.xe s
theorem Vals.one : ∀ {x : V} {us : List Value}, Vals [x] us → ∃ u, us = [u] ∧ RelV x u
 | _, _, .cons r .nil => ⟨_, rfl, r⟩
theorem Vals.zero : ∀ {us : List Value}, Vals [] us → us = []
 | _, .nil => rfl
section
variable {X : Cx} {pins : List (Addr × Obj)} {σ : St} {H : Hp} {s : Shared} {l b : Addr} {xs ys zs : List V}
theorem Inv.lset {its its' : List Value} {n : Nat} {f : Array Value → Array Value} {t' : Nat} (I : Inv X pins σ H s) (hH : H l = some (.lst xs))
  (e : s.heap.get? l = some { cls := .type "list", data := .seq its.toArray n }) (hf : f its.toArray = its'.toArray) (hv : Vals ys its') (hz : ys.length ≤ sizeLine) :
  Inv X pins σ (upd H l (.lst ys)) { s with heap := s.heap.update l (Obj.mapSeq f), toks := t' } := by
 have q := PySem.IsL.update e f
 rw [hf] at q
 refine I.write (x := l) (e := l) (by rw [hH]; exact trivial) (.inl rfl) (fun b' u hb hu => (Heap.get?_update_other s.heap (Obj.mapSeq f) (Ne.symm hb)).trans hu) ⟨_, q⟩ ?_
 exact ⟨hz, its', _, hv, q⟩
theorem Inv.lnew {its : List Value} {t' : Nat} (I : Inv X pins σ H s) (hv : Vals ys its) (hz : ys.length ≤ sizeLine) :
  Inv X pins σ (upd H s.heap.objs.size (.lst ys)) { s with heap := s.heap.push { cls := .type "list", data := .seq its.toArray }, toks := t' } :=
 I.laid (fun _ _ q => Heap.get?_push_of_some _ q) (Nat.le_refl _) ⟨hz, its, 0, hv, Heap.get?_push_size _ rfl⟩
theorem Inv.fresh (I : Inv X pins σ H s) : H s.heap.objs.size = none := I.hok.fresh (Nat.le_refl _)
theorem Inv.lstM (I : Inv X pins σ H s) (hH : H l = some (.lst xs)) : xs.length ≤ sizeLine ∧ ∃ (its : List Value) (n : Nat), Vals xs its ∧ xs.length = its.length ∧ s.heap.get? l = some { cls := .type "list", data := .seq its.toArray n } := by
 obtain ⟨z, its, n, r, e⟩ := I.hok l _ hH
 exact ⟨z, its, n, r, r.length, e⟩
theorem notLongL {n : Nat} (h : n ≤ sizeLine) : Builtin.List.listTooLong n = false := by
 unfold Builtin.List.listTooLong
 exact decide_eq_false (by omega)
end
section
variable {X : Cx}
noncomputable def rAppend : V → List V → Hp → VK → Prop := fun x vs H Q => ∃ l xs y, x = .ref l ∧ vs = [y] ∧ H l = some (.lst xs) ∧ xs.length < sizeLine ∧ Q .non (upd H l (.lst (xs ++ [y])))
theorem mt_append : MtM X "list.append" rAppend := by
 intro pins s σ H x vs v us Q I rx rv h
 obtain ⟨l, xs, y, rfl, rfl, hH, hz, q⟩ := h
 cases rx
 obtain ⟨u, rfl, ru⟩ := rv.one
 obtain ⟨z, its, n, r, hl, e⟩ := I.lstM hH
 refine call_meets F.slot_list_append ⟨_, e, rfl⟩ F.entry_list_append (F.args_list_append_2 _ _) (PySem.list_append l its.toArray n u (by rw [List.size_toArray]; omega)) ⟨e, ?_⟩
 refine ⟨.non, _, I.lset (its' := its ++ [u]) hH e (by simp) (r.append (.cons ru .nil)) ?_, rfl, q⟩
 rw [List.length_append, List.length_singleton]
 omega
noncomputable def rExtend : V → List V → Hp → VK → Prop := fun x vs H Q => ∃ l b xs zs, x = .ref l ∧ vs = [.ref b] ∧ H l = some (.lst xs) ∧ H b = some (.lst zs) ∧ xs.length + zs.length ≤ sizeLine ∧ Q .non (upd H l (.lst (xs ++ zs)))
theorem mt_extend : MtM X "list.extend" rExtend := by
 intro pins s σ H x vs v us Q I rx rv h
 obtain ⟨l, b, xs, zs, rfl, rfl, hH, hB, hz, q⟩ := h
 cases rx
 obtain ⟨u, rfl, ru⟩ := rv.one
 cases ru
 obtain ⟨z, its, n, r, hl, e⟩ := I.lstM hH
 obtain ⟨z2, its2, n2, r2, hl2, e2⟩ := I.lstM hB
 have hsz : its.toArray.size + its2.toArray.size ≤ sizeLine := by rw [List.size_toArray, List.size_toArray]; omega
 have hlong : ¬ (!its.toArray.isEmpty && Builtin.List.listTooLong (its.toArray.size + its2.toArray.size)) = true := by
  rw [notLongL hsz, Bool.and_false]
  exact Bool.false_ne_true
 refine call_meets F.slot_list_extend ⟨_, e, rfl⟩ F.entry_list_extend (F.args_list_extend_2 _ _)
  (AutoSeq1.list_extend_list_list_0 l its.toArray n b its2.toArray n2 hlong (by rw [List.size_toArray]; omega) (by omega)) ⟨e, e2, ?_⟩
 refine ⟨.non, _, I.lset (its' := its ++ its2) hH e (by simp) (r.append r2) ?_, rfl, q⟩
 rw [List.length_append]
 omega
noncomputable def rCat : R2 := fun x y H Q => ∃ l b xs zs, x = .ref l ∧ y = .ref b ∧ H l = some (.lst xs) ∧ H b = some (.lst zs) ∧ xs.length + zs.length ≤ sizeLine ∧ ∀ p, H p = none → Q (.ref p) (upd H p (.lst (xs ++ zs)))
theorem op_cat : OpR X (binaryOp .Add) rCat := by
 intro pins s σ H x y v u Q I rx ry h
 obtain ⟨l, b, xs, zs, rfl, rfl, hH, hB, hz, q⟩ := h
 cases rx
 cases ry
 obtain ⟨z, its, n, r, hl, e⟩ := I.lstM hH
 obtain ⟨z2, its2, n2, r2, hl2, e2⟩ := I.lstM hB
 refine PySem.P.add_list e e2 ?_ (by rw [List.size_toArray, List.size_toArray]; omega)
 have ea : its.toArray ++ its2.toArray = (its ++ its2).toArray := by simp
 rw [ea]
 exact ⟨.ref _, _, I.lnew (t' := s.toks) (r.append r2) (by rw [List.length_append]; omega), rfl, q _ I.fresh⟩
end
section
variable {prog : Program} {w : World} {A : Around} {E : Value → Shared → Prop} {s : Shared}
set_option maxRecDepth 100000 in
end
section
variable {X : Cx}
end
end L2
namespace Att
open PySem PySem.W PySem.Calls PyProof.Rows
theorem ints_of_wellAll {P : Params} {h : Heap} : ∀ (ns : List Int) (vs : List Value), WellAll P h vs (ns.map WData.int) → IntsAre vs ns := by
 intro ns
 induction ns with
 | nil =>
   intro vs w
   rw [List.map_nil] at w
   cases w
   exact .nil
 | cons n ns ih =>
   intro vs w
   rw [List.map_cons] at w
   cases w with
   | cons a b =>
     cases a
     exact .cons _ _ (ih _ b)
theorem script_of {l : OpenLaw} {n : Nat} (hn : l.most = some n) {P : Params} {h : Heap} {args : List WData} {vals : List Value}
  (hpre : l.row.toRowW.claim.pre args = true) (hwl : WellAll P h vals args) :
  ∃ a vs ns, vals = [Value.ref a] ∧ args = [WData.list (ns.map WData.int)] ∧ h.get? a = some { cls := .type "list", data := .seq vs.toArray } ∧ IntsAre vs ns ∧ ns.length ≤ n := by
 have hsh : WShape.hasAll [] args [.list .int] = true := (pre_splitW hpre).1
 have hc : l.pre.holds [] { args := args } = true := (pre_splitW hpre).2
 obtain ⟨d, r, rfl, h1, h2⟩ := hasAllW_cons hsh
 obtain rfl := hasAllW_nil h2
 obtain ⟨xs, rfl, h3⟩ := hasW_list h1
 obtain ⟨ns, rfl⟩ := items_int h3
 have hlen : ns.length ≤ n := by
  unfold OpenLaw.pre at hc
  have h4 : (WTm.not (.lt (.lit (.int (n : Int))) (.len (.arg 0)))).holds [] { args := [.list (ns.map .int)] } = true := by
   have h4 := (holds_andW hc).1
   rw [hn] at h4
   exact h4
  have h5 := condW_of h4 (w_not (w_lt w_lit (w_len_list (w_arg rfl))))
  rw [List.length_map] at h5
  refine Nat.le_of_not_lt fun q => ?_
  have q' : (n : Int) < ((ns.length : Nat) : Int) := by omega
  first
   | (rw [decide_eq_true q'] at h5; exact absurd h5 (by decide))
   | (simp at h5; omega)
 cases hwl with
 | cons w1 w2 =>
   cases w2
   cases w1 with
   | list ho hall => exact ⟨_, _, ns, rfl, rfl, ho, ints_of_wellAll ns _ hall, hlen⟩
theorem post_true (l : OpenLaw) (args : List WData) : l.row.toRowW.claim.post args (.bool true) args = true :=
 postW_of (r := l.row.toRowW) (X := (true == true))
  (show WShape.has [] (.bool true) .bool = true by first | rfl | decide | simp [WShape.has, WShape.arms, WShape.armsAll])
  (show (WTm.eq .res (.lit (.bool true))).value [] { args := args, res := some (.bool true), after := args } = some (.bool (true == true)) from w_eq_bool (w_res rfl) w_lit) rfl
theorem attach_call {l : OpenLaw} {n : Nat} {q : Program} {loose : List Str} {XP : (Str → Option Value) → Heap → Prop} {YP : World → Heap → Prop} {d : DefRec}
  (hn : l.most = some n) (hdf : d.params.defaults = [])
  (call : ∀ (w : World) (s₀ s₁ : Shared) (mg mb : Str → Option Value) (fa : Addr) (o : Obj) (pm cd doc : Value) (a : Addr) (vs : List Value) (ns : List Int),
   Ground q loose [] XP w s₀ mg mb s₁.heap → YP w s₁.heap →
   s₁.heap.get? fa = some o → o.data = .func (docDef d.name d.params d.body d.scope pm cd doc) → s₁.heap.CodeRec cd d.name → mg d.name = some (.ref fa) →
   s₁.heap.get? a = some { cls := .type "list", data := .seq vs.toArray } → IntsAre vs ns → ns.length ≤ n → s₁.gens = #[] →
   codeAny (model l.prog w) callerA (.call (.ref fa) ⟨[.ref a], []⟩) (fun r s' => r = .ok (.ret (.bool true)) ∧ OldK s₁.heap s'.heap ∧ s'.os = s₁.os ∧ AllBare s'.gens) s₁) :
  WalkO q loose XP YP l.row.toRowW d [] (fun f vs => PySem.call f vs) := by
 intro w s₀ s₁ mg mb G Y fa o pm cd doc dV kV ho hd hcd hD hmg hg args vals as hpre hlay hrd hwl hlo
 obtain rfl : dV = .none := Dflts.none hD hdf
 obtain rfl : kV = .none := Dflts.noKw hD
 obtain ⟨a, vs, ns, rfl, rfl, hobj, hints, hlen⟩ := script_of hn hpre hwl
 refine enter_call (codeAny_mono (call w s₀ s₁ mg mb fa o pm cd doc a vs ns G Y ho (fd_plain hd) hcd hmg hobj hints hlen hg) fun r s' hq => ?_)
 obtain ⟨rfl, h2, h3, h4⟩ := hq
 exact ⟨.inl ⟨.bool true, .bool true, [], rfl, fun _ => rfl, .bool true, post_true l _, fun _ => ⟨List.Pairwise.nil, fun _ hm => (nomatch hm)⟩⟩, h2, h3, h4⟩
section
variable {prog : Program} {w : World} {A : Around} {E : Value → Shared → Prop} {s : Shared} {K : Frag}
end
end Att
namespace L2
open PySem PySem.Spec PyProof.Rows
theorem vals_ints : ∀ {vs : List Value} {ns : List Int}, IntsAre vs ns → Vals (ns.map V.int) vs
 | _, _, .nil => .nil
 | _, _, .cons n t h => .cons ⟨t, rfl⟩ (vals_ints h)
noncomputable def Only (H : Hp) : Prop := ∀ b, H b = none ∨ ∃ o xs, H b = some (.frz o (.lst xs))
theorem law_call {P : Program} {w : World} {K : PySem.W.Frag} {mg mb : Str → Option Value} {CX : CXT} {k : Nat} {fa a : Addr} {fd : FuncData} {x : Str} {sp : Sp} {s₁ : Shared} {vs : List Value} {ns : List Int}
  (KX : K.In s₁.heap) (hns : s₁.heap.Ns mainGlobals mg) (hb : s₁.heap.Ns builtinsNs mb) (hbb : ∀ x : Str, x ≠ "__name__" → mb x = bootBuiltins x) (hlim : s₁.heap.NoLimit) (hg : s₁.gens = #[])
  (ha : s₁.heap.get? a = some { cls := .type "list", data := .seq vs.toArray }) (hi : IntsAre vs ns) (hl : ns.length ≤ sizeLine) (hr : Room k callerA)
  (F : ∀ base : Heap, K.In base → base.Ns mainGlobals mg → FnOk P w K mg base CX k fa fd [x] sp) (hbind : ∀ (s : Shared) (u : Value), BindsTo s fd ⟨[u], []⟩ [(x, u)])
  (hsp : ∀ H : Hp, Only H → SqL K H a (ns.map V.int) → sp [.ref a] H (fun v _ => v = .bl true) fun _ _ _ => False)
  (hCX : ∀ H e s', CX [] H s₁ (fun _ _ _ => False) e s' → False) :
  codeAny (model P w) callerA (.call (.ref fa) ⟨[.ref a], []⟩) (fun r s' => r = .ok (.ret (.bool true)) ∧ OldK s₁.heap s'.heap ∧ s'.os = s₁.os ∧ AllBare s'.gens) s₁ := by
 have rv := vals_ints hi
 have lenV := hi.length
 have core : ∀ H : Hp, Only H → SqL K H a (ns.map V.int) → HOk P w H s₁.heap → (∀ b, H b ≠ none → b = a) → (H a ≠ none → K.lookup a = none) →
   codeAny (model P w) callerA (.call (.ref fa) ⟨[.ref a], []⟩) (fun r s' => r = .ok (.ret (.bool true)) ∧ OldK s₁.heap s'.heap ∧ s'.os = s₁.os ∧ AllBare s'.gens) s₁ := by
  intro H hO hS hok hA hK
  have base_of : ∀ {b : Addr} {o : Obj}, s₁.heap.get? b = some o → H b = none → (hidT s₁.heap H).get? b = some o := fun e n => hidT_get e n
  have noA : ∀ {b : Addr} {o : Obj} {es : Array DictEntry} {ep : Nat}, s₁.heap.get? b = some o → o.data = .dict es ep → H b = none := fun {b o es ep} e d => by
   cases q : H b with
   | none => rfl
   | some u =>
     have e' : b = a := hA b (by rw [q]; simp)
     subst e'
     rw [ha] at e; cases e
     have d' : Data.seq vs.toArray _ = Data.dict es ep := d
     cases d'
  have nsK : ∀ {b : Addr} {m : Str → Option Value}, s₁.heap.Ns b m → (hidT s₁.heap H).Ns b m := fun {b m} ⟨o, es, ep, e, d, r⟩ => ⟨o, es, ep, base_of e (noA e d), d, r⟩
  have hKb : K.In (hidT s₁.heap H) := fun b o e => base_of (KX b o e) (by
   cases q : H b with
   | none => rfl
   | some u =>
     have e' : b = a := hA b (by rw [q]; simp)
     subst e'
     rw [hK (by rw [q]; simp)] at e; cases e)
  have hM : Mod K mg (hidT s₁.heap H) := ⟨hKb, nsK hns, ⟨mb, nsK hb, hbb⟩, let ⟨mc, h1, h2⟩ := hlim; ⟨mc, nsK h1, h2⟩⟩
  have e0 : Env0 P w K mg (hidT s₁.heap H) callerA [] s₁ H := ⟨rfl, hM, fun b o e => of_hidT e, Nat.le_of_eq (hidT_size _ _), trivial, fun b hb => absurd (show b ∈ ([] : List Addr) from hb) (by simp), hok, .of_eq hg⟩
  refine codeAny_mono ((F _ hKb (nsK hns)).run callerA [] s₁ H ⟨[.ref a], []⟩ [.ref a] [.ref a] _ _ hr e0 (hbind s₁ (.ref a)) (.cons rfl .nil) (hsp H hO hS)) fun r s' h => ?_
  cases r with
  | error e => exact (hCX H e s' h).elim
  | ok fl =>
    cases fl with
    | next => exact False.elim h
    | brk => exact False.elim h
    | cont => exact False.elim h
    | ret u =>
      obtain ⟨v, H', os, bare, un, hok', r', q⟩ := h
      have q' : v = .bl true := q
      subst q'
      obtain rfl : u = Value.bool true := r'
      refine ⟨rfl, OldK.of_keep fun b o e => ?_, os, bare⟩
      cases q : H b with
      | none => exact un.keep b o e q (by intro z; exact absurd (show b ∈ ([] : List Addr) from z) (by simp)) (by simp)
      | some u =>
        rcases hO b with z | ⟨ob, xs, z⟩
        · rw [q] at z; cases z
        · have z2 := un.frzs b ob _ z
          obtain ⟨e1, _⟩ := hok b _ z
          obtain ⟨e2, _⟩ := hok' b _ z2
          rw [e] at e1; cases e1
          exact e2
 cases hk : K.lookup a with
 | some o =>
   have e := KX a o hk
   rw [ha] at e
   cases e
   refine core (fun _ => none) (fun _ => .inl rfl) (.inr ⟨_, vs.toArray, _, hk, rfl, rfl, rfl, by rw [List.size_toArray, lenV]; exact hl, by simpa using rv⟩) (fun b u z => by have z' : (none : Option HO) = some u := z; cases z') (fun b z => absurd rfl z) fun z => absurd rfl z
 | none =>
   refine core (fun b => if b = a then some (.frz { cls := .type "list", data := .seq vs.toArray } (.lst (ns.map V.int))) else none) (fun b => ?_) (.inl (.inr ⟨{ cls := .type "list", data := .seq vs.toArray }, if_pos rfl⟩)) (fun b u z => ?_) (fun b z => ?_) fun _ => hk
   · by_cases hb : b = a
     · exact .inr ⟨_, _, if_pos hb⟩
     · exact .inl (if_neg hb)
   · by_cases hb : b = a
     · have z' := (if_pos hb).symm.trans z
       cases z'
       subst hb
       exact ⟨ha, by rw [List.length_map]; exact hl, vs, _, rv, ha⟩
     · have z' := (if_neg hb).symm.trans z
       cases z'
   · by_cases hb : b = a
     · exact hb
     · exact absurd (if_neg hb) z
theorem walk_of {l : PySem.W.OpenLaw} {n k : Nat} {q : Program} {loose : List Str} {XP : (Str → Option Value) → Heap → Prop} {YP : World → Heap → Prop} {d : DefRec} {K : Params → PySem.W.Frag} {CX : World → CXT} {sp : World → Sp} {x : Str}
  (hn : l.most = some n) (hn2 : n ≤ sizeLine) (hdf : d.params.defaults = []) (hr : Room k callerA)
  (hY : ∀ (w : World) (h : Heap), YP w h → (K w.params).In h)
  (F : ∀ (w : World) (mg : Str → Option Value) (fa : Addr) (h : Heap), (K w.params).In h → h.Ns mainGlobals mg → mg d.name = some (.ref fa) →
   ∃ fd : FuncData, (∀ (s : Shared) (u : Value), BindsTo s fd ⟨[u], []⟩ [(x, u)]) ∧
     ∀ base : Heap, (K w.params).In base → base.Ns mainGlobals mg → FnOk l.prog w (K w.params) mg base (CX w) k fa fd [x] (sp w))
  (hsp : ∀ (w : World) (H : Hp) (a : Addr) (ns : List Int), ns.length ≤ n → Only H → SqL (K w.params) H a (ns.map V.int) → sp w [.ref a] H (fun v _ => v = .bl true) fun _ _ _ => False)
  (hCX : ∀ (w : World) (H : Hp) (s : Shared) (e : Value) (s' : Shared), CX w [] H s (fun _ _ _ => False) e s' → False) :
  PySem.W.WalkO q loose XP YP l.row.toRowW d [] (fun f vs => PySem.call f vs) := by
 refine Att.attach_call hn hdf fun w s₀ s₁ mg mb fa o pm cd doc a vs ns G Y ho hd hcd hmg hobj hints hlen hg => ?_
 have KX := hY w _ Y
 obtain ⟨fd, hb, hF⟩ := F w mg fa _ KX G.T.g hmg
 exact law_call KX G.T.g G.T.b G.T.builtins G.T.nolimit hg hobj hints (Nat.le_trans hlen hn2) hr hF hb (fun H hO hS => hsp w H a ns hlen hO hS) fun H e s' => hCX w H s₁ e s'
noncomputable def defArgs (s : Stmt) : Arguments := match s with
 | .FunctionDef _ a _ _ _ _ _ _ _ _ => a
 | _ => { posonlyargs := [], args := [], vararg := none, kwonlyargs := [], kw_defaults := [], kwarg := none, defaults := [] }
noncomputable def defBody (s : Stmt) : List Stmt := match s with
 | .FunctionDef _ _ b _ _ _ _ _ _ _ => b
 | _ => []
noncomputable def defScope (s : Stmt) : Scope := match s with
 | .FunctionDef _ _ _ _ _ _ sc _ _ _ => sc
 | _ => { kind := .function, names := [], isGenerator := false, isCoroutine := false }
abbrev CX0 : CXT := fun _ _ _ _ _ _ => False
abbrev E0 : XK := fun _ _ _ => False
theorem pass0 {X : Cx} : Passes CX0 X E0 := fun _ _ _ _ _ _ _ h => h.elim
structure Fun (K : PySem.W.Frag) (x qual : Str) (st : Stmt) (f : Addr) (fd : FuncData) : Prop where
 ex : ∃ (oc : Value) (od : Option Addr) (kV doc pm : Value) (an : Option Addr) (cdv ct : Value) (osl : Array (Option Value)),
  fd = PySem.W.fnOf x qual (defArgs st) (defBody st) (defScope st) .none kV doc pm an cdv ct ∧ K.lookup f = some ⟨oc, od, .func fd, osl⟩ ∧ PySem.W.codeIn K cdv qual = true
 kp : PySem.W.keepIn K (.ref f) = true
section
variable {P : Program} {w : World} {K : PySem.W.Frag} {mg : Str → Option Value} {base : Heap}
theorem Fun.ok {x qual : Str} {st : Stmt} {f : Addr} {fd : FuncData} {N ps : List Str} {k : Nat} {sp : Sp} (F : Fun K x qual st f fd) (S : FnScope N ps (defScope st)) (len : ∀ vs H Q E, sp vs H Q E → vs.length = ps.length)
  (hbody : ∀ (cdv : Value) (A : Around) (outer : List Env) (s : Shared) (H : Hp) (vs : List V) (Q : VK) (E : XK), Room k (A.deeper (envOfC qual (defScope st) s.heap.objs.size f cdv)) → sp vs H Q E →
   ∃ t, PSs (cxOf CX0 P w K mg base N qual (defScope st) f cdv A outer s H E).nox (defBody st) t ∧ t { nx := fun _ H' => Q .non H', rt := Q } (start N vs) H) : FnOk P w K mg base CX0 (k + 1) f fd ps sp := by
 obtain ⟨oc, od, kV, doc, pm, an, cdv, ct, osl, rfl, lk, hcd⟩ := F.ex
 refine fn_of lk hcd S len fun A outer s H vs Q E hr hsp => ?_
 obtain ⟨t, h, q⟩ := hbody cdv A outer s H vs Q E hr hsp
 exact ⟨t, h.nox, q⟩
theorem Fun.binds {x qual : Str} {st : Stmt} {f : Addr} {fd : FuncData} {ps : List Str} (F : Fun K x qual st f fd)
  (h : ∀ (kV doc pm : Value) (an : Option Addr) (cdv ct : Value) (us : List Value), us.length = ps.length → bindArgs (PySem.W.fnOf x qual (defArgs st) (defBody st) (defScope st) .none kV doc pm an cdv ct) ⟨us, []⟩ = pure (ps.zip us)) : Binds K fd ps [] := by
 obtain ⟨oc, od, kV, doc, pm, an, cdv, ct, osl, rfl, lk, hcd⟩ := F.ex
 exact .all (h kV doc pm an cdv ct)
theorem fun_mk {x qual : Str} {st : Stmt} {f : Addr} {oc : Value} {od an : Option Addr} {osl : Array (Option Value)} {kV doc pm cdv ct : Value} (l : K.lookup f = some ⟨oc, od, .func (PySem.W.fnOf x qual (defArgs st) (defBody st) (defScope st) .none kV doc pm an cdv ct), osl⟩)
 (c : PySem.W.codeIn K cdv qual = true) (k : PySem.W.keepIn K (.ref f) = true) : Fun K x qual st f (PySem.W.fnOf x qual (defArgs st) (defBody st) (defScope st) .none kV doc pm an cdv ct) := ⟨⟨oc, od, kV, doc, pm, an, cdv, ct, osl, rfl, l, c⟩, k⟩
theorem hu_of {A : Around} {k : Nat} (hr : Room k A) : A.units + 1 < cLine := Nat.lt_of_le_of_lt (Nat.add_le_add_left (by decide : 1 ≤ 64) _) hr.units
theorem small1000 {n : Nat} (h : n ≤ 1000) : n < sizeLine := Nat.lt_of_le_of_lt h (by decide)
section
variable {X : Cx}
theorem pv (i : Nat) {x : Str} {pos : Pos} (hN : X.N[i]? = some x := by rfl) (hv : Vis X.env.scope x := by first | exact Or.inl rfl | exact Or.inr (Or.inl rfl) | exact Or.inr (Or.inr rfl)) (hd : (x == ("__debug__" : Str)) = false := by decide)
 (hcd : (x == ("__classdict__" : Str)) = false := by decide) : PE X (.Name x pos) (tVar i) := pe_var hN hv hd hcd
end
theorem iteF {A B : Prop} (h : B) : if false = true then A else B := by
 rw [if_neg Bool.false_ne_true]
 exact h
theorem iteT {A B : Prop} (h : A) : if true = true then A else B := by
 rw [if_pos rfl]
 exact h
theorem ite2 {c A B : Prop} [Decidable c] (h1 : c → A) (h2 : ¬ c → B) : if c then A else B := by
 by_cases h : c
 · rw [if_pos h]
   exact h1 h
 · rw [if_neg h]
   exact h2 h
noncomputable def Same (H H' : Hp) : Prop := ∀ b o, H b = some o → H' b = some o
theorem Same.refl (H : Hp) : Same H H := fun _ _ h => h
theorem Same.trans {H H1 H2 : Hp} (a : Same H H1) (b : Same H1 H2) : Same H H2 := fun c o h => b c o (a c o h)
theorem Same.seq {K : PySem.W.Frag} {H H' : Hp} {a : Addr} {xs : List V} (e : Same H H') (h : SqL K H a xs) : SqL K H' a xs := by
 rcases h with (h | ⟨o, h⟩) | h
 · exact .inl (.inl (e _ _ h))
 · exact .inl (.inr ⟨o, e _ _ h⟩)
 · exact .inr h
section
variable {κ : Type} [DecidableEq κ]
theorem valV_in {kvs : List (κ × V)} {k : κ} {v : V} (h : valV kvs k = some v) : k ∈ kvs.map (·.1) := by
 have q : (kvs.any fun kv => decide (kv.1 = k)) = true := by
  rw [valV_any, h]
  all_goals rfl
 obtain ⟨p, hp, e⟩ := List.any_eq_true.mp q
 exact List.mem_map.mpr ⟨p, hp, of_decide_eq_true e⟩
end
section
variable {prog : Program} {w : World} {A : Around} {R : Result → Shared → Prop} {s : Shared}
theorem compLoop_any {elt target iter : Expr} {ifs : List Expr} {scope : Scope} {pos : Pos} {it acc : Value} {env : Env} (I : Nat → Shared → Prop)
  (turn : ∀ n s, I n s → wpAny (model prog w) A (pyNext it) (fun r s₁ => match r with
   | none => R (.ok .next) s₁
   | some v => wpAny (model prog w) A (letOwnedTupleGo target it v) (fun _ s₂ => wpAny (model prog w) A (assign target env v) (fun _ s₂ =>
    wpAny (model prog w) A (forIn ifs true fun c r => if r = true then do let ok ← isTrue c env (eval c env); pure (ForInStep.yield ok) else pure (ForInStep.yield r)) (fun ok s₃ =>
     if ok = true then wpAny (model prog w) A (eval elt env) (fun x s₄ =>
      wpAny (model prog w) A (call (.builtin "list.append") [acc, x]) (fun _ s₅ => ∃ m, m < n ∧ I m s₅) (fun _ _ => False) s₄) (fun _ _ => False) s₃
     else ∃ m, m < n ∧ I m s₃) (fun _ _ => False) s₂) (fun _ _ => False) s₂) (fun _ _ => False) s₁) (fun _ _ => False) s)
  (n : Nat) (h : I n s) :
  codeAny (model prog w) A (.compLoop (.ListComp elt [⟨target, iter, ifs, 0⟩] scope pos) 0 it acc env) R s := by
 refine codeAny_loop rfl I (fun n s hI => ?_) n h
 show wpAny _ A ((compTurn (.ListComp elt [⟨target, iter, ifs, 0⟩] scope pos) 0 it acc env).onRaise (fun x => do noteFrame x env; theTreesLotGoes x)) _ _ s
 refine wpAny_noted ?_
 rw [compTurn_list]
 refine wpAny_bind (wpAny_standAt (wpAny_bind (wpAny_mono (turn n s hI) (fun r s₁ h₁ => ?_) fun _ _ h' => h'.elim)))
 cases r with
 | none => exact wpAny_pure h₁
 | some v =>
   refine wpAny_bind (wpAny_mono h₁ (fun _ s₁ h₁ => ?_) fun _ _ h' => h'.elim)
   refine wpAny_bind (wpAny_mono h₁ (fun _ s₂ h₂ => wpAny_bind (wpAny_mono h₂ (fun ok s₃ h₃ => ?_) fun _ _ h' => h'.elim)) fun _ _ h' => h'.elim)
   cases ok with
   | false => exact wpAny_pure ⟨rfl, h₃⟩
   | true =>
     exact wpAny_bind (wpAny_bind (wpAny_mono h₃ (fun x s₄ h₄ => wpAny_bind (wpAny_mono h₄ (fun _ s₅ h₅ => wpAny_pure (wpAny_pure ⟨rfl, h₅⟩)) fun _ _ h' => h'.elim)) fun _ _ h' => h'.elim))
end
noncomputable def clo (env : Env) : List (Str × NameKind) → List (Str × Addr) → List (Str × Addr)
 | [], cs => cs
 | (n, k) :: r, cs => if k == .free then clo env r ((n, (env.cells.lookup n).getD 0) :: cs) else clo env r cs
theorem closureFor_clo {scope : Scope} {env : Env} (hf : ∀ x ∈ scope.names, x.2 = .free → ∃ c, env.cells.lookup x.1 = some c) : closureFor scope env = pure (clo env scope.names []) := by
 have go : ∀ (l : List (Str × NameKind)) (cs : List (Str × Addr)), (∀ x ∈ l, x.2 = .free → ∃ c, env.cells.lookup x.1 = some c) →
   (forIn (m := Sem) l cs fun x r => (if (x.2 == NameKind.free) = true then do let a ← cellOf env x.1; pure (ForInStep.yield ((x.1, a) :: r)) else pure (ForInStep.yield r))) = pure (clo env l cs) := by
  intro l
  induction l with
  | nil => intro cs _; rfl
  | cons p r ih =>
    obtain ⟨n, k⟩ := p
    intro cs h
    have hr : ∀ x ∈ r, x.2 = .free → ∃ c, env.cells.lookup x.1 = some c := fun x hx => h x (List.mem_cons_of_mem _ hx)
    rw [List.forIn_cons]
    by_cases hk : k = .free
    · subst hk
      obtain ⟨c, hc⟩ := h (n, .free) List.mem_cons_self rfl
      have e : cellOf env n = pure c := by unfold cellOf; dsimp only at hc; rw [hc]
      dsimp only
      rw [if_pos (by rfl), e, pure_bind, pure_bind]
      dsimp only
      rw [ih _ hr]
      dsimp only at hc
      show _ = pure (if (NameKind.free == .free) = true then clo env r ((n, (env.cells.lookup n).getD 0) :: cs) else clo env r cs)
      rw [if_pos (by rfl), hc]
      rfl
    · have hk' : (k == NameKind.free) = false := by simpa using hk
      dsimp only
      rw [hk', if_neg Bool.false_ne_true, pure_bind]
      dsimp only
      rw [ih _ hr]
      show _ = pure (if (k == .free) = true then clo env r ((n, (env.cells.lookup n).getD 0) :: cs) else clo env r cs)
      rw [hk', if_neg Bool.false_ne_true]
 have e := go scope.names [] hf
 unfold closureFor
 simp only []
 exact (by
  first
   | exact e
   | (rw [show (forIn (m := Sem) scope.names ([] : List (Str × Addr)) _) = _ from e]; rfl)
   | (simpa using e))
theorem clo_lookup {env : Env} {x : Str} {c : Addr} : ∀ {l : List (Str × NameKind)} {cs : List (Str × Addr)}, (∀ x ∈ l, x.2 = .free → ∃ c, env.cells.lookup x.1 = some c) → (clo env l cs).lookup x = some c → cs.lookup x = some c ∨ env.cells.lookup x = some c
 | [], cs, _, h => .inl h
 | (n, k) :: r, cs, hf, h => by
   have hr : ∀ x ∈ r, x.2 = .free → ∃ c, env.cells.lookup x.1 = some c := fun x hx => hf x (List.mem_cons_of_mem _ hx)
   unfold clo at h
   split at h
   · rename_i hk
     obtain ⟨c', hc'⟩ := hf (n, k) List.mem_cons_self (by simpa using hk)
     dsimp only at hc'
     rcases clo_lookup hr h with q | q
     · rw [List.lookup_cons] at q
       cases e : x == n with
       | true =>
         rw [e] at q
         have : x = n := by simpa using e
         subst this
         rw [hc'] at q
         dsimp at q
         exact .inr (hc'.trans q)
       | false => rw [e] at q; exact .inl q
     · exact .inr q
   · exact clo_lookup hr h
theorem clo_some {env : Env} {x : Str} : ∀ {l : List (Str × NameKind)} {cs : List (Str × Addr)}, (x, NameKind.free) ∈ l ∨ (∃ c, cs.lookup x = some c) → ∃ c, (clo env l cs).lookup x = some c
 | [], cs, h => by
   rcases h with h | h
   · cases h
   · exact h
 | (n, k) :: r, cs, h => by
   unfold clo
   split
   · rename_i hk
     have hk : k = .free := by simpa using hk
     subst hk
     refine clo_some (cs := (n, (env.cells.lookup n).getD 0) :: cs) ?_
     rcases h with h | ⟨c, h⟩
     · rcases List.mem_cons.mp h with h | h
       · cases h
         exact .inr ⟨_, List.lookup_cons_self⟩
       · exact .inl h
     · refine .inr ?_
       cases e : x == n with
       | true => exact ⟨_, by rw [List.lookup_cons, e]⟩
       | false => exact ⟨c, by rw [List.lookup_cons, e]; exact h⟩
   · rename_i hk
     refine clo_some ?_
     rcases h with h | h
     · rcases List.mem_cons.mp h with h | h
       · cases h
         exact absurd rfl hk
       · exact .inl h
     · exact .inr h
theorem relabel_kind {scope : Scope} {env : Env} {x : Str} (hcell : ∀ y ∈ scope.names, y.2 ≠ .cell) (h : (relabel scope env).names.lookup x = some .cell ∨ (relabel scope env).names.lookup x = some .free) : (x, NameKind.free) ∈ scope.names := by
 have go : ∀ (l : List (Str × NameKind)), (∀ y ∈ l, y.2 ≠ .cell) → ∀ k, (k = NameKind.cell ∨ k = .free) →
   (l.map fun (n, k) => if (k == NameKind.free && env.scope.kind == .function && env.kindOf n == some .cell) then (n, NameKind.cell) else (n, k)).lookup x = some k → (x, NameKind.free) ∈ l := by
  intro l
  induction l with
  | nil => intro _ k _ h; cases h
  | cons p r ih =>
    obtain ⟨n, k0⟩ := p
    intro hc k hk h
    have hr : ∀ y ∈ r, y.2 ≠ .cell := fun y hy => hc y (List.mem_cons_of_mem _ hy)
    rw [List.map_cons] at h
    dsimp only at h
    have hn := hc (n, k0) List.mem_cons_self
    dsimp only at hn
    by_cases hx : (x == n) = true
    · have e : x = n := by simpa using hx
      subst e
      split at h
      · rename_i hz
        have : k0 = .free := by
         simp only [Bool.and_eq_true] at hz
         simpa using hz.1.1
        subst this
        exact List.mem_cons_self
      · rw [List.lookup_cons_self] at h
        cases h
        rcases hk with rfl | rfl
        · exact absurd rfl hn
        · exact List.mem_cons_self
    · have hx : (x == n) = false := by simpa using hx
      have h' : (r.map fun (n, k) => if (k == NameKind.free && env.scope.kind == .function && env.kindOf n == some .cell) then (n, NameKind.cell) else (n, k)).lookup x = some k := by
       split at h
       · rw [List.lookup_cons, hx] at h; exact h
       · rw [List.lookup_cons, hx] at h; exact h
      exact List.mem_cons_of_mem _ (ih hr k hk h')
 rcases h with h | h
 · exact go scope.names hcell _ (.inl rfl) h
 · exact go scope.names hcell _ (.inr rfl) h
abbrev lstO (us : List Value) : Obj := { cls := .type "list", data := .seq us.toArray us.length }
theorem lstO_snoc (us : List Value) (u : Value) : ({ cls := .type "list", data := .seq (us.toArray.push u) (us.length + 1) } : Obj) = lstO (us ++ [u]) := by
 show ({ cls := .type "list", data := .seq (us.toArray.push u) (us.length + 1) } : Obj) = { cls := .type "list", data := .seq (us ++ [u]).toArray (us ++ [u]).length }
 rw [List.length_append, List.length_singleton, List.push_toArray]
noncomputable def capσ (k : Nat) (cap : List Nat) (σ : St) : St := List.replicate k none ++ cap.map fun j => (σ[j]?).getD none
noncomputable def capN (own : List Str) (cap : List Nat) (N : List Str) : List Str := own ++ cap.map fun j => (N[j]?).getD Str.empty
noncomputable def compCx (X : Cx) (own : List Str) (cap : List Nat) (scope : Scope) (C : Addr) (fp : List Addr) (s₂ : Shared) (H₂ : Hp) : Cx :=
 { X with N := capN own cap X.N, s₀ := s₂, H₀ := H₂, env := compEnvC scope (clo X.env scope.names []) C X.env, outer := X.stack, ex := fp, fn := fun _ => false, pn := [], xe := fun _ _ => False }
noncomputable def CapOk (X : Cx) (scope : Scope) : List Nat → Prop
 | [] => True
 | j :: r => (∃ x, X.N[j]? = some x ∧ (X.env.scope.names.lookup x = some .cell ∨ X.env.scope.names.lookup x = some .free) ∧ (relabel scope X.env).names.lookup x ≠ some .local) ∧ CapOk X scope r
theorem CapOk.mem {X : Cx} {scope : Scope} : ∀ {cap : List Nat}, CapOk X scope cap → ∀ j ∈ cap, ∃ x, X.N[j]? = some x ∧ (X.env.scope.names.lookup x = some .cell ∨ X.env.scope.names.lookup x = some .free) ∧ (relabel scope X.env).names.lookup x ≠ some .local
 | [], _, _, h => nomatch h
 | _ :: _, ⟨a, b⟩, j, h => by
   rcases List.mem_cons.mp h with rfl | h
   · exact a
   · exact CapOk.mem b j h
structure LcScope (X : Cx) (own : List Str) (cap : List Nat) (scope : Scope) : Prop where
 kind : scope.kind = .function
 free : ∀ x ∈ scope.names, x.2 = .free → X.env.kindOf x.1 = some .cell ∨ X.env.kindOf x.1 = some .free
 cell : ∀ x ∈ scope.names, x.2 ≠ .cell
 names : ∀ x ∈ scope.names, x.2 = .local → scope.names.lookup x.1 = some .local
 cap : CapOk X scope cap
section
variable {X : Cx} {pins : List (Addr × Obj)} {σ : St} {H H₂ : Hp} {s s₂ : Shared} {own : List Str} {cap : List Nat} {scope : Scope} {C : Addr} {fp : List Addr}
theorem LcScope.has (S : LcScope X own cap scope) (ok : X.Ok) : ∀ x ∈ scope.names, x.2 = .free → ∃ c, X.env.cells.lookup x.1 = some c := fun x hx hk => ok.has _ (S.free x hx hk)
theorem LcScope.look (S : LcScope X own cap scope) (ok : X.Ok) {x : Str} {c : Addr} (h : (clo X.env scope.names []).lookup x = some c) : X.env.cells.lookup x = some c := by
 rcases clo_lookup (S.has ok) h with q | q
 · cases q
 · exact q
theorem Un.cellK {fs ex : List Addr} {H H' : Hp} {h h' : Heap} {c : Addr} {v : Option Value} (u : Un fs ex H H' h h') (n : H c = none) (hx : c ∉ ex) (z : h.IsCell c v) : h'.IsCell c v := by
 obtain ⟨o, ho, hd⟩ := z
 obtain ⟨sl, e⟩ := u.any ho n hx
 exact ⟨_, e, hd⟩
theorem compCx_ok (I : Inv X pins σ H₂ s₂) (S : LcScope X own cap scope) (f : ∀ b ∈ fp, FpOk X pins H₂ b) (hC : s₂.heap.objs.size ≤ C) (hfp : ∀ b ∈ fp, b < s₂.heap.objs.size) : (compCx X own cap scope C fp s₂ H₂).Ok where
 mod := I.ok.mod
 kind := S.kind
 glob := I.ok.glob
 blt := I.ok.blt
 above := hC
 inj := fun x y c h1 h2 => I.ok.inj x y c (S.look I.ok h1) (S.look I.ok h2)
 has := fun x h => clo_some (.inl (relabel_kind S.cell h))
 cab := fun x c h => by cases h
 hd := I.ok.hd
 frames := I.ok.frames
 stk := .inl rfl
 exf := fun b hb => ⟨Nat.ne_of_lt (Nat.lt_of_lt_of_le (hfp b hb) hC), fun x c h => (f b hb).2.2.2.2.1 x c (S.look I.ok h)⟩
 bs := I.bs
 bsz := Nat.le_trans I.ok.bsz I.sz
 noex := fun b o e hb => by
  rcases (f b hb).2.2.2.1 with z | z
  · exact I.ok.noex b o e z
  · exact absurd (Nat.lt_of_lt_of_le (Heap.lt_size e) (Nat.le_trans I.ok.bsz z)) (Nat.lt_irrefl _)
 exfs := fun b hb z => by
  rcases List.mem_cons.mp (I.stkSub b z) with e | e
  · exact (f b hb).2.1 e
  · exact (f b hb).2.2.1 e
 funs := I.stack
 frf := fun b hb => I.stkFree b hb
theorem comp_loc (I : Inv X pins σ H₂ s₂) (S : LcScope X own cap scope) (f : ∀ b ∈ fp, FpOk X pins H₂ b) {fs : List Addr} {h' : Heap} {H' : Hp} (u : Un fs fp H₂ H' s₂.heap h') (m : Str → Option Value) :
  ∀ (i : Nat) (x : Str) (v : V), (capN own cap X.N)[i]? = some x → (capσ own.length cap σ)[i]? = some (some v) → Vis (relabel scope X.env) x → ∃ q, RelV v q ∧ Look (compEnvC scope (clo X.env scope.names []) C X.env) h' m x q := by
 intro i x v h1 h2 h3
 unfold capσ at h2
 unfold capN at h1
 by_cases hi : i < own.length
 · rw [List.getElem?_append_left (by simpa using hi), List.getElem?_replicate] at h2
   split at h2 <;> cases h2
 · rw [List.getElem?_append_right (by simpa using hi)] at h2 h1
   rw [List.length_replicate] at h2
   rw [List.getElem?_map] at h1 h2
   cases e : cap[i - own.length]? with
   | none => rw [e] at h1; cases h1
   | some j =>
     rw [e] at h1 h2
     obtain ⟨y, hy, hk, hnl⟩ := S.cap.mem j (List.mem_of_getElem? e)
     have h1 : (X.N[j]?).getD Str.empty = x := Option.some.inj h1
     rw [hy] at h1
     have h1 : y = x := h1
     subst h1
     have h2 : (σ[j]?).getD none = some v := Option.some.inj h2
     have h2' : σ[j]? = some (some v) := by
      cases q : σ[j]? with
      | none => rw [q] at h2; cases h2
      | some z => rw [q] at h2; exact congrArg some h2
     obtain ⟨m0, hn, hl⟩ := I.loc
     obtain ⟨q, r, l⟩ := hl j y v hy h2' (.inr hk)
     refine ⟨q, r, ?_⟩
     rcases l with ⟨kl, _⟩ | ⟨_, c, hc, z⟩
     · have kl : X.env.scope.names.lookup y = some .local := kl
       rcases hk with k | k <;> (rw [kl] at k; cases k)
     · have hk' : (relabel scope X.env).names.lookup y = some .cell ∨ (relabel scope X.env).names.lookup y = some .free := h3.resolve_left hnl
       obtain ⟨c', hc'⟩ := clo_some (env := X.env) (cs := []) (.inl (relabel_kind S.cell hk'))
       have e2 := S.look I.ok hc'
       rw [hc] at e2
       cases e2
       exact .inr ⟨hk', c, hc', u.cellK (I.freeC y c hc) (fun zz => (f c zz).2.2.2.2.1 y c hc rfl) z⟩
theorem comp_back {pins' : List (Addr × Obj)} {σ' : St} {H' : Hp} {s' : Shared} (I : Inv X pins σ H₂ s₂) (S : LcScope X own cap scope) (f : ∀ b ∈ fp, FpOk X pins H₂ b) (J : Inv (compCx X own cap scope C fp s₂ H₂) pins' σ' H' s') :
  Inv (compCx X own cap scope C fp s₂ H₂) pins' (capσ own.length cap σ) H' s' := by
 obtain ⟨m, hn, _⟩ := id J.loc
 refine ⟨J.ok, J.os, J.bare, J.base, ⟨m, hn, comp_loc I S f J.base m⟩, J.cell, J.free, J.freeC, J.pin, J.hok, ?_⟩
 unfold capσ
 show _ = (capN own cap X.N).length
 unfold capN
 simp
theorem comp_end {pins' : List (Addr × Obj)} {σ' : St} {H' : Hp} {s' : Shared} {h' : Heap} {D : Addr} {us : List Value} {ys : List V} (I : Inv X pins σ H₂ s₂) (f : ∀ b ∈ fp, FpOk X pins H₂ b) (J : Inv (compCx X own cap scope C fp s₂ H₂) pins' σ' H' s')
  (hs : Heap.SameBut C s'.heap h') (hC : s₂.heap.objs.size ≤ C) (hD : s₂.heap.objs.size ≤ D) (hDC : D ≠ C) (ho : s'.heap.get? D = some (lstO us)) (hn : H' D = none) (hl : ys.length ≤ sizeLine) (r : Vals ys us) :
  Inv X pins σ (upd H' D (.lst ys)) { s' with heap := h' } := by
 have same : ∀ b o, b ≠ C → s'.heap.get? b = some o → h'.get? b = some o := fun b o hb e => (hs.2 b hb).trans e
 have old : ∀ b o, s₂.heap.get? b = some o → b ≠ C ∧ b ≠ D := fun b o e => ⟨Nat.ne_of_lt (Nat.lt_of_lt_of_le (Heap.lt_size e) hC), Nat.ne_of_lt (Nat.lt_of_lt_of_le (Heap.lt_size e) hD)⟩
 have u : Un (frs X.stack) fp H₂ H' s₂.heap s'.heap := J.base
 have HC : H' C = none := J.free
 have hok : HOk X.prog X.w (upd H' D (.lst ys)) h' := by
  intro b ob e
  by_cases hb : b = D
  · subst hb
    rw [upd_same] at e
    cases e
    exact ⟨hl, us, us.length, r, same b _ hDC ho⟩
  · rw [upd_ne hb] at e
    have neC : ∀ c w', H' c = some w' → c ≠ C := fun c w' z q => by rw [q, HC] at z; cases z
    refine (J.hok b ob e).stay (fun c v hc q => same c v ?_ q) (fun c q => ?_) fun c xs q => ?_
    · rcases hc with z | z
      · rw [z]; exact neC b ob e
      · exact neC c _ z
    · rw [upd_ne (ne_of_none q hn)]; exact q
    · rw [upd_ne (ne_of_none q hn)]; exact q
 refine I.call' (s' := { s' with heap := h' }) (ch := fp) J.os ⟨fun b o e n hb hx => ?_, fun b o e n hb hx => ?_, fun b o e n hx => ?_, fun b o e hx => ?_, fun b xs e => ?_, fun b o xs e => ?_, fun b ps e => ?_⟩ hok J.bare fun b hb => ?_
 · exact same b o (old b o e).1 (u.keep b o e n hb hx)
 · obtain ⟨sl, q⟩ := u.slot b o e n hb hx
   exact ⟨sl, same b _ (old b o e).1 q⟩
 · rw [upd_ne (old b o e).2]; exact u.free b o e n hx
 · obtain ⟨o', q⟩ := u.there b o e hx
   exact ⟨o', same b _ (old b o e).1 q⟩
 · have q := u.tups b xs e
   rw [upd_ne (ne_of_none q hn)]; exact q
 · have q := u.frzs b o xs e
   rw [upd_ne (ne_of_none q hn)]; exact q
 · obtain ⟨more, q⟩ := u.tbls b ps e
   exact ⟨more, by rw [upd_ne (ne_of_none q hn)]; exact q⟩
 · obtain ⟨f0, f1, f2, f3, f4, f5⟩ := f b hb
   exact ⟨f3, f1, f4, f5⟩
end
noncomputable def PIfs (X : Cx) (ifs : List Expr) (t : TT) : Prop :=
 ∀ (pins : List (Addr × Obj)) (s : Shared) (σ : St) (H : Hp) (Q : Bool → Hp → Prop), Inv X pins σ H s → t σ H Q →
   wpAny (model X.prog X.w) X.A (forIn ifs true fun c r => if r = true then do let ok ← isTrue c X.env (eval c X.env); pure (ForInStep.yield ok) else pure (ForInStep.yield r)) (TP X pins σ Q) X.xe s
noncomputable def tIf0 : TT := fun _ H Q => Q true H
theorem pif_nil {X : Cx} : PIfs X [] tIf0 := by
 intro pins s σ H Q I h
 exact wpAny_pure ⟨H, I, h⟩
theorem pif_one {X : Cx} {c : Expr} {t : TT} (h : PT X c t) : PIfs X [c] t := by
 intro pins s σ H Q I hq
 rw [List.forIn_cons]
 rw [if_pos rfl]
 refine wpAny_bind (wpAny_bind (thn (h pins s σ H Q I hq) fun b s1 ⟨H1, I1, q1⟩ => ?_))
 refine wpAny_pure ?_
 dsimp only
 rw [List.forIn_nil]
 exact wpAny_pure ⟨H1, I1, q1⟩
noncomputable def LcEnd (J : It) (g : TG) (tc : TT) (te : TE) (k : Nat) (cap : List Nat) (σ : St) (H : Hp) (Q : VK) : Prop :=
 ∃ W : Nat → Nat → List V → Hp → Prop, (∃ m, W 0 m [] H) ∧ ∀ i m ys H, W i m ys H →
   (J.stop i H ∧ ys.length ≤ sizeLine ∧ ∀ p, H p = none → Q (.ref p) (upd H p (.lst ys))) ∨
   (J.go i H ∧ ys.length ≤ sizeLine ∧ ∃ N : List V → Hp → Prop, (∀ ys' H', N ys' H' → ∃ m', m' < m ∧ W (i + 1) m' ys' H') ∧ ∀ x H', J.yld i H x H' → g x (capσ k cap σ) H' fun σ2 H2 => tc σ2 H2 fun b H3 => if b = true then te σ2 H3 fun y H4 => N (ys ++ [y]) H4 else N ys H3)
noncomputable def tLc (wi : TI) (g : TG) (tc : TT) (te : TE) (k : Nat) (cap : List Nat) : TE := fun σ H Q => wi σ H fun J H1 => LcEnd J g tc te k cap σ H1 Q
section
variable {X : Cx} {own : List Str} {cap : List Nat} {scope : Scope} {tg iter elt : Expr} {ifs : List Expr} {wi : TI} {g : TG} {tc : TT} {te : TE} {pos : Pos}
theorem lc_block {pins : List (Addr × Obj)} {σ : St} {H2 : Hp} {s2 : Shared} {it : Addr} {fp : List Addr} {tn : Nat → Heap → Prop} {J : It} {W : Nat → Nat → List V → Hp → Prop} {m0 : Nat} {QQ : List V → Hp → Prop} {RR : Value → Addr → Result → Shared → Prop}
  (hc : X.calm = true) (S : LcScope X own cap scope)
  (hg : ∀ C fp s₂ H₂, PG (compCx X own cap scope C fp s₂ H₂) tg g) (ht : ∀ C fp s₂ H₂, PIfs (compCx X own cap scope C fp s₂ H₂) ifs tc) (he : ∀ C fp s₂ H₂, PE (compCx X own cap scope C fp s₂ H₂) elt te)
  (I2 : Inv X pins σ H2 s2) (T : Turn X.prog X.w X.K tg J fp it tn) (st2 : tn 0 s2.heap) (f2 : ∀ b ∈ fp, FpOk X pins H2 b) (w0 : W 0 m0 [] H2)
  (turn : ∀ i m ys H, W i m ys H →
   (J.stop i H ∧ ys.length ≤ sizeLine ∧ QQ ys H) ∨
   (J.go i H ∧ ys.length ≤ sizeLine ∧ ∃ N : List V → Hp → Prop, (∀ ys' H', N ys' H' → ∃ m', m' < m ∧ W (i + 1) m' ys' H') ∧ ∀ x H', J.yld i H x H' → g x (capσ own.length cap σ) H' fun σ2 H2 => tc σ2 H2 fun b H3 => if b = true then te σ2 H3 fun y H4 => N (ys ++ [y]) H4 else N ys H3))
  (hRR : ∀ (D C : Addr) (pins' : List (Addr × Obj)) (σ' : St) (H' : Hp) (s' : Shared) (us : List Value) (ys : List V), Inv (compCx X own cap scope C fp s2 H2) pins' σ' H' s' → s2.heap.objs.size ≤ C → s2.heap.objs.size ≤ D → D ≠ C → s'.heap.get? D = some (lstO us) → H' D = none →
   ys.length ≤ sizeLine → Vals ys us → QQ ys H' → RR (.ref D) C (.ok .next) s') :
  wpAny (model X.prog X.w) X.A (newList []) (fun acc s₃ => wpAny (model X.prog X.w) X.A (newFunctionEnv scope X.env.globals (clo X.env scope.names []) [] X.env.qual none .none (some X.env)) (fun cenv s₄ =>
   codeAny (model X.prog X.w) X.A (.compStart (.ListComp elt [⟨tg, iter, ifs, 0⟩] scope pos) 0 (.ref it) acc { cenv with scope := relabel scope X.env }) (RR acc cenv.locals) s₄) X.xe s₃) X.xe s2 := by
 refine wpAny_newObj_type (wpAny_newFunctionEnv S.cell (by intro y hy; simp at hy) (fun h₁ hns₁ hsb₁ => ?_) S.kind)
 dsimp only at hns₁ hsb₁ ⊢
 generalize hH2 : s2.heap.push { cls := .type "list", dict := none, data := .seq ([] : List Value).toArray } = g2 at hns₁ hsb₁ ⊢
 have hCs : g2.objs.size = s2.heap.objs.size + 1 := by rw [← hH2, Heap.size_push]
 have hC : s2.heap.objs.size ≤ g2.objs.size := by rw [hCs]; exact Nat.le_succ _
 have hDC : s2.heap.objs.size ≠ g2.objs.size := by rw [hCs]; exact Nat.ne_of_lt (Nat.lt_succ_self _)
 have below : ∀ b, b < s2.heap.objs.size → b ≠ g2.objs.size ∧ b ≠ s2.heap.objs.size := fun b hb => ⟨by rw [hCs]; exact Nat.ne_of_lt (Nat.lt_succ_of_lt hb), Nat.ne_of_lt hb⟩
 have old : ∀ b o, s2.heap.get? b = some o → h₁.get? b = some o := fun b o e => hsb₁.extBut b o (below b (Heap.lt_size e)).1 (Heap.get?_push_of_some _ (hH2 ▸ Heap.get?_push_of_some _ e))
 have hacc : h₁.get? s2.heap.objs.size = some (lstO []) := hsb₁.extBut _ _ hDC (Heap.get?_push_of_some _ (hH2 ▸ Heap.get?_push_size _ rfl))
 have hfp : ∀ b ∈ fp, b < s2.heap.objs.size := fun b hb => by
  obtain ⟨o, e, _⟩ := T.obj _ _ st2 b hb
  exact Heap.lt_size e
 have freeAt : ∀ a, s2.heap.objs.size ≤ a → H2 a = none := fun a ha => I2.hok.fresh ha
 have ok := compCx_ok (own := own) (C := g2.objs.size) I2 S f2 hC hfp
 have st1 : tn 0 h₁ := T.keep _ _ _ st2 fun b hb o e => old b o e
 let X' := compCx X own cap scope g2.objs.size fp s2 H2
 have u1 : Un (frs X.stack) fp H2 H2 s2.heap h₁ := Un.kept old
 have start : Inv X' [(s2.heap.objs.size, lstO [])] (capσ own.length cap σ) H2 { s2 with heap := h₁, toks := s2.toks + ([] : List (Str × Value)).length } := by
  refine ⟨ok, rfl, I2.bare, u1, ⟨_, hns₁, comp_loc I2 S f2 u1 _⟩, fun x c e => ?_, freeAt _ hC, fun x c e => I2.freeC x c (S.look I2.ok e), fun p hp => ?_, I2.hok.kept old, ?_⟩
  · obtain ⟨v, z⟩ := I2.cell x c (S.look I2.ok e)
    obtain ⟨o, ho, hd⟩ := z
    exact ⟨v, o, old c o ho, hd⟩
  · have e : p = (s2.heap.objs.size, lstO []) := by simpa [X', compCx] using hp
    subst e
    refine ⟨hacc, freeAt _ (Nat.le_refl _), hDC, fun z => ?_, fun v z => by cases z⟩
    obtain ⟨_, o, ho, _⟩ := I2.stack.mem z
    exact absurd (Heap.lt_size ho) (Nat.lt_irrefl _)
  · unfold capσ
    show _ = (capN own cap X.N).length
    unfold capN
    simp
 have stat : ∀ {D : Addr} {o : Obj} {H' : Hp}, s2.heap.objs.size ≤ D → (∀ b ∈ fp, H' b = none) → ∀ b ∈ fp, FpOk X' [(D, o)] H' b := fun {D o H'} hD hn b hb =>
  ⟨hn b hb, (ok.exf b hb).1, ok.exfs b hb, .inl hb, fun x c e => (ok.exf b hb).2 x c e, fun p hp => by
   have e : p = (D, o) := by simpa [X', compCx] using hp
   subst e
   exact Ne.symm (Nat.ne_of_lt (Nat.lt_of_lt_of_le (hfp b hb) hD))⟩
 have loop : ∀ s₃ : Shared, s₃ = { s2 with heap := h₁, toks := s2.toks + ([] : List (Str × Value)).length } →
   codeAny (model X.prog X.w) X.A (.compLoop (.ListComp elt [⟨tg, iter, ifs, 0⟩] scope pos) 0 (.ref it) (.ref s2.heap.objs.size) (compEnvC scope (clo X.env scope.names []) g2.objs.size X.env))
    (RR (.ref s2.heap.objs.size) g2.objs.size) s₃ := by
  rintro s₃ rfl
  refine compLoop_any (fun n s' => ∃ i H' us ys, Inv X' [(s2.heap.objs.size, lstO us)] (capσ own.length cap σ) H' s' ∧ tn i s'.heap ∧ (∀ b ∈ fp, H' b = none) ∧ Vals ys us ∧ W i n ys H') ?_ m0
   ⟨0, H2, [], [], start, st1, fun b hb => (f2 b hb).1, .nil, w0⟩
  rintro n s3 ⟨i, H3, us, ys, I3, st3, fr3, rv, w3⟩
  have hacc3 := I3.pin (s2.heap.objs.size, lstO us) (List.mem_append_right _ List.mem_cons_self)
  rcases turn i n ys H3 w3 with ⟨stop, hl, qn⟩ | ⟨go, hl, N, hN, step⟩
  · refine thn (T.done X' rfl rfl rfl hc i _ s3 _ H3 _ I3 (stat (Nat.le_refl _) fr3) st3 stop) fun r s4 ⟨hr, I4⟩ => ?_
    subst hr
    have hacc4 := I4.pin (s2.heap.objs.size, lstO us) (List.mem_append_right _ List.mem_cons_self)
    exact hRR _ _ _ _ H3 s4 us ys I4 hC (Nat.le_refl _) hDC hacc4.1 hacc4.2.1 hl rv qn
  · refine thn (T.item X' rfl rfl rfl hc i _ s3 _ H3 _ I3 (stat (Nat.le_refl _) fr3) st3 go) fun r s4 ⟨u, hr, h4⟩ => ?_
    subst hr
    refine thn h4 fun _ s5 ⟨x, H5, I5, r5, y5, st5, fr5⟩ => ?_
    have I5' := I5.pinned (stat (Nat.le_refl _) fr5) (T.obj _ _ st5)
    refine thn (hg _ _ _ _ _ s5 _ H5 x u _ I5' r5 (step x H5 y5)) fun _ s6 ⟨σ6, H6, I6, q6⟩ => ?_
    refine thn (ht _ _ _ _ _ s6 σ6 H6 _ I6 q6) fun b s7 ⟨H7, I7, q7⟩ => ?_
    have tnK : ∀ {σ8 : St} {H8 : Hp} {s8 : Shared}, Inv X' ([(s2.heap.objs.size, lstO us)] ++ pinsAt fp s5.heap) σ8 H8 s8 → tn (i + 1) s8.heap ∧ ∀ b ∈ fp, H8 b = none := fun {σ8 H8 s8} I8 => by
     refine ⟨T.keep _ _ _ st5 fun b hb o e => (I8.pin (b, o) (List.mem_append_right _ (List.mem_append_right _ (mem_pinsAt hb e)))).1, fun b hb => ?_⟩
     obtain ⟨o, e, d⟩ := T.obj _ _ st5 b hb
     exact (I8.pin (b, o) (List.mem_append_right _ (List.mem_append_right _ (mem_pinsAt hb e)))).2.1
    cases b with
    | false =>
      rw [if_neg Bool.false_ne_true] at q7
      obtain ⟨m', hm, w7⟩ := hN _ _ q7
      rw [if_neg Bool.false_ne_true]
      obtain ⟨t7, n7⟩ := tnK I7
      exact ⟨m', hm, i + 1, H7, us, ys, comp_back I2 S f2 I7.unpinned, t7, n7, rv, w7⟩
    | true =>
      rw [if_pos rfl] at q7
      rw [if_pos rfl]
      refine thn (he _ _ _ _ _ s7 σ6 H7 _ I7 q7) fun y s8 ⟨z, H8, I8, r8, n8'⟩ => ?_
      obtain ⟨m', hm, w8⟩ := hN _ _ n8'
      obtain ⟨t8, n8⟩ := tnK I8
      have p8 := I8.pin (s2.heap.objs.size, lstO us) (List.mem_append_right _ (List.mem_append_left _ List.mem_cons_self))
      have hlu : us.length ≤ sizeLine := by rw [← rv.length]; exact hl
      refine append_at (hsz := by show us.toArray.size ≤ sizeLine; rw [List.size_toArray]; exact hlu) p8.1 fun h9 hs9 hD9 => ?_
      have hD9' : h9.get? s2.heap.objs.size = some (lstO (us ++ [y])) := hD9.trans (congrArg some (lstO_snoc us y))
      refine ⟨m', hm, i + 1, H8, us ++ [y], ys ++ [z], ?_, T.keep _ _ _ t8 fun b hb o e => (hs9.2 b (fun q => ?_)).trans e, n8, Vals.append rv (.cons r8 .nil), w8⟩
      · have J0 : Inv X' [] (capσ own.length cap σ) H8 s8 := (comp_back I2 S f2 I8).pins_of fun p hp => by cases hp
        have J1 : Inv X' [] (capσ own.length cap σ) H8 { s8 with heap := h9, toks := s8.toks } := J0.turned (it := s2.heap.objs.size) (fun b o hb e => (hs9.2 b hb).trans e) p8.2.1 p8.2.2.1 (.inr (Nat.le_refl _)) (fun x c e q => by
         obtain ⟨v, hv⟩ := I2.cell x c (S.look I2.ok e)
         exact absurd (Nat.lt_of_lt_of_le hv.lt (by rw [q]; exact Nat.le_refl _)) (Nat.lt_irrefl _)) (fun p hp => by
         have : p ∈ ([] : List (Addr × Obj)) := by simpa [X', compCx] using hp
         cases this)
        exact J1.pins_of fun p hp => by
         have e : p = (s2.heap.objs.size, lstO (us ++ [y])) := by simpa using hp
         subst e
         exact ⟨hD9', p8.2.1, p8.2.2.1, p8.2.2.2.1, fun v z => by cases z⟩
      · exact absurd (hfp b hb) (by rw [q]; exact Nat.lt_irrefl _)
 exact codeAny_compStart_list (loop _ rfl) (T.self _ 0 _ _ _ st1 (loop _ rfl))
theorem pe_lc (hc : X.calm = true) (S : LcScope X own cap scope) (hi : PI X tg iter wi)
  (hg : ∀ C fp s₂ H₂, PG (compCx X own cap scope C fp s₂ H₂) tg g) (ht : ∀ C fp s₂ H₂, PIfs (compCx X own cap scope C fp s₂ H₂) ifs tc) (he : ∀ C fp s₂ H₂, PE (compCx X own cap scope C fp s₂ H₂) elt te)
  (hs : ∀ x, foldedSetIterable iter X.env x = pure x := by intro _; rfl) : PE X (.ListComp elt [⟨tg, iter, ifs, 0⟩] scope pos) (tLc wi g tc te own.length cap) := by
 intro pins s σ H Q I h
 rw [eval_ListComp]
 refine wpAny_comprehension_free (use := none) (cl := clo X.env scope.names []) rfl hs (closureFor_clo (S.has I.ok)) S.kind S.names (thn (hi pins s σ H _ I h) fun v s1 h1 => thn h1 fun itv s2 h2 => ?_)
 obtain ⟨it, fp, tn, J, H2, e, I2, T, st2, f2, W, ⟨m0, w0⟩, turn⟩ := h2
 subst e
 refine lc_block hc S hg ht he I2 T st2 f2 w0 turn fun D C pins' σ' H' s' us ys J' hC hD hDC hD' hn hl rv q => ?_
 obtain ⟨m, hns, _⟩ := id J'.loc
 exact ⟨m, hns, fun h' hs' => ⟨.ref D, _, comp_end I2 f2 J' hs' hC hD hDC hD' hn hl rv, rfl, q D hn⟩⟩
noncomputable def tLcA (i : Nat) (te : TE) : TS := fun D σ H => te σ H fun x H1 => D.nx (σ.set i (some x)) H1
theorem ps_lc {y : Str} {py spos : Pos} {i : Nat} (hc : X.calm = true) (S : LcScope X own cap scope) (hi : PI X tg iter wi)
  (hg : ∀ C fp s₂ H₂, PG (compCx X own cap scope C fp s₂ H₂) tg g) (ht : ∀ C fp s₂ H₂, PIfs (compCx X own cap scope C fp s₂ H₂) ifs tc) (he : ∀ C fp s₂ H₂, PE (compCx X own cap scope C fp s₂ H₂) elt te)
  (hN : X.N.Nodup) (hy : X.N[i]? = some y) (hl : X.env.scope.names.lookup y = some .local)
  (hsw : swapsWith (.ListComp elt [⟨tg, iter, ifs, 0⟩] scope pos) (some (.Name y py)) spos.line X.env = pure true)
  (hs : ∀ x, foldedSetIterable iter X.env x = pure x := by intro _; rfl) : PS X (.Assign [.Name y py] (.ListComp elt [⟨tg, iter, ifs, 0⟩] scope pos) spos) (tLcA i (tLc wi g tc te own.length cap)) := by
 intro pins s σ H D I h
 rw [exec_Assign_Name_used _ _ _ _ hsw]
 refine wpAny_bind (wpAny_standAt (wpAny_bind ?_))
 show wpAny _ X.A (do let _ ← comprehension (.ListComp elt [⟨tg, iter, ifs, 0⟩] scope pos) scope X.env _ (newList []) false (eval iter X.env) (some (assign (.Name y py) X.env))) _ _ s
 refine wpAny_bind (wpAny_mono (wpAny_comprehension_free (use := some (assign (.Name y py) X.env)) (Q := fun _ s' => SP X pins D .next s') (cl := clo X.env scope.names []) rfl hs (closureFor_clo (S.has I.ok)) S.kind S.names
  (thn (hi pins s σ H _ I h) fun v s1 h1 => thn h1 fun itv s2 h2 => ?_)) (fun _ s' hq => wpAny_pure (wpAny_pure hq)) fun _ _ e => e)
 obtain ⟨it, fp, tn, J, H2, e, I2, T, st2, f2, W, ⟨m0, w0⟩, turn⟩ := h2
 subst e
 refine lc_block hc S hg ht he I2 T st2 f2 w0 turn fun L C pins' σ' H' s' us ys J' hC hD hDC hD' hn hll rv q => ?_
 show wpAny _ X.A (assign (.Name y py) X.env (.ref L)) _ _ _
 obtain ⟨m, hns, _⟩ := id J'.loc
 have I3 : Inv X pins σ (upd H' L (.lst ys)) s' := comp_end I2 f2 J' (h' := s'.heap) ⟨rfl, fun _ _ => rfl⟩ hC hD hDC hD' hn hll rv
 refine wpAny_assign_Name (store_ok2 I3 hN hy (.inl hl) (v := .ref L) rfl (fun s5 I5 hch => ?_) (.inr hl))
 have hCn : (upd H' L (.lst ys)) C = none := by rw [upd_ne (Ne.symm hDC)]; exact J'.free
 have neC : ∀ a, (a = X.env.locals ∨ X.env.cells.lookup y = some a) → C ≠ a := fun a ha z => by
  rcases ha with e | e
  · exact absurd (Nat.lt_of_lt_of_le I2.lt (by rw [← e, ← z]; exact hC)) (Nat.lt_irrefl _)
  · obtain ⟨v, hv⟩ := I2.cell y a e
    exact absurd (Nat.lt_of_lt_of_le hv.lt (by rw [← z]; exact hC)) (Nat.lt_irrefl _)
 obtain ⟨a, sb, ha⟩ := hch
 refine ⟨m, hns.sameBut sb (neC a ha), fun h6 hs6 => ?_⟩
 refine ⟨σ.set i (some (.ref L)), _, ?_, q L hn⟩
 refine I5.turned (t' := s5.toks) (it := C) (fun b o hb e => (hs6.2 b hb).trans e) hCn ?_ (.inr (Nat.le_trans I2.sz hC)) (fun x c e z => ?_) fun p hp z => ?_
 · exact fun z => absurd (Nat.lt_of_lt_of_le I2.lt (by rw [← z]; exact hC)) (Nat.lt_irrefl _)
 · obtain ⟨v, hv⟩ := I2.cell x c e
   exact absurd (Nat.lt_of_lt_of_le hv.lt (by rw [z]; exact hC)) (Nat.lt_irrefl _)
 · exact absurd (Nat.lt_of_lt_of_le (Heap.lt_size (I2.pin p hp).1) (by rw [z]; exact hC)) (Nat.lt_irrefl _)
end
section
variable {X : Cx}
noncomputable def rIsi (K : PySem.W.Frag) : List V → Hp → VK → Prop := fun xs H Q => ∃ x n t b, xs = [x, .ty n] ∧ TyOf K H x t ∧ PySem.W.kitOne K t (.type n) = some b ∧ Q (.bl b) H
theorem call_isi : CallR X (.builtin "isinstance") (rIsi X.K) := by
 intro pins s σ H xs us Q I r h
 obtain ⟨x, n, t, b, rfl, ty, e, q⟩ := h
 obtain ⟨u, u', rfl, rx, ry⟩ := vals2 r
 cases (show u' = Value.type n from ry)
 exact isinst_ok I rx ty e fun tk => ⟨.bl b, H, I.tok tk, rfl, q⟩
theorem op_le_str : OpR X (compareOp .LtE) (fun x y H Q => ∃ i j, x = .str i ∧ y = .str j ∧ Q (.bl (!decide (j.cps.toList < i.cps.toList))) H) := by
 intro pins s σ H x y v u Q I rx ry h
 obtain ⟨i, j, rfl, rfl, q⟩ := h
 obtain ⟨t, rfl⟩ := rx
 obtain ⟨t', rfl⟩ := ry
 exact PySem.P.le_str (fin_bl I q rfl)
theorem op_neL0 (hu : X.A.units < cLine) : OpR X (compareOp .NotEq) (fun x y H Q => ∃ a b xs, x = .ref a ∧ y = .ref b ∧ SqL X.K H a xs ∧ SqL X.K H b [] ∧ Q (.bl (!xs.isEmpty)) H) := by
 intro pins s σ H x y v u Q I rx ry h
 obtain ⟨a, b, xs, rfl, rfl, ha, hb, q⟩ := h
 cases rx
 cases ry
 obtain ⟨ia, ra, pa, za⟩ := I.list ha
 obtain ⟨ib, rb, pb, zb⟩ := I.list hb
 cases rb
 cases xs with
 | nil =>
   cases ra
   exact SeqAt.RcNeAt.lists (e := fun _ => true) pa.isList pb.isList rfl hu (fun i hi => absurd hi (Nat.not_lt_zero i)) X.prog X.w _ _ ⟨.bl false, H, I, rfl, q⟩
 | cons z r =>
   cases ra with
   | cons r1 r2 =>
     exact SeqAt.RcNeAt.lists_lengths pa.isList pb.isList (by simp) hu X.prog X.w _ _ ⟨.bl true, H, I, rfl, q⟩
theorem call_all (hc : X.calm = true) : CallR X (.builtin "all") (fun xs H Q => ∃ (a : Addr) (bs : List Bool), xs = [.ref a] ∧ SqL X.K H a (bs.map V.bl) ∧ Q (.bl (bs.all id)) H) := by
 intro pins s σ H xs us Q I r h
 obtain ⟨a, bs, rfl, hq, q⟩ := h
 obtain ⟨u, rfl, rx⟩ := vals1 r
 cases rx
 obtain ⟨its, rv, p, hz⟩ := I.list hq
 have hlt : a < s.heap.objs.size := by obtain ⟨_, e, _⟩ := p.isList; exact Heap.lt_size e
 have hl := rv.length
 rw [List.length_map] at hl
 refine call_all_walk (wpAny_pyIter_list p.isList ?_)
 refine ⟨s.heap.objs.size, _, _, _, _, _, fun i => (bs[i]?).getD false, rfl, Walks.list (A := X.A.in1) (show X.A.in1.handled = none from I.ok.hd hc) s.heap.objs.size a (Nat.ne_of_lt hlt) its.toArray, ⟨⟨_, Heap.get?_push_size _ rfl, rfl, rfl⟩, p.isList.push _⟩, ?_, fun h' tk hk => ?_⟩
 · intro i v s' Q' E' hP hQ'
   have hP : its[i]? = some v := by simpa using hP
   cases e : bs[i]? with
   | none =>
     have := List.getElem?_eq_none_iff.mp e
     have h2 : its[i]? = none := List.getElem?_eq_none_iff.mpr (by omega)
     rw [h2] at hP
     cases hP
   | some b =>
     obtain ⟨u, hu, ru⟩ := rv.get (i := i) (x := V.bl b) (by rw [List.getElem?_map, e]; rfl)
     rw [hu] at hP
     cases hP
     cases (show v = Value.bool b from ru)
     dsimp only at hQ'
     rw [e] at hQ'
     exact wpAny_pure hQ'
 · have e : ((List.range its.toArray.size).all fun i => (bs[i]?).getD false) = bs.all id := by
    rw [List.size_toArray, ← hl]
    clear q hq rv hl
    rw [Bool.eq_iff_iff, List.all_eq_true, List.all_eq_true]
    constructor
    · intro h x hx
      obtain ⟨i, hi, rfl⟩ := List.mem_iff_getElem.mp hx
      have := h i (List.mem_range.mpr hi)
      simpa [hi] using this
    · intro h i hi
      have hi := List.mem_range.mp hi
      have := h (bs[i]) (List.getElem_mem hi)
      simpa [hi] using this
   rw [e]
   refine ⟨.bl (bs.all id), H, I.kept fun b o e => hk b o (fun hb => ?_) (Heap.get?_push_of_some _ e), rfl, q⟩
   have z : b = s.heap.objs.size := by simpa using hb
   exact absurd (Heap.lt_size e) (by rw [z]; exact Nat.lt_irrefl _)
theorem call_sumL (hc : X.calm = true) : CallR X (.builtin "sum") (fun xs H Q => ∃ (a : Addr) (ns : List Int), xs = [.ref a] ∧ SqL X.K H a (ns.map V.int) ∧ (∀ n ∈ ns, 0 ≤ n) ∧ ns.sum < 2 ^ 63 ∧ Q (.int ns.sum) H) := by
 intro pins s σ H xs us Q I r h
 obtain ⟨a, ns, rfl, hq, h0, h1, q⟩ := h
 obtain ⟨u, rfl, rx⟩ := vals1 r
 cases rx
 obtain ⟨its, rv, p, hz⟩ := I.list hq
 have hlt : a < s.heap.objs.size := by obtain ⟨_, e, _⟩ := p.isList; exact Heap.lt_size e
 have hl := rv.length
 rw [List.length_map] at hl
 have ps : ∀ k, k ≤ ns.length → preSum (fun i => (ns[i]?).getD 0) k = (ns.take k).sum := by
  intro k
  induction k with
  | zero => intro _; rfl
  | succ k ih =>
    intro hk
    have this : ns[k]? = some ns[k] := List.getElem?_eq_getElem (by omega)
    rw [preSum, ih (by omega), List.take_add_one, this, List.sum_append]
    simp
 have nn : ∀ (l : List Int), (∀ n ∈ l, 0 ≤ n) → 0 ≤ l.sum := by
  intro l
  induction l with
  | nil => intro _; exact Int.le_refl _
  | cons a r ih =>
    intro h
    have h1 := h a List.mem_cons_self
    have h2 := ih fun n hn => h n (List.mem_cons_of_mem _ hn)
    rw [List.sum_cons]; omega
 have tk : ∀ k, (ns.take k).sum ≤ ns.sum := by
  intro k
  have e : ns.sum = (ns.take k).sum + (ns.drop k).sum := by rw [← List.sum_append, List.take_append_drop]
  have := nn (ns.drop k) fun n hn => h0 n (List.mem_of_mem_drop hn)
  omega
 refine call_sum_walk (wpAny_pyIter_list p.isList ?_)
 refine ⟨s.heap.objs.size, _, _, _, _, _, fun i => (ns[i]?).getD 0, rfl, Walks.list (A := X.A.in1) (show X.A.in1.handled = none from I.ok.hd hc) s.heap.objs.size a (Nat.ne_of_lt hlt) its.toArray, ⟨⟨_, Heap.get?_push_size _ rfl, rfl, rfl⟩, p.isList.push _⟩, ?_, ?_, ?_, fun h' tk' t' hk => ?_⟩
 · intro b hb
   show b < (s.heap.push _).objs.size
   rw [Heap.size_push]
   rcases List.mem_cons.mp hb with z | z
   · rw [z]; exact Nat.lt_succ_self _
   · have z : b = a := by simpa using z
     rw [z]; exact Nat.lt_succ_of_lt hlt
 · intro i v hP
   have hP : its[i]? = some v := by simpa using hP
   have hi : i < ns.length := by
    have := (List.getElem?_eq_some_iff.mp hP).1
    omega
   obtain ⟨u, hu, ru⟩ := rv.get (i := i) (x := V.int ns[i]) (by rw [List.getElem?_map, List.getElem?_eq_getElem hi]; rfl)
   rw [hu] at hP
   cases hP
   obtain ⟨t, rfl⟩ := (show ∃ t, v = Value.int ns[i] t from ru)
   exact ⟨t, by dsimp only; rw [List.getElem?_eq_getElem hi]; rfl⟩
 · intro j hj
   rw [List.size_toArray] at hj
   have hj : j < ns.length := by omega
   have hm : ns[j] ∈ ns := List.getElem_mem hj
   have hp := ps (j + 1) (by omega)
   have hp0 := ps j (by omega)
   have h3 := tk (j + 1)
   have h4 := nn (ns.take (j + 1)) fun n hn => h0 n (List.mem_of_mem_take hn)
   have h5 := nn (ns.take j) fun n hn => h0 n (List.mem_of_mem_take hn)
   have h6 := h0 _ hm
   rw [preSum, hp0, List.getElem?_eq_getElem hj] at hp
   have hp : (ns.take j).sum + ns[j] = (ns.take (j + 1)).sum := hp
   refine ⟨?_, ?_⟩
   · dsimp only
     rw [List.getElem?_eq_getElem hj]
     show InLong ns[j]
     unfold InLong; omega
   · rw [ps (j + 1) (by omega)]
     unfold InLong; omega
 · have e : preSum (fun i => (ns[i]?).getD 0) its.toArray.size = ns.sum := by
    rw [List.size_toArray, ← hl, ps _ (Nat.le_refl _), List.take_length]
   rw [e]
   refine ⟨.int ns.sum, H, I.kept fun b o e => hk b o (fun hb => ?_) (Heap.get?_push_of_some _ e), ⟨t', rfl⟩, q⟩
   have z : b = s.heap.objs.size := by simpa using hb
   exact absurd (Heap.lt_size e) (by rw [z]; exact Nat.lt_irrefl _)
end
section
variable {prog : Program} {w : World} {A : Around} {E : Value → Shared → Prop} {s : Shared}
theorem nextOf_tup {it t : Addr} {i : Nat} {its : Array Value} {v : Value} {Q : Value → Shared → Prop} (hit : s.heap.IsTupleIter it t i) (ht : s.heap.IsTuple t its) (hv : its[i]? = some v)
  (k : ∀ g, g.IsTupleIter it t (i + 1) → Heap.SameBut it s.heap g → Q v { s with heap := g }) : wpAny (model prog w) A (Builtin.SmallTypes.nextOf (.ref it)) Q E s := by
 obtain ⟨o, e1, e2, e3⟩ := id hit
 obtain ⟨ot, et, _, nt, dt⟩ := ht
 unfold Builtin.SmallTypes.nextOf
 refine wpAny_bind (wpAny_callSpecial?_slot (name := Str.ofString "__next__") hit.typeIs PySem.F.slot_tuple_iterator_next (wpAny_call_entry PySem.F.slot_tuple_iterator_next hit.typeIs PySem.F.entry_tuple_iterator_next ?_ (PySem.F.args_tuple_iterator_next_1 _)))
 show wpAny _ _ (field (.ref it) 0 >>= _) _ _ s
 refine wpAny_bind (wpAny_field e1 e3 (x := .ref t) rfl ?_)
 show wpAny _ _ (if (Value.ref t == Value.none) = true then _ else _) _ _ s
 rw [if_neg (fun z => by cases (show false = true from z))]
 show wpAny _ _ (field (.ref it) 1 >>= _) _ _ s
 refine wpAny_bind (wpAny_field e1 e3 (x := .int i 0) rfl ?_)
 show wpAny _ _ (seqItems? (.ref t) >>= _) _ _ s
 refine wpAny_bind (wpAny_seqItems et dt ?_)
 simp only [Int.toNat_natCast, hv]
 refine wpAny_bind (wpAny_setField e1 e3 (by simp) (wpAny_pure ⟨v, rfl, wpAny_pure (k _ ⟨_, Heap.get?_update_self _ e1 (Obj.isFreed_of_fields (Obj.data_mapFields e3 _)), (Obj.cls_mapFields ..).trans e2, ?_⟩ (Heap.SameBut.update ..))⟩))
 rw [Obj.data_mapFields e3]; simp [rawInt]
theorem nextOf_tupEnd {it t : Addr} {i : Nat} {its : Array Value} {Q : Value → Shared → Prop} (hh : A.handled = none) (hit : s.heap.IsTupleIter it t i) (ht : s.heap.IsTuple t its) (hv : its[i]? = none)
  (k : ∀ g x, Heap.ExtBut it s.heap g → (∃ o, g.get? x = some o ∧ o.cls = .type "StopIteration") → E (.ref x) { s with heap := g }) : wpAny (model prog w) A (Builtin.SmallTypes.nextOf (.ref it)) Q E s := by
 obtain ⟨o, e1, e2, e3⟩ := id hit
 obtain ⟨ot, et, _, nt, dt⟩ := ht
 unfold Builtin.SmallTypes.nextOf
 refine wpAny_bind (wpAny_callSpecial?_slot (name := Str.ofString "__next__") hit.typeIs PySem.F.slot_tuple_iterator_next (wpAny_call_entry PySem.F.slot_tuple_iterator_next hit.typeIs PySem.F.entry_tuple_iterator_next ?_ (PySem.F.args_tuple_iterator_next_1 _)))
 show wpAny _ _ (field (.ref it) 0 >>= _) _ _ s
 refine wpAny_bind (wpAny_field e1 e3 (x := .ref t) rfl ?_)
 show wpAny _ _ (if (Value.ref t == Value.none) = true then _ else _) _ _ s
 rw [if_neg (fun z => by cases (show false = true from z))]
 show wpAny _ _ (field (.ref it) 1 >>= _) _ _ s
 refine wpAny_bind (wpAny_field e1 e3 (x := .int i 0) rfl ?_)
 show wpAny _ _ (seqItems? (.ref t) >>= _) _ _ s
 refine wpAny_bind (wpAny_seqItems et dt ?_)
 simp only [Int.toNat_natCast, hv]
 refine wpAny_bind (wpAny_rule (wpAny_bind (wpAny_setField e1 e3 (by simp) ?_)))
 show wpAny _ _ (newExc (.type "StopIteration") [] >>= _) _ _ _
 refine wpAny_bind ?_
 simp only [newExc, newTuple]
 refine wpAny_bind (wpAny_newObj_type ?_ (by size_fits))
 refine wpAny_bind (m := firstArgMember _ _) (wpAny_of_eq (a := Value.none) (by first | rfl | (simp only [firstArgMember]; rfl)) ?_)
 refine wpAny_newObj_type ?_ (by size_fits)
 simp only [raiseNew]
 refine wpAny_bind (wpAny_handled ?_)
 first | rw [show A.in1.handled = none from hh] | rw [hh]
 exact wpAny_bind (wpAny_pure (wpAny_throw (k _ _ (((Heap.SameBut.update ..).extBut.push _).push _) ⟨_, Heap.get?_push_size _ rfl, rfl⟩)))
theorem enumT_item {e it t : Addr} {i : Nat} {its : Array Value} {v old : Value} {Q : Option Value → Shared → Prop} (he : IsEnum s.heap e it i old) (hit : s.heap.IsTupleIter it t i) (ht : s.heap.IsTuple t its) (hv : its[i]? = some v) (hne : e ≠ it)
  (k : ∀ g, IsEnumOut g e it ((i : Int) + 1) v s.heap.objs.size → g.IsTupleIter it t (i + 1) → g.get? s.heap.objs.size = some { cls := .type "tuple", data := .seq #[.int i s.toks, v] } → g.objs.size = s.heap.objs.size + 1 →
   (∀ b o, b ≠ e → b ≠ it → s.heap.get? b = some o → g.get? b = some o) → Q (some (.ref s.heap.objs.size)) { s with heap := g, toks := s.toks + 1 }) : wpAny (model prog w) A (pyNext (.ref e)) Q E s := by
 have hT : s.TypeIs (.ref e) "enumerate" := ⟨_, he, rfl⟩
 unfold pyNext
 refine wpAny_bind (wpAny_attempt (wpAny_callSpecial?_slot (name := Str.ofString "__next__") hT PySem.F.slot_enumerate_next (wpAny_call_entry PySem.F.slot_enumerate_next hT PySem.F.entry_enumerate_next ?_ (PySem.F.args_enumerate_next_1 _))))
 obtain ⟨hp, gs, d, tk, os⟩ := s
 show wpAny _ _ (field (.ref e) 2 >>= _) _ _ _
 refine wpAny_bind (wpAny_field he rfl (x := .ref it) rfl ?_)
 refine wpAny_bind (nextOf_tup hit ht hv fun g1 hit1 hs1 => ?_)
 replace hs1 : Heap.SameBut it hp g1 := hs1
 have he1 : IsEnum g1 e it i old := (hs1.2 e hne).trans he
 show wpAny _ _ (field (.ref e) 3 >>= _) _ _ ⟨g1, gs, d, tk, os⟩
 refine wpAny_bind (wpAny_field he1 rfl (x := rawInt i) rfl ?_)
 show wpAny _ _ (field (.ref e) 4 >>= _) _ _ ⟨g1, gs, d, tk, os⟩
 refine wpAny_bind (wpAny_field he1 rfl (x := .none) rfl ?_)
 show wpAny _ _ (mkInt i >>= _) _ _ ⟨g1, gs, d, tk, os⟩
 refine wpAny_bind (wpAny_mkInt ?_)
 show wpAny _ _ (setField (.ref e) 3 (rawInt ((i : Int) + 1)) >>= _) _ _ ⟨g1, gs, d, tk + 1, os⟩
 refine wpAny_bind (wpAny_setField_rec he1 (by simp) fun g2 he2 hs2 => ?_)
 replace hs2 : Heap.SameBut e g1 g2 := hs2
 replace he2 : IsEnum g2 e it ((i : Int) + 1) old := he2
 show wpAny _ _ (setField (.ref e) 4 .none >>= _) _ _ ⟨g2, gs, d, tk + 1, os⟩
 refine wpAny_bind (wpAny_setField_rec he2 (by simp) fun g3 he3 hs3 => ?_)
 replace hs3 : Heap.SameBut e g2 g3 := hs3
 replace he3 : IsEnum g3 e it ((i : Int) + 1) old := he3
 show wpAny _ _ (newTuple [.int i tk, v] >>= _) _ _ ⟨g3, gs, d, tk + 1, os⟩
 refine wpAny_bind (wpAny_newTuple ?_)
 have he4 : IsEnum (g3.push { cls := .type "tuple", data := .seq #[.int i tk, v] }) e it ((i : Int) + 1) old := Heap.get?_push_of_some _ he3
 generalize hh4 : g3.push { cls := .type "tuple", data := .seq #[.int i tk, v] } = g4 at he4
 have hsz : g3.objs.size = hp.objs.size := by rw [hs3.1, hs2.1, hs1.1]
 have hel : e < hp.objs.size := Heap.lt_size he
 have ht4 : g4.get? hp.objs.size = some { cls := .type "tuple", data := .seq #[.int i tk, v] } := by rw [← hh4, ← hsz]; exact Heap.get?_push_size _ rfl
 have hz4 : g4.objs.size = hp.objs.size + 1 := by rw [← hh4, Heap.size_push, hsz]
 have hk4 : ∀ b o, b ≠ e → b ≠ it → hp.get? b = some o → g4.get? b = some o := fun b o n1 n2 hb => by
  rw [← hh4]; exact Heap.get?_push_of_some _ (hs3.extBut b o n1 (hs2.extBut b o n1 (hs1.extBut b o n2 hb)))
 have hit4 : g4.IsTupleIter it t (i + 1) := by
  rw [← hh4]
  obtain ⟨o, ho, r⟩ := (hit1.extBut hs2.extBut (Ne.symm hne)).extBut hs3.extBut (Ne.symm hne)
  exact ⟨o, Heap.get?_push_of_some _ ho, r⟩
 show wpAny _ _ (Builtin.SmallTypes.ownedTupleIsFree (.ref e) >>= _) _ _ ⟨g4, gs, d, tk + 1, os⟩
 rw [hsz]
 clear hh4 he3 hs3 he2 hs2 he1 hs1 hit1 hsz g3 g2 g1
 refine wpAny_bind ?_
 unfold Builtin.SmallTypes.ownedTupleIsFree
 refine wpAny_bind (wpAny_field he4 rfl (x := .none) rfl (wpAny_pure ?_))
 simp only [if_true]
 refine wpAny_bind (wpAny_rule (wpAny_bind (wpAny_field he4 rfl (x := old) rfl (wpAny_bind (wpAny_setField_rec he4 (by simp) fun g5 he5 hs5 => ?_)))))
 replace hs5 : Heap.SameBut e g4 g5 := hs5
 replace he5 : IsEnum g5 e it ((i : Int) + 1) v := he5
 show wpAny _ _ (Builtin.SmallTypes.ownedTupleHandOut (.ref e) (.ref hp.objs.size) >>= _) _ _ ⟨g5, gs, d, tk + 1, os⟩
 refine wpAny_bind ?_
 unfold Builtin.SmallTypes.ownedTupleHandOut
 refine wpAny_bind (wpAny_setField_rec he5 (by simp) fun g6 he6 hs6 => ?_)
 replace hs6 : Heap.SameBut e g5 g6 := hs6
 replace he6 : IsEnumOut g6 e it ((i : Int) + 1) v hp.objs.size := he6
 refine wpAny_setField_rec he6 (by simp) fun g7 he7 hs7 => ?_
 replace hs7 : Heap.SameBut e g6 g7 := hs7
 replace he7 : IsEnumOut g7 e it ((i : Int) + 1) v hp.objs.size := he7
 refine wpAny_bind (wpAny_letGo (wpAny_pure ⟨_, rfl, wpAny_pure (k g7 he7 ?_ ?_ ?_ ?_)⟩))
 · exact ((hit4.extBut hs5.extBut (Ne.symm hne)).extBut hs6.extBut (Ne.symm hne)).extBut hs7.extBut (Ne.symm hne)
 · exact hs7.extBut _ _ (Nat.ne_of_gt hel) (hs6.extBut _ _ (Nat.ne_of_gt hel) (hs5.extBut _ _ (Nat.ne_of_gt hel) ht4))
 · rw [hs7.1, hs6.1, hs5.1, hz4]
 · exact fun b o n1 n2 hb => hs7.extBut b o n1 (hs6.extBut b o n1 (hs5.extBut b o n1 (hk4 b o n1 n2 hb)))
theorem enumT_end {e it t : Addr} {i : Nat} {its : Array Value} {old : Value} {Q : Option Value → Shared → Prop} (hh : A.handled = none) (he : IsEnum s.heap e it i old) (hit : s.heap.IsTupleIter it t i) (ht : s.heap.IsTuple t its) (hv : its[i]? = none)
  (k : ∀ g, Heap.ExtBut it s.heap g → Q none { s with heap := g }) : wpAny (model prog w) A (pyNext (.ref e)) Q E s := by
 have hT : s.TypeIs (.ref e) "enumerate" := ⟨_, he, rfl⟩
 unfold pyNext
 refine wpAny_bind (wpAny_attempt (wpAny_callSpecial?_slot (name := Str.ofString "__next__") hT PySem.F.slot_enumerate_next (wpAny_call_entry PySem.F.slot_enumerate_next hT PySem.F.entry_enumerate_next ?_ (PySem.F.args_enumerate_next_1 _))))
 show wpAny _ _ (field (.ref e) 2 >>= _) _ _ _
 refine wpAny_bind (wpAny_field he rfl (x := .ref it) rfl ?_)
 refine wpAny_bind (nextOf_tupEnd hh hit ht hv fun g x hx ⟨o, ho, hc⟩ => ?_)
 exact wpAny_bind (wpAny_isInstance (T := "StopIteration") (b := true) ⟨o, ho, hc⟩ isSubtype_stop (wpAny_pure (k _ hx)))
theorem newEnumT (t : Addr) (its : Array Value) (n : Nat) (dct : Option Addr) (sl : Array (Option Value)) :
  Meets (Builtin.«enumerate.__new__» ⟨[.type "enumerate", .ref t], []⟩) (fun _ R s => s.heap.get? t = some { cls := .type "tuple", dict := dct, data := .seq its n, slots := sl } ∧
   R (.ok (.ret (.ref (s.heap.push { cls := .type "tuple_iterator", data := .fields #[.ref t, .int 0 0] }).objs.size)))
     { s with heap := (s.heap.push { cls := .type "tuple_iterator", data := .fields #[.ref t, .int 0 0] }).push { cls := .type "enumerate", data := .fields #[.none, .bool false, .ref s.heap.objs.size, rawInt 0, .none, .none] } }) :=
 .of_wp fun prog w A R s h => by
  obtain ⟨hp, g, d, tk, os⟩ := s
  obtain ⟨hl, h⟩ := h
  have hsub := sub_enumerate
  have hL : Heap.IsTuple (Shared.heap ⟨hp, g, d, tk, os⟩) t its := ⟨_, hl, rfl, n, rfl⟩
  wp_walk using AutoSeq1.wpAny_loadPart' hl
  refine wpAny_stack_any fun st => wpAny_pure ?_
  split
  · rename_i c _ _ _ _ _
    cases (c == Value.type "enumerate")
    · wp_walk using AutoSeq1.wpAny_loadPart' hl, wpAny_pyIter_tuple hL
      exact ⟨_, rfl, h⟩
    · wp_walk using AutoSeq1.wpAny_loadPart' hl, wpAny_pyIter_tuple hL
      exact ⟨_, rfl, h⟩
  · wp_walk using AutoSeq1.wpAny_loadPart' hl, wpAny_pyIter_tuple hL
    exact ⟨_, rfl, h⟩
theorem call_enumT {t : Addr} {its : Array Value} {Q : Value → Shared → Prop} (ht : s.heap.IsTuple t its)
  (k : ∀ g, IsEnum g (s.heap.objs.size + 1) s.heap.objs.size 0 .none → g.IsTupleIter s.heap.objs.size t 0 → g.objs.size = s.heap.objs.size + 2 → (∀ b o, s.heap.get? b = some o → g.get? b = some o) → Q (.ref (s.heap.objs.size + 1)) { s with heap := g }) :
  wpAny (model prog w) A (call (.type "enumerate") [.ref t]) Q E s := by
 obtain ⟨⟨c, dct, dt, sl⟩, hl, hc, n, hd⟩ := ht
 replace hc : c = .type "tuple" := hc
 replace hd : dt = .seq its n := hd
 subst hc hd
 refine callType_new PySem.F.called_enumerate (by decide) (PySem.F.typeCall_enumerate_1 _) (PySem.F.newCall_enumerate_1 _) (fun obj => PySem.F.args_object_init_2 obj _) PySem.F.entry_enumerate_new (newEnumT t its n dct sl) ⟨hl, ?_⟩
 have hz : (s.heap.push { cls := .type "tuple_iterator", data := .fields #[.ref t, .int 0 0] }).objs.size = s.heap.objs.size + 1 := Heap.size_push ..
 show _ ∧ _
 rw [hz]
 have he : IsEnum ((s.heap.push { cls := .type "tuple_iterator", data := .fields #[.ref t, .int 0 0] }).push { cls := .type "enumerate", data := .fields #[.none, .bool false, .ref s.heap.objs.size, rawInt 0, .none, .none] }) (s.heap.objs.size + 1) s.heap.objs.size 0 .none := by
  have q := Heap.get?_push_size (s.heap.push { cls := .type "tuple_iterator", data := .fields #[.ref t, .int 0 0] }) (o := { cls := .type "enumerate", data := .fields #[.none, .bool false, .ref s.heap.objs.size, rawInt 0, .none, .none] }) rfl
  rw [hz] at q
  exact q
 refine ⟨⟨_, he, rfl⟩, k _ he ⟨_, Heap.get?_push_of_some _ (Heap.get?_push_size _ rfl), rfl, rfl⟩ (by rw [Heap.size_push, hz]) fun b o e => Heap.get?_push_of_some _ (Heap.get?_push_of_some _ e)⟩
end
noncomputable def Ite (K : PySem.W.Frag) (a : Addr) : It :=
 ⟨fun i H => ∃ xs x, SqT K H a xs ∧ xs[i]? = some x, fun i H x H' => ∃ p y, x = .ref p ∧ H p = none ∧ H' = upd H p (.tup [.int i, y]) ∧ ∀ xs, SqT K H a xs → xs[i]? = some y, fun i H => ∃ xs, SqT K H a xs ∧ xs.length ≤ i⟩
theorem turn_enum {P : Program} {w : World} {K : PySem.W.Frag} {elts : List Expr} {k1} {pos : Pos} (a e it : Addr) (hne : e ≠ it) (hb : sizeLine ≥ 2) :
  Turn P w K (.Tuple elts k1 pos) (Ite K a) [e, it] e (fun i h => (∃ old, IsEnum h e it i old) ∧ h.IsTupleIter it a i) where
 mem := by simp
 obj := fun i h st b hb => by
  obtain ⟨⟨old, he⟩, hi⟩ := st
  rcases List.mem_cons.mp hb with z | z
  · rw [z]
    exact ⟨_, he, fun v q => by
     have q' : Data.fields _ = Data.cell v := q
     cases q'⟩
  · have z : b = it := by simpa using z
    rw [z]
    obtain ⟨o, e1, c, d⟩ := hi
    exact ⟨o, e1, fun v q => by rw [d] at q; cases q⟩
 keep := fun i h h' st k => by
  obtain ⟨⟨old, he⟩, o, e1, r⟩ := st
  exact ⟨⟨old, k e (by simp) _ he⟩, o, k it (by simp) o e1, r⟩
 item := by
  intro X hP hw hK hc i pins s σ H E I hf st hg
  subst hP hw hK
  obtain ⟨xs, x, hq, hx⟩ := hg
  obtain ⟨its, rv, p, hz⟩ := I.tuple hq
  obtain ⟨u, hu, ru⟩ := rv.get hx
  obtain ⟨⟨old, he⟩, hi⟩ := st
  obtain ⟨f0, f1, f2, f3, f4, f5⟩ := hf e (by simp)
  obtain ⟨g0, g1, g2, g3, g4, g5⟩ := hf it (by simp)
  refine enumT_item he hi (show s.heap.IsTuple a its.toArray from p) (v := u) (by simpa using hu) hne fun g ho hi' hT hsz hk => ?_
  refine ⟨.ref s.heap.objs.size, rfl, wpAny_letOwnedTupleGo_enum ho fun g' he' hs' => ?_⟩
  have hTe : s.heap.objs.size ≠ e := Nat.ne_of_gt (Heap.lt_size he)
  have hTi : s.heap.objs.size ≠ it := by
   obtain ⟨o, e1, _⟩ := hi
   exact Nat.ne_of_gt (Heap.lt_size e1)
  have hk' : ∀ b o, b ≠ e → b ≠ it → s.heap.get? b = some o → g'.get? b = some o := fun b o n1 n2 z => (hs'.2 b n1).trans (hk b o n1 n2 z)
  have hT' : g'.get? s.heap.objs.size = some { cls := .type "tuple", data := .seq #[.int i s.toks, u] } := (hs'.2 _ hTe).trans hT
  have hfr : H s.heap.objs.size = none := I.hok.fresh (Nat.le_refl _)
  have old1 : ∀ b o, H b = some o → b ≠ e ∧ b ≠ it := fun b o z => ⟨(fun q => by rw [q, f0] at z; cases z), (fun q => by rw [q, g0] at z; cases z)⟩
  have I1 : Inv X pins σ (upd H s.heap.objs.size (.tup [.int i, x])) { s with heap := g', toks := s.toks + 1 } := by
   refine I.step (g' := s.gens) (d' := s.drawn) (ch := [e, it]) (fun b hb => ?_) (fun b o n1 n2 n3 z _ => hk' b o (fun q => n3 (by simp [q])) (fun q => n3 (by simp [q])) z)
    (fun b o n1 n2 n3 z _ => ⟨o.slots, hk' b o (fun q => n3 (by simp [q])) (fun q => n3 (by simp [q])) z⟩) (fun b o n3 z n => ?_) (fun b o n3 z => ⟨o, hk' b o (fun q => n3 (by simp [q])) (fun q => n3 (by simp [q])) z⟩)
    (fun b ys z => by rw [upd_ne (ne_of_none z hfr)]; exact z) (fun b o ys z => by rw [upd_ne (ne_of_none z hfr)]; exact z) (fun b ps z => ⟨#[], by rw [upd_ne (ne_of_none z hfr), z]; simp⟩) (fun m hm => ?_) (fun b ob z => ?_) I.bare
   · rcases List.mem_cons.mp hb with q | q
     · rw [q]; exact ⟨f3, f1, f4, f5⟩
     · have q : b = it := by simpa using q
       rw [q]; exact ⟨g3, g1, g4, g5⟩
   · rw [upd_ne (Nat.ne_of_lt (Heap.lt_size z))]; exact n
   · obtain ⟨o, es, ep, hoo, r⟩ := hm
     exact ⟨o, es, ep, hk' _ o (Ne.symm f1) (Ne.symm g1) hoo, r⟩
   · by_cases hb : b = s.heap.objs.size
     · subst hb
       rw [upd_same] at z
       cases z
       exact ⟨by show 2 ≤ sizeLine; omega, [.int i s.toks, u], .cons ⟨_, rfl⟩ (.cons ru .nil), ⟨_, hT', rfl, _, rfl⟩, fun q hq => by
        have hq : g'.get? s.heap.objs.size = some q := hq
        rw [hT'] at hq
        cases hq
        rfl⟩
     · rw [upd_ne hb] at z
       refine (I.hok b ob z).stay (fun c v hc q => ?_) (fun c q => by rw [upd_ne (ne_of_none q hfr)]; exact q) fun c ys q => by rw [upd_ne (ne_of_none q hfr)]; exact q
       rcases hc with rfl | hc
       · exact hk' c v (old1 c _ z).1 (old1 c _ z).2 q
       · exact hk' c v (old1 c _ hc).1 (old1 c _ hc).2 q
  refine ⟨.ref s.heap.objs.size, _, I1, rfl, ⟨_, x, rfl, hfr, rfl, fun ys hy => by rw [I.tuple_inj hy hq]; exact hx⟩, ⟨⟨u, by simpa using he'⟩, ?_⟩, fun b hb => ?_⟩
  · obtain ⟨o, e1, r⟩ := hi'
    exact ⟨o, (hs'.2 it (Ne.symm hne)).trans e1, r⟩
  · rcases List.mem_cons.mp hb with q | q
    · rw [q, upd_ne (Ne.symm hTe)]; exact f0
    · have q : b = it := by simpa using q
      rw [q, upd_ne (Ne.symm hTi)]; exact g0
 done := by
  intro X hP hw hK hc i pins s σ H E I hf st hg
  subst hP hw hK
  obtain ⟨xs, hq, hx⟩ := hg
  obtain ⟨its, rv, p, hz⟩ := I.tuple hq
  obtain ⟨⟨old, he⟩, hi⟩ := st
  obtain ⟨g0, g1, g2, g3, g4, g5⟩ := hf it (by simp)
  have hl := rv.length
  exact enumT_end (I.ok.hd hc) he hi (show s.heap.IsTuple a its.toArray from p) (by simp; omega) fun g eb => ⟨rfl, I.turned (t' := s.toks) (fun b o hb z => eb b o hb z) g0 g1 g3 g4 g5⟩
 self := fun _ _ _ _ _ st h => by
  obtain ⟨⟨old, he⟩, _⟩ := st
  exact wpAny_pyIter_enum he h
section
variable {X : Cx}
noncomputable def iEnum (K : PySem.W.Frag) (ta : TA) : TI := fun σ H R => ta σ H fun vs H1 => ∃ a xs, vs = [.ref a] ∧ SqT K H1 a xs ∧ R (Ite K a) H1
theorem pi_enum {elts : List Expr} {k1} {tpos : Pos} {a : Expr} {ta : TA} {p pos : Pos} (hg : Gl X "enumerate") (hm : X.mg "enumerate" = none) (ha : PA X [a] ta) (hs : starEach [a] X.env = [(false, eval a X.env)] := by rfl) :
  PI X (.Tuple elts k1 tpos) (.Call (.Name "enumerate" p) [a] [] pos) (iEnum X.K ta) := by
 intro pins s σ H R I h
 refine Call_ (ld_blt I hg hm boot_enumerate (PyProof.Rows.callWith_type1 (thn (ha pos pins s σ H _ I h) fun us s1 ⟨vs, H1, I1, r1, q1⟩ => ?_) hs rfl))
 obtain ⟨t, xs, e, hq, q⟩ := q1
 subst e
 obtain ⟨u, rfl, ru⟩ := vals1 r1
 cases ru
 obtain ⟨its, rv, pt, hz⟩ := I1.tuple hq
 refine call_enumT (show s1.heap.IsTuple t its.toArray from pt) fun g he hi hsz hk => ?_
 refine wpAny_pyIter_enum he ?_
 have hlt : t < s1.heap.objs.size := by obtain ⟨o, e1, _⟩ := pt; exact Heap.lt_size e1
 refine ⟨s1.heap.objs.size + 1, [s1.heap.objs.size + 1, s1.heap.objs.size], _, _, H1, rfl, I1.kept (t' := s1.toks) hk, turn_enum t (s1.heap.objs.size + 1) s1.heap.objs.size (Nat.succ_ne_self _) (by rw [sizeLine_eq]; omega), ⟨⟨_, he⟩, hi⟩, fun b hb => ?_, q⟩
 rcases List.mem_cons.mp hb with z | z
 · rw [z]; exact I1.fpOk (Nat.le_succ _) (I1.hok.fresh (Nat.le_succ _))
 · have z : b = s1.heap.objs.size := by simpa using z
   rw [z]; exact I1.fpOk (Nat.le_refl _) (I1.hok.fresh (Nat.le_refl _))
end
theorem for_enum {K : PySem.W.Frag} {a : Addr} {xs : List V} {g : TG} {tb : TS} {D : Ends} {σ : St} {H : Hp} (Pv : Nat → St → Hp → Prop) (h0 : Pv 0 σ H) (hl : ∀ i σ H, i ≤ xs.length → Pv i σ H → SqT K H a xs)
  (hs : ∀ i x σ H p, xs[i]? = some x → Pv i σ H → H p = none → g (.ref p) σ (upd H p (.tup [.int i, x])) fun σ2 H2 => tb { D with nx := Pv (i + 1), ct := Pv (i + 1), bk := D.nx } σ2 H2) (hd : ∀ σ H, Pv xs.length σ H → D.nx σ H) :
  ∃ W : Nat → Nat → St → Hp → Prop, (∃ m, W 0 m σ H) ∧ ∀ i m σ H, W i m σ H →
    ((Ite K a).stop i H ∧ D.nx σ H) ∨ ((Ite K a).go i H ∧ ∃ N : St → Hp → Prop, (∀ σ' H', N σ' H' → ∃ m', m' < m ∧ W (i + 1) m' σ' H') ∧ ∀ x H', (Ite K a).yld i H x H' → g x σ H' fun σ2 H2 => tb { D with nx := N, ct := N, bk := D.nx } σ2 H2) := by
 refine ⟨fun i m σ H => m = xs.length - i ∧ i ≤ xs.length ∧ Pv i σ H, ⟨xs.length, by simp, Nat.zero_le _, h0⟩, ?_⟩
 rintro i m σ H ⟨rfl, hi, p⟩
 have q := hl i σ H hi p
 by_cases hlt : i < xs.length
 · refine .inr ⟨⟨xs, xs[i], q, by simp [hlt]⟩, Pv (i + 1), fun σ' H' p' => ⟨xs.length - (i + 1), by omega, rfl, hlt, p'⟩, fun x H' y => ?_⟩
   obtain ⟨p', y', rfl, hn, rfl, hy⟩ := y
   exact hs i y' σ H p' (hy xs q) p hn
 · have e : i = xs.length := by omega
   subst e
   exact .inl ⟨⟨xs, q, Nat.le_refl _⟩, hd σ H p⟩
noncomputable def Itd (lo : Int) (n : Nat) : It := ⟨fun i _ => i < n, fun i H x H' => H' = H ∧ x = .int (lo - i), fun i _ => n ≤ i⟩
theorem turn_down {P : Program} {w : World} {K : PySem.W.Frag} {tg : Expr} (it : Addr) (lo : Int) (n : Nat) : Turn P w K tg (Itd lo n) [it] it (fun i h => IsRangeIter h it (lo + (i : Nat) * (-1)) ((n : Int) - (i : Nat)) (-1)) where
 mem := by simp
 obj := fun i h st b hb => by
  have e : b = it := by simpa using hb
  subst e
  exact ⟨_, st, fun v z => by
   have z' : Data.fields _ = Data.cell v := z
   cases z'⟩
 keep := fun i h h' st k => k it (by simp) _ st
 item := by
  intro X hP hw hK hc i pins s σ H E I hf st hg
  subst hP hw hK
  obtain ⟨f0, f1, f2, f3, f4, f5⟩ := hf it (by simp)
  refine (Walks.range (prog := X.prog) (w := X.w) (I.ok.hd hc) it lo (-1) n).item i s _ _ hg st fun v h' tk hv st' kk => ?_
  obtain ⟨t, rfl⟩ := hv
  have I1 : Inv X pins σ H { s with heap := h', toks := tk } := I.turned (fun b o hb e => kk b o (by simpa using hb) e) f0 f1 f3 f4 f5
  refine ⟨_, rfl, go_of (s := { s with heap := h', toks := tk }) (n := "range_iterator") st' rfl rfl (by decide) ⟨.int (lo - i), H, I1, ⟨t, ?_⟩, ⟨rfl, rfl⟩, st', fun b hb => (hf b hb).1⟩⟩
  congr 1
  omega
 done := by
  intro X hP hw hK hc i pins s σ H E I hf st hg
  subst hP hw hK
  obtain ⟨f0, f1, f2, f3, f4, f5⟩ := hf it (by simp)
  exact wpAny_pyNext_range_end (I.ok.hd hc) st (by have : n ≤ i := hg; omega) fun h' eb => ⟨rfl, I.turned (t' := s.toks) (fun b o hb e => eb b o hb e) f0 f1 f3 f4 f5⟩
 self := fun _ _ _ _ _ st h => wpAny_pyIter_rangeiter st h
section
variable {X : Cx} {tg : Expr}
noncomputable def iDown (ta : TA) : TI := fun σ H R => ta σ H fun vs H1 => ∃ n : Nat, vs = [.int ((n : Int) - 1), .int (-1), .int (-1)] ∧ (n : Int) < 2 ^ 62 ∧ R (Itd ((n : Int) - 1) n) H1
theorem pi_down {a b c : Expr} {ta : TA} {p pos : Pos} (hg : Gl X "range") (hm : X.mg "range" = none) (ha : PA X [a, b, c] ta) (hs : starEach [a, b, c] X.env = [(false, eval a X.env), (false, eval b X.env), (false, eval c X.env)] := by rfl)
  (hs2 : starEach [b, c] X.env = [(false, eval b X.env), (false, eval c X.env)] := by rfl) :
  PI X tg (.Call (.Name "range" p) [a, b, c] [] pos) (iDown ta) := by
 intro pins s σ H R I h
 refine Call_ (ld_blt I hg hm boot_range (PyProof.Rows.callWith_type1 (thn (ha pos pins s σ H _ I h) fun us s1 ⟨vs, H1, I1, r1, q1⟩ => ?_) (by rw [hs, hs2]) (by rw [hs2]; rfl)))
 obtain ⟨n, e, hn, q⟩ := q1
 subst e
 cases r1 with
 | cons r rr =>
   cases rr with
   | cons r' rr =>
     cases rr with
     | cons r'' rr =>
       cases rr
       obtain ⟨t, rfl⟩ := r
       obtain ⟨t', rfl⟩ := r'
       obtain ⟨t'', rfl⟩ := r''
       refine call_range_3 (by decide) ?_ (.inl (PyProof.noPylong_small (by omega)))
       have sz : Builtin.Range.rangeSize ((n : Int) - 1) (-1) (-1) = n := by
        unfold Builtin.Range.rangeSize
        rw [if_neg (by decide)]
        rw [show (-(-1 : Int)) = 1 from rfl, Int.ediv_one]
        split
        · omega
        · omega
       have sm : Builtin.Range.small ((n : Int) - 1) (-1) (-1) = true := by
        unfold Builtin.Range.small
        simp only [sz, Builtin.Range.rangeFitsLong, Bool.and_eq_true, Bool.or_eq_true, decide_eq_true_eq, beq_iff_eq]
        exact ⟨⟨⟨⟨by omega, by decide⟩, by decide⟩, by omega⟩, .inr (by decide)⟩
       refine wpAny_pyIter_range (IsRange.new ..) sm ?_
       rw [sz]
       have I2 : Inv X pins σ H1 { s1 with heap := s1.heap.push { cls := .type "range", data := .fields #[.int ((n : Int) - 1) t, .int (-1) t', .int (-1) t''] }, toks := s1.toks } := I1.kept fun b o e => Heap.get?_push_of_some _ e
       refine ⟨_, [_], _, _, H1, rfl, I2.kept (t' := s1.toks) fun b o e => Heap.get?_push_of_some _ e, turn_down _ ((n : Int) - 1) n, ?_, fun b hb => ?_, q⟩
       · have e1 : (n : Int) - 1 + ((0 : Nat) : Int) * (-1) = (n : Int) - 1 := by omega
         have e2 : (n : Int) - ((0 : Nat) : Int) = n := by omega
         show IsRangeIter _ _ ((n : Int) - 1 + ((0 : Nat) : Int) * (-1)) ((n : Int) - ((0 : Nat) : Int)) (-1)
         rw [e1, e2]
         exact Heap.get?_push_size _ rfl
       · have e := List.mem_singleton.mp hb
         rw [e]
         exact I2.fpOk (Nat.le_refl _) (I2.hok.fresh (Nat.le_refl _))
end
theorem for_down {lo : Int} {n : Nat} {g : TG} {tb : TS} {D : Ends} {σ : St} {H : Hp} (Pv : Nat → St → Hp → Prop) (h0 : Pv 0 σ H)
  (hs : ∀ i σ H, i < n → Pv i σ H → g (.int (lo - i)) σ H fun σ2 H2 => tb { D with nx := Pv (i + 1), ct := Pv (i + 1), bk := D.nx } σ2 H2) (hd : ∀ σ H, Pv n σ H → D.nx σ H) :
  ∃ W : Nat → Nat → St → Hp → Prop, (∃ m, W 0 m σ H) ∧ ∀ i m σ H, W i m σ H →
    ((Itd lo n).stop i H ∧ D.nx σ H) ∨ ((Itd lo n).go i H ∧ ∃ N : St → Hp → Prop, (∀ σ' H', N σ' H' → ∃ m', m' < m ∧ W (i + 1) m' σ' H') ∧ ∀ x H', (Itd lo n).yld i H x H' → g x σ H' fun σ2 H2 => tb { D with nx := N, ct := N, bk := D.nx } σ2 H2) := by
 refine ⟨fun i m σ H => m = n - i ∧ i ≤ n ∧ Pv i σ H, ⟨n, by simp, Nat.zero_le _, h0⟩, ?_⟩
 rintro i m σ H ⟨rfl, hi, p⟩
 by_cases hlt : i < n
 · refine .inr ⟨hlt, Pv (i + 1), fun σ' H' p' => ⟨n - (i + 1), by omega, rfl, hlt, p'⟩, fun x H' y => ?_⟩
   obtain ⟨e, y⟩ := y
   subst e y
   exact hs i σ _ hlt p
 · have e : i = n := by omega
   subst e
   exact .inl ⟨Nat.le_refl _, hd σ H p⟩
theorem entry_dul : entryFor table "dict.update.loop" = some Builtin.«dict.update.loop» := entryFor_of_tree (by kernel_rfl)
theorem plain_dul : plainId "dict.update.loop" = true := by decide +kernel
theorem miss_keys : typeLookup (.type "tuple") "keys" = pure none := am_miss_of_fast (by decide +kernel)
section
variable {prog : Program} {w : World} {A : Around} {E : Value → Shared → Prop} {s : Shared}
set_option maxRecDepth 8000 in
theorem tup_noKeysBy {a : Addr} {xs : Array Value} {k : Nat} {sl : Array (Option Value)} {u : Tok} {Q : Value → Shared → Prop} (hx : s.heap.get? a = some { cls := .type "tuple", dict := none, data := .seq xs k, slots := sl }) (hA : A.handled = none)
  (h : ∀ h' tk e, Heap.NewExcOf s.heap h' e "AttributeError" → E (.ref e) { s with heap := h', toks := tk }) : wpAny (model prog w) A (getAttrBy (.ref a) (.str "keys" u) false) Q E s := by
 obtain ⟨hp, g, d, tk, os⟩ := s
 have hT : ∀ tk', (⟨hp, g, d, tk', os⟩ : Shared).TypeIs (.ref a) "tuple" := fun _ => ⟨_, hx, rfl⟩
 have f1 := sub_AttributeError
 have f3 := PySem.F.slot_tuple_getattribute.lookup
 have f4 := PySem.F.slot_tuple_getattribute.bind (.ref a)
 have f5 := am_tuple_getattr_none
 unfold getAttrBy
 repeat (any_goals (first | assumption | exact hT _ | ((with_reducible show wpAny _ _ (call (Value.builtin "tuple.__getattribute__") _ _) _ _ _); refine call_meets PySem.F.slot_tuple_getattribute (hT _) am_entry_tuple_getattribute (PySem.F.args_tuple_getattribute_2 _ _) (meets_getattribute_miss_tuple a xs k sl "keys" _ miss_keys (by decide +kernel) (by size_fits)) ⟨hx, hA, fun h' tk' e hx' => ?_⟩) | wp_step))
 obtain ⟨t', u', he⟩ := hx'.there
 show wpAny _ _ (getattributeRaised _ _ _ _ _ _ _) _ _ _
 unfold getattributeRaised
 repeat (any_goals (first | assumption | wp_step))
 exact h _ _ _ hx'.of
theorem tup_noKeys {a : Addr} {xs : Array Value} {k : Nat} {sl : Array (Option Value)} {Q : Option Value → Shared → Prop} (hx : s.heap.get? a = some { cls := .type "tuple", dict := none, data := .seq xs k, slots := sl }) (hA : A.handled = none)
  (h : ∀ h' tk, (∀ b o, s.heap.get? b = some o → h'.get? b = some o) → Q none { s with heap := h', toks := tk }) : wpAny (model prog w) A (getAttr? (.ref a) "keys") Q E s := by
 unfold getAttr? getAttrBy?
 refine wpAny_bind (wpAny_mkText ?_)
 refine wpAny_bind (wpAny_attempt (tup_noKeysBy (s := { s with toks := s.toks + 1 }) hx hA fun h' tk e x => ?_))
 obtain ⟨c, r, he, hc, _⟩ := x.there
 refine wpAny_bind (wpAny_isInstance (T := "AttributeError") (b := true) ⟨_, he, hc⟩ sub_AttributeError ?_)
 exact wpAny_pure (h _ _ x.keeps)
end
section
variable {prog : Program} {w : World} {A : Around} {R : Result → Shared → Prop}
noncomputable def PairAt (prog : Program) (w : World) (h : Heap) (v : Value) (kv : Key × Value) : Prop := ∃ b key, v = .ref b ∧ h.IsTuple b #[key, kv.2] ∧ (mixKind prog w).is kv.1 key = true
theorem dictLoop {d it t : Addr} {its : Array Value} {rows : List (Key × Value)} (hh : A.handled = none) (hn1 : d ≠ it) (hn2 : t ≠ it) (hn3 : t ≠ d) (hl : its.size = rows.length) (hlz : rows.length ≤ sizeLine) :
  ∀ (k i : Nat) (s : Shared) (kvs : List (Key × Value)), rows.length - i = k → i ≤ rows.length → kvs.length ≤ i → s.heap.IsTupleIter it t i → s.heap.IsTuple t its → s.heap.DictOf (mixKind prog w) d kvs →
    (∀ (j : Nat) v kv, its[j]? = some v → rows[j]? = some kv → ∃ b, v = .ref b ∧ b ≠ d ∧ b ≠ it ∧ PairAt prog w s.heap v kv) →
    (∀ h' tk, h'.DictOf (mixKind prog w) d (merged kvs (rows.drop i)) → (∀ b o, b ≠ d → b ≠ it → s.heap.get? b = some o → h'.get? b = some o) → R (.ok (.ret .none)) { s with heap := h', toks := tk }) →
    codeAny (model prog w) A (.builtin "dict.update.loop" ⟨[.ref d, .ref it, rawInt i, .none], []⟩) R s := by
 intro k
 induction k with
 | zero =>
   intro i s kvs hk hi hz hit ht hd hp hR
   have e : i = rows.length := by omega
   refine codeAny_builtin entry_dul ?_
   rw [Around.under_plainId plain_dul _]
   show wpAny _ A.in1 (pyNext (.ref it) >>= _) _ _ s
   refine wpAny_bind (wpAny_pyNext_tuple_end (show A.in1.handled = none from hh) hit ht (Array.getElem?_eq_none (by omega)) fun h' eb => ?_)
   show wpAny _ A.in1 (Builtin.Dict.addKeywords d [] >>= _) _ _ _
   refine wpAny_bind (wpAny_pure ?_)
   refine wpAny_pure ?_
   refine hR h' s.toks ?_ fun b o n1 n2 z => eb b o n2 z
   rw [e, List.drop_length]
   show h'.DictOf (mixKind prog w) d kvs
   obtain ⟨o, es, ep, ho, r⟩ := hd
   exact ⟨o, es, ep, eb d o hn1 ho, r⟩
 | succ k ih =>
   intro i s kvs hk hi hz hit ht hd hp hR
   have hlt : i < rows.length := by omega
   have hx : its[i]? = some its[i] := Array.getElem?_eq_getElem (by omega)
   have hr : rows[i]? = some rows[i] := List.getElem?_eq_getElem hlt
   obtain ⟨b, hb, nbd, nbi, b', key, hb', hbt, hkey⟩ := hp i _ _ hx hr
   rw [hb] at hb'
   cases hb'
   refine codeAny_builtin entry_dul ?_
   rw [Around.under_plainId plain_dul _]
   show wpAny _ A.in1 (pyNext (.ref it) >>= _) _ _ s
   refine wpAny_bind (wpAny_pyNext_tuple_item hit ht hx fun g hit' hs => ?_)
   have hbt' : g.IsTuple b #[key, rows[i].2] := hbt.extBut hs.extBut nbi
   have hd' : g.DictOf (mixKind prog w) d kvs := by
    obtain ⟨o, es, ep, ho, r⟩ := hd
    exact ⟨o, es, ep, hs.extBut d o hn1 ho, r⟩
   rw [hb]
   show wpAny _ A.in1 (holding [Value.ref b] _ >>= _) _ _ _
   refine wpAny_bind (wpAny_holding ?_)
   refine wpAny_bind (wpAny_tryCatch ?_)
   unfold Builtin.Dict.pairItems
   refine wpAny_bind (wpAny_typeOf (T := "tuple") (Heap.IsTuple.typeIs (s := { s with heap := g }) hbt') ?_)
   rw [if_pos (by rfl)]
   obtain ⟨ob, hob, _, nb, hdb⟩ := hbt'
   refine wpAny_bind (wpAny_seqItems (s := { s with heap := g }) hob hdb ?_)
   refine wpAny_pure ?_
   show wpAny _ A.in1 (holding [key, rows[i].2] (dictSet d key rows[i].2)) _ _ _
   refine wpAny_holding (wpAny_dictSet_pairs (knd := mixKind prog w) hkey hd' (fun g2 hd2 hs2 => ?_) (Nat.le_trans (Nat.le_of_lt (Nat.lt_of_le_of_lt hz hlt)) hlz))
   refine wpAny_pure ⟨plainId_quiet plain_dul _, ?_⟩
   have e1 : rawInt ((i : Int) + 1) = rawInt ((i + 1 : Nat) : Int) := by simp
   have keep : ∀ c o, c ≠ d → c ≠ it → s.heap.get? c = some o → g2.get? c = some o := fun c o n1 n2 z => hs2.extBut c o n1 (hs.extBut c o n2 z)
   show codeAny (model prog w) A (.builtin "dict.update.loop" ⟨[.ref d, .ref it, rawInt ((i : Int) + 1), .none], []⟩) R _
   rw [e1]
   refine ih (i + 1) _ _ (by omega) hlt ?_ (hit'.extBut hs2.extBut (Ne.symm hn1)) (ht.extBut hs.extBut hn2 |>.extBut hs2.extBut hn3) hd2 (fun j v kv hv hkv => ?_) fun h' tk hD hk' => ?_
   · unfold stored
     split
     · rw [List.length_map]; omega
     · rw [List.length_append, List.length_singleton]; omega
   · obtain ⟨c, hc, n1, n2, c', key', hc', hct, hkk⟩ := hp j v kv hv hkv
     refine ⟨c, hc, n1, n2, c', key', hc', ?_, hkk⟩
     rw [hc] at hc'
     cases hc'
     exact (hct.extBut hs.extBut n2).extBut hs2.extBut n1
   · refine hR h' tk ?_ fun c o n1 n2 z => hk' c o n1 n2 (keep c o n1 n2 z)
     have e2 : rows.drop i = rows[i] :: rows.drop (i + 1) := List.drop_eq_getElem_cons hlt
     rw [e2]
     exact hD
end
section
variable {X : Cx}
noncomputable def rDictP : List V → Hp → VK → Prop := fun xs H Q => ∃ (a : Addr) (bs : List Addr) (kvs : List (Key × V)), xs = [.ref a] ∧ H a = some (.tup (bs.map V.ref)) ∧ Paired (fun (b : Addr) (kv : Key × V) => H b = some (.tup [kV kv.1, kv.2])) bs kvs ∧
 ∀ p, H p = none → Q (.ref p) (upd H p (.dK (mergeK [] kvs)))
theorem call_dictP (hc : X.calm = true) : CallR X (.type "dict") rDictP := by
 intro pins s σ H xs us Q I r h
 obtain ⟨a, bs, kvs, rfl, ha, hbs, q⟩ := h
 obtain ⟨u, rfl, rx⟩ := vals1 r
 cases rx
 obtain ⟨hz, its, rv, ⟨⟨cc, cd, cdt, csl⟩, h1, h2, n, h3⟩, nd⟩ := (show ObjOk X.prog X.w H s.heap a (.tup (bs.map V.ref)) from I.hok a _ ha)
 have h4 := nd _ h1
 dsimp only at h2 h3 h4
 subst h2 h3 h4
 have hh : X.A.handled = none := I.ok.hd hc
 have rowsOf : ∀ (bs : List Addr) (kvs : List (Key × V)), Paired (fun (b : Addr) (kv : Key × V) => H b = some (.tup [kV kv.1, kv.2])) bs kvs → ∃ rows : List (Key × Value), KV kvs rows ∧ rows.length = bs.length ∧
   ∀ (j : Nat) b kv, bs[j]? = some b → rows[j]? = some kv → PairAt X.prog X.w s.heap (.ref b) kv ∧ H b ≠ none := by
  intro bs kvs hp
  induction hp with
  | nil => exact ⟨[], .nil, rfl, fun j b kv hb => by simp at hb⟩
  | @cons b kv bs kvs hb _ ih =>
    obtain ⟨rows, rk, hl, hr⟩ := ih
    obtain ⟨_, its2, rv2, ht2, _⟩ := (show ObjOk X.prog X.w H s.heap b (.tup [kV kv.1, kv.2]) from I.hok b _ hb)
    cases rv2 with
    | @cons _ kq _ _ r1 r2 =>
      cases r2 with
      | @cons _ vq _ _ r3 r4 =>
        cases r4
        refine ⟨(kv.1, vq) :: rows, .cons ⟨rfl, r3⟩ rk, by simp [hl], fun j b' kv' e1 e2 => ?_⟩
        cases j with
        | zero =>
          simp at e1 e2
          subst e1 e2
          exact ⟨⟨b, kq, rfl, ht2, kV_is r1⟩, by rw [hb]; simp⟩
        | succ j => exact hr j b' kv' (by simpa using e1) (by simpa using e2)
 obtain ⟨rows, rk, hrl, hrows⟩ := rowsOf bs kvs hbs
 have hitsl : its.length = bs.length := by have := rv.length; rw [List.length_map] at this; omega
 have hzb : bs.length ≤ sizeLine := by rw [List.length_map] at hz; exact hz
 refine callType_codes (Q₁ := fun obj s₁ => obj = .ref s.heap.objs.size ∧ s₁ = { s with heap := s.heap.push { cls := .type "dict", data := .dict #[] } }) PySem.F.kt_called_dict (PySem.F.kt_typeCall_dict_1 _) PySem.F.entry_dict_init (kt_code_dict_new _ ⟨rfl, rfl⟩) ?_
 rintro obj s₁ ⟨rfl, rfl⟩
 have hnew : (s.heap.push { cls := .type "dict", data := .dict #[] }).DictOf (mixKind X.prog X.w) s.heap.objs.size [] := Heap.DictOf.new s.heap
 have h1' : (s.heap.push { cls := .type "dict", data := .dict #[] }).get? a = some { cls := .type "tuple", dict := none, data := .seq its.toArray n, slots := csl } := Heap.get?_push_of_some _ h1
 have hlt : a < s.heap.objs.size := Heap.lt_size h1
 refine ⟨hnew.typeIs, PySem.F.args_dict_init_2 _ _, ?_⟩
 unfold Builtin.«dict.__init__»
 refine wpAny_bind ?_
 unfold Builtin.Dict.selfAndRest
 refine wpAny_bind (wpAny_notOrdered_dict hnew.typeIs ?_)
 show wpAny _ _ (pure (s.heap.objs.size, [Value.ref a])) _ _ _
 refine wpAny_pure ?_
 show wpAny _ _ (Builtin.Dict.updateFrom "dict.__init__" s.heap.objs.size (.ref a) [] .none) _ _ _
 unfold Builtin.Dict.updateFrom
 refine wpAny_bind (wpAny_typeOf (T := "tuple") ⟨_, h1', rfl⟩ ?_)
 rw [if_pos (by decide)]
 refine wpAny_bind (tup_noKeys (s := { s with heap := s.heap.push { cls := .type "dict", data := .dict #[] } }) h1' hh fun g tk hk => ?_)
 simp only [Option.isNone_none, if_true]
 refine wpAny_bind (wpAny_rule ?_)
 have hta : g.IsTuple a its.toArray := ⟨_, hk _ _ h1', rfl, n, rfl⟩
 refine wpAny_bind (wpAny_pyIter_tuple (s := { s with heap := g, toks := tk }) hta ?_)
 refine wpAny_pure ⟨plainId_quiet plain_dul _, ?_⟩
 have gsz : s.heap.objs.size + 1 ≤ g.objs.size := by
  obtain ⟨o, es, ep, ho, _⟩ := hnew
  exact Heap.lt_size (hk _ _ ho)
 have hgd : (g.push { cls := .type "tuple_iterator", data := .fields #[.ref a, .int 0 0] }).DictOf (mixKind X.prog X.w) s.heap.objs.size [] := by
  obtain ⟨o, es, ep, ho, rr⟩ := hnew
  exact ⟨o, es, ep, Heap.get?_push_of_some _ (hk _ _ ho), rr⟩
 have up : ∀ b o, s.heap.get? b = some o → (g.push { cls := .type "tuple_iterator", data := .fields #[.ref a, .int 0 0] }).get? b = some o := fun b o e => Heap.get?_push_of_some _ (hk _ _ (Heap.get?_push_of_some _ e))
 refine dictLoop (A := X.A.in1) (rows := rows) (its := its.toArray) (t := a) hh (Nat.ne_of_lt (Nat.lt_of_succ_le gsz)) (Nat.ne_of_lt (Nat.lt_trans hlt (Nat.lt_of_succ_le gsz))) (Nat.ne_of_lt hlt) (by rw [List.size_toArray]; omega) (by omega) rows.length 0 _ [] (by omega) (Nat.zero_le _) (Nat.le_refl _)
  ⟨_, Heap.get?_push_size _ rfl, rfl, rfl⟩ (hta.push _) hgd (fun j v kv hv hkv => ?_) fun h' tk' hD hK => ?_
 · have hv : its[j]? = some v := by simpa using hv
   have hj : j < bs.length := by
    have := (List.getElem?_eq_some_iff.mp hv).1
    omega
   obtain ⟨u, hu, ru⟩ := rv.get (i := j) (x := V.ref bs[j]) (by rw [List.getElem?_map, List.getElem?_eq_getElem hj]; rfl)
   rw [hu] at hv
   cases hv
   cases (show v = Value.ref bs[j] from ru)
   obtain ⟨⟨b', key, hb', hbt, hkey⟩, hHb⟩ := hrows j bs[j] kv (List.getElem?_eq_getElem hj) hkv
   cases hb'
   obtain ⟨ob, hob, rr⟩ := hbt
   have hblt : bs[j] < s.heap.objs.size := Heap.lt_size hob
   exact ⟨bs[j], rfl, Nat.ne_of_lt hblt, Nat.ne_of_lt (Nat.lt_trans hblt (Nat.lt_of_succ_le gsz)), bs[j], key, rfl, ⟨ob, up _ _ hob, rr⟩, hkey⟩
 · refine ⟨rfl, ?_⟩
   have keep : ∀ b o, s.heap.get? b = some o → h'.get? b = some o := fun b o e => hK b o (Nat.ne_of_lt (Heap.lt_size e)) (Nat.ne_of_lt (Nat.lt_trans (Heap.lt_size e) (Nat.lt_of_succ_le gsz))) (up b o e)
   have hD : h'.DictOf (mixKind X.prog X.w) s.heap.objs.size (merged [] rows) := hD
   have rel : KV (mergeK [] kvs) (merged [] rows) := rk.merge .nil
   have hlk : (mergeK [] kvs).length ≤ sizeLine := by
    have e1 := length_mergeK kvs []
    have e2 : kvs.length = bs.length := by
     have := rk.length
     omega
    have e3 : ([] : List (Key × V)).length = 0 := rfl
    omega
   refine ⟨.ref s.heap.objs.size, _, I.laid (a := s.heap.objs.size) (o := .dK (mergeK [] kvs)) (t' := tk') keep (Nat.le_refl _) (dk_new hlk ?_ rel hD), rfl, q _ (I.hok.fresh (Nat.le_refl _))⟩
   obtain ⟨_, z, _⟩ := dk_empty (P := X.prog) (w := X.w) (H := H) s.heap I.big
   exact z
end
noncomputable def Its (x : Str) : It := ⟨fun i _ => i < x.cps.size, fun i H v H' => H' = H ∧ ∃ c, x.cps[i]? = some c ∧ v = .str ⟨#[c]⟩, fun i _ => x.cps.size ≤ i⟩
theorem turn_str {P : Program} {w : World} {K : PySem.W.Frag} {tg : Expr} {ty : String} (it : Addr) (x : Str) (t : Tok) (hty : ty = "str_ascii_iterator" ∨ ty = "str_iterator") :
  Turn P w K tg (Its x) [it] it (fun i h => i ≤ x.cps.size ∧ h.IsStrIter it ty x t i) where
 mem := by simp
 obj := fun i h st b hb => by
  have e : b = it := by simpa using hb
  subst e
  obtain ⟨_, o, e, c, d⟩ := st
  exact ⟨o, e, fun v z => by rw [d] at z; cases z⟩
 keep := fun i h h' st k => by
  obtain ⟨z, o, e, r⟩ := st
  exact ⟨z, o, k it (by simp) o e, r⟩
 item := by
  intro X hP hw hK hc i pins s σ H E I hf st hg
  subst hP hw hK
  obtain ⟨z, st⟩ := st
  have hg : i < x.cps.size := hg
  obtain ⟨f0, f1, f2, f3, f4, f5⟩ := hf it (by simp)
  have fin : ∀ (h' : Heap) (tk : Nat) (v : Value), SignAt x i v → h'.IsStrIter it ty x t (i + 1) → (∀ b o, b ∉ [it] → s.heap.get? b = some o → h'.get? b = some o) →
    ∃ u, some v = some u ∧ wpAny (model X.prog X.w) X.A (letOwnedTupleGo tg (.ref it) u) (fun _ s2 => ∃ y H', Inv X pins σ H' s2 ∧ RelV y u ∧ (Its x).yld i H y H' ∧ (i + 1 ≤ x.cps.size ∧ s2.heap.IsStrIter it ty x t (i + 1)) ∧ ∀ b ∈ [it], H' b = none) E { s with heap := h', toks := tk } := by
   intro h' tk v hv st' kk
   obtain ⟨c, u, hcx, rfl⟩ := hv
   have I1 : Inv X pins σ H { s with heap := h', toks := tk } := I.turned (fun b o hb e => kk b o (by simpa using hb) e) f0 f1 f3 f4 f5
   obtain ⟨o, e1, e2, e3⟩ := id st'
   refine ⟨_, rfl, go_of (s := { s with heap := h', toks := tk }) (n := ty) e1 e2 e3 (by rcases hty with rfl | rfl <;> decide) ⟨.str ⟨#[c]⟩, H, I1, ⟨u, rfl⟩, ⟨rfl, c, hcx, rfl⟩, ⟨hg, st'⟩, fun b hb => (hf b hb).1⟩⟩
  rcases hty with rfl | rfl
  · exact (Walks.strAscii (prog := X.prog) (w := X.w) (I.ok.hd hc) it x t).item i s _ _ hg st fun v h' tk hv st' kk => fin h' tk v hv st' kk
  · exact (Walks.strWide (prog := X.prog) (w := X.w) (I.ok.hd hc) it x t).item i s _ _ hg st fun v h' tk hv st' kk => fin h' tk v hv st' kk
 done := by
  intro X hP hw hK hc i pins s σ H E I hf st hg
  subst hP hw hK
  obtain ⟨z, st⟩ := st
  have hg : x.cps.size ≤ i := hg
  have e : i = x.cps.size := by omega
  subst e
  obtain ⟨f0, f1, f2, f3, f4, f5⟩ := hf it (by simp)
  rcases hty with rfl | rfl
  · exact (Walks.strAscii (prog := X.prog) (w := X.w) (I.ok.hd hc) it x t).done s _ _ st fun h' tk kk => ⟨rfl, I.turned (fun b o hb e => kk b o (by simpa using hb) e) f0 f1 f3 f4 f5⟩
  · exact (Walks.strWide (prog := X.prog) (w := X.w) (I.ok.hd hc) it x t).done s _ _ st fun h' tk kk => ⟨rfl, I.turned (fun b o hb e => kk b o (by simpa using hb) e) f0 f1 f3 f4 f5⟩
 self := fun _ _ _ _ _ st h => by
  rcases hty with rfl | rfl
  · exact wpAny_pyIter_striter_ascii st.2 h
  · exact wpAny_pyIter_striter_wide st.2 h
section
variable {X : Cx} {tg : Expr}
noncomputable def iStr (tl : TE) : TI := fun σ H R => tl σ H fun v H1 => ∃ x, v = .str x ∧ R (Its x) H1
theorem pi_str {l : Expr} {tl : TE} (hl : PE X l tl) : PI X tg l (iStr tl) := by
 intro pins s σ H R I h
 refine thn (hl pins s σ H _ I h) fun v s1 ⟨x, H1, I1, r1, q1⟩ => ?_
 obtain ⟨y, e, q⟩ := q1
 subst e
 obtain ⟨t, rfl⟩ := r1
 have mk : ∀ ty, (ty = "str_ascii_iterator" ∨ ty = "str_iterator") → PIE X pins σ tg R (.ref s1.heap.objs.size) { s1 with heap := s1.heap.push { cls := .type ty, data := .fields #[.str y t, .int 0 0] } } := fun ty hty => by
  refine ⟨s1.heap.objs.size, [s1.heap.objs.size], _, _, H1, rfl, I1.kept (t' := s1.toks) fun b o e => Heap.get?_push_of_some _ e, turn_str _ y t hty, ⟨Nat.zero_le _, _, Heap.get?_push_size _ rfl, rfl, rfl⟩, fun b hb => ?_, q⟩
  have e : b = s1.heap.objs.size := by simpa using hb
  subst e
  exact I1.fpOk (Nat.le_refl _) (I1.hok.fresh (Nat.le_refl _))
 cases ha : y.cps.all (· < 128)
 · exact wpAny_pyIter_wide ha (mk _ (.inr rfl))
 · exact wpAny_pyIter_ascii ha (mk _ (.inl rfl))
end
section
variable {K : PySem.W.Frag} {a : Addr} {xs : List V} {g : TG} {tc : TT} {te : TE} {k : Nat} {cap : List Nat} {σ : St} {H : Hp} {Q : VK}
theorem lc_tup (Pv : Nat → List V → Hp → Prop) (h0 : Pv 0 [] H) (hl : ∀ i ys H, i ≤ xs.length → Pv i ys H → SqT K H a xs ∧ ys.length ≤ sizeLine)
  (hs : ∀ i x ys H, xs[i]? = some x → Pv i ys H → g x (capσ k cap σ) H fun σ2 H2 => tc σ2 H2 fun b H3 => if b = true then te σ2 H3 fun y H4 => Pv (i + 1) (ys ++ [y]) H4 else Pv (i + 1) ys H3)
  (hd : ∀ ys H, Pv xs.length ys H → ∀ p, H p = none → Q (.ref p) (upd H p (.lst ys))) : LcEnd (Itt K a) g tc te k cap σ H Q := by
 refine ⟨fun i m ys H => m = xs.length - i ∧ i ≤ xs.length ∧ Pv i ys H, ⟨xs.length, by simp, Nat.zero_le _, h0⟩, ?_⟩
 rintro i m ys H ⟨rfl, hi, p⟩
 obtain ⟨q, hz⟩ := hl i ys H hi p
 by_cases hlt : i < xs.length
 · refine .inr ⟨⟨xs, xs[i], q, by simp [hlt]⟩, hz, Pv (i + 1), fun ys' H' p' => ⟨xs.length - (i + 1), by omega, rfl, hlt, p'⟩, fun x H' y => ?_⟩
   obtain ⟨e, y⟩ := y
   subst e
   exact hs i x ys _ (y xs q) p
 · have e : i = xs.length := by omega
   subst e
   exact .inl ⟨⟨xs, q, Nat.le_refl _⟩, hz, hd ys H p⟩
theorem lc_list (Pv : Nat → List V → Hp → Prop) (h0 : Pv 0 [] H) (hl : ∀ i ys H, i ≤ xs.length → Pv i ys H → SqL K H a xs ∧ ys.length ≤ sizeLine)
  (hs : ∀ i x ys H, xs[i]? = some x → Pv i ys H → g x (capσ k cap σ) H fun σ2 H2 => tc σ2 H2 fun b H3 => if b = true then te σ2 H3 fun y H4 => Pv (i + 1) (ys ++ [y]) H4 else Pv (i + 1) ys H3)
  (hd : ∀ ys H, Pv xs.length ys H → ∀ p, H p = none → Q (.ref p) (upd H p (.lst ys))) : LcEnd (Itl K a) g tc te k cap σ H Q := by
 refine ⟨fun i m ys H => m = xs.length - i ∧ i ≤ xs.length ∧ Pv i ys H, ⟨xs.length, by simp, Nat.zero_le _, h0⟩, ?_⟩
 rintro i m ys H ⟨rfl, hi, p⟩
 obtain ⟨q, hz⟩ := hl i ys H hi p
 by_cases hlt : i < xs.length
 · refine .inr ⟨⟨xs, xs[i], q, by simp [hlt]⟩, hz, Pv (i + 1), fun ys' H' p' => ⟨xs.length - (i + 1), by omega, rfl, hlt, p'⟩, fun x H' y => ?_⟩
   obtain ⟨e, y⟩ := y
   subst e
   exact hs i x ys _ (y xs q) p
 · have e : i = xs.length := by omega
   subst e
   exact .inl ⟨⟨xs, q, Nat.le_refl _⟩, hz, hd ys H p⟩
theorem lc_range {lo : Int} {n : Nat} (Pv : Nat → List V → Hp → Prop) (h0 : Pv 0 [] H) (hl : ∀ i ys H, i ≤ n → Pv i ys H → ys.length ≤ sizeLine)
  (hs : ∀ i ys H, i < n → Pv i ys H → g (.int (lo + i)) (capσ k cap σ) H fun σ2 H2 => tc σ2 H2 fun b H3 => if b = true then te σ2 H3 fun y H4 => Pv (i + 1) (ys ++ [y]) H4 else Pv (i + 1) ys H3)
  (hd : ∀ ys H, Pv n ys H → ∀ p, H p = none → Q (.ref p) (upd H p (.lst ys))) : LcEnd (Itr lo n) g tc te k cap σ H Q := by
 refine ⟨fun i m ys H => m = n - i ∧ i ≤ n ∧ Pv i ys H, ⟨n, by simp, Nat.zero_le _, h0⟩, ?_⟩
 rintro i m ys H ⟨rfl, hi, p⟩
 have hz := hl i ys H hi p
 by_cases hlt : i < n
 · refine .inr ⟨hlt, hz, Pv (i + 1), fun ys' H' p' => ⟨n - (i + 1), by omega, rfl, hlt, p'⟩, fun x H' y => ?_⟩
   obtain ⟨e, y⟩ := y
   subst e y
   exact hs i ys _ hlt p
 · have e : i = n := by omega
   subst e
   exact .inl ⟨Nat.le_refl _, hz, hd ys H p⟩
theorem lc_str {x : Str} (Pv : Nat → List V → Hp → Prop) (h0 : Pv 0 [] H) (hl : ∀ i ys H, i ≤ x.cps.size → Pv i ys H → ys.length ≤ sizeLine)
  (hs : ∀ i c ys H, x.cps[i]? = some c → Pv i ys H → g (.str ⟨#[c]⟩) (capσ k cap σ) H fun σ2 H2 => tc σ2 H2 fun b H3 => if b = true then te σ2 H3 fun y H4 => Pv (i + 1) (ys ++ [y]) H4 else Pv (i + 1) ys H3)
  (hd : ∀ ys H, Pv x.cps.size ys H → ∀ p, H p = none → Q (.ref p) (upd H p (.lst ys))) : LcEnd (Its x) g tc te k cap σ H Q := by
 refine ⟨fun i m ys H => m = x.cps.size - i ∧ i ≤ x.cps.size ∧ Pv i ys H, ⟨x.cps.size, by simp, Nat.zero_le _, h0⟩, ?_⟩
 rintro i m ys H ⟨rfl, hi, p⟩
 have hz := hl i ys H hi p
 by_cases hlt : i < x.cps.size
 · refine .inr ⟨hlt, hz, Pv (i + 1), fun ys' H' p' => ⟨x.cps.size - (i + 1), by omega, rfl, hlt, p'⟩, fun v H' y => ?_⟩
   obtain ⟨e, c, hc, rfl⟩ := y
   subst e
   exact hs i c ys _ hc p
 · have e : i = x.cps.size := by omega
   subst e
   exact .inl ⟨Nat.le_refl _, hz, hd ys H p⟩
end
inductive T where
 | non | bl (b : Bool) | int (i : Int) | str (x : Str) | tup (ts : List T) | lst (ts : List T) | dct
mutual
noncomputable def Is (H : Hp) : T → V → Prop
 | .non, v => v = .non
 | .bl b, v => v = .bl b
 | .int i, v => v = .int i
 | .str x, v => v = .str x
 | .tup ts, v => ∃ a xs, v = .ref a ∧ H a = some (.tup xs) ∧ IsL H ts xs
 | .lst ts, v => ∃ a xs, v = .ref a ∧ H a = some (.lst xs) ∧ IsL H ts xs
 | .dct, v => ∃ a, v = .ref a ∧ H a = some (.dK [])
noncomputable def IsL (H : Hp) : List T → List V → Prop
 | [], xs => xs = []
 | t :: ts, xs => ∃ v vs, xs = v :: vs ∧ Is H t v ∧ IsL H ts vs
end
noncomputable def Tups (H H' : Hp) : Prop := ∀ b xs, H b = some (.tup xs) → H' b = some (.tup xs)
theorem Same.tups {H H' : Hp} (s : Same H H') : Tups H H' := fun b xs e => s b _ e
theorem Tups.refl (H : Hp) : Tups H H := fun _ _ e => e
theorem Tups.trans {H H1 H2 : Hp} (a : Tups H H1) (b : Tups H1 H2) : Tups H H2 := fun c xs e => b c xs (a c xs e)
theorem Same.new {H : Hp} {p : Addr} (h : H p = none) (o : HO) : Same H (upd H p o) := fun b u q => by rw [upd_ne (ne_of_none q h)]; exact q
theorem Tups.upd {H : Hp} {p : Addr} {o o' : HO} (h : H p = some o) (ho : ∀ xs, o ≠ .tup xs) : Tups H (upd H p o') := fun b xs e => by
 rw [upd_ne (ne_of e h (fun z => ho xs z.symm))]; exact e
mutual
theorem Is.mono {H H' : Hp} (s : Same H H') : ∀ {t : T} {v : V}, Is H t v → Is H' t v
 | .non, v, h => h
 | .bl b, v, h => h
 | .int i, v, h => h
 | .str x, v, h => h
 | .tup ts, v, h => by
   obtain ⟨a, xs, e, ha, hl⟩ := h
   exact ⟨a, xs, e, s a _ ha, IsL.mono s hl⟩
 | .lst ts, v, h => by
   obtain ⟨a, xs, e, ha, hl⟩ := h
   exact ⟨a, xs, e, s a _ ha, IsL.mono s hl⟩
 | .dct, v, h => by
   obtain ⟨a, e, ha⟩ := h
   exact ⟨a, e, s a _ ha⟩
theorem IsL.mono {H H' : Hp} (s : Same H H') : ∀ {ts : List T} {xs : List V}, IsL H ts xs → IsL H' ts xs
 | [], xs, h => h
 | t :: ts, xs, h => by
   obtain ⟨v, vs, e, h1, h2⟩ := h
   exact ⟨v, vs, e, Is.mono s h1, IsL.mono s h2⟩
end
mutual
noncomputable def Fro : T → Prop
 | .tup ts => FroL ts
 | .lst _ => False
 | .dct => False
 | _ => True
noncomputable def FroL : List T → Prop
 | [] => True
 | t :: ts => Fro t ∧ FroL ts
end
mutual
theorem Is.tups {H H' : Hp} (s : Tups H H') : ∀ {t : T} {v : V}, Fro t → Is H t v → Is H' t v
 | .non, v, _, h => h
 | .bl b, v, _, h => h
 | .int i, v, _, h => h
 | .str x, v, _, h => h
 | .tup ts, v, f, h => by
   obtain ⟨a, xs, e, ha, hl⟩ := h
   have f : FroL ts := by unfold Fro at f; exact f
   exact ⟨a, xs, e, s a _ ha, IsL.tups s f hl⟩
 | .lst ts, v, f, h => by unfold Fro at f; exact f.elim
 | .dct, v, f, h => by unfold Fro at f; exact f.elim
theorem IsL.tups {H H' : Hp} (s : Tups H H') : ∀ {ts : List T} {xs : List V}, FroL ts → IsL H ts xs → IsL H' ts xs
 | [], xs, _, h => h
 | t :: ts, xs, f, h => by
   obtain ⟨v, vs, e, h1, h2⟩ := h
   have f : Fro t ∧ FroL ts := by unfold FroL at f; exact f
   exact ⟨v, vs, e, Is.tups s f.1 h1, IsL.tups s f.2 h2⟩
end
theorem FroL.all {ts : List T} : FroL ts ↔ ∀ t ∈ ts, Fro t := by
 induction ts with
 | nil => simp [FroL]
 | cons t ts ih => simp [FroL, ih]
theorem IsL.length {H : Hp} : ∀ {ts : List T} {xs : List V}, IsL H ts xs → xs.length = ts.length
 | [], xs, h => by cases h; rfl
 | t :: ts, xs, h => by
   obtain ⟨v, vs, rfl, _, h2⟩ := h
   simp [IsL.length h2]
theorem IsL.get {H : Hp} : ∀ {ts : List T} {xs : List V} {i : Nat} {t : T}, IsL H ts xs → ts[i]? = some t → ∃ v, xs[i]? = some v ∧ Is H t v
 | [], _, _, _, _, e => by simp at e
 | t :: ts, xs, i, t', h, e => by
   obtain ⟨v, vs, rfl, h1, h2⟩ := h
   cases i with
   | zero => simp at e; subst e; exact ⟨v, rfl, h1⟩
   | succ i =>
     obtain ⟨w, e1, e2⟩ := IsL.get (i := i) h2 (by simpa using e)
     exact ⟨w, by simpa using e1, e2⟩
theorem IsL.get' {H : Hp} {ts : List T} {xs : List V} {i : Nat} {v : V} (h : IsL H ts xs) (e : xs[i]? = some v) : ∃ t, ts[i]? = some t ∧ Is H t v := by
 have hl := h.length
 have hi : i < ts.length := by have := (List.getElem?_eq_some_iff.mp e).1; omega
 obtain ⟨w, e1, e2⟩ := h.get (List.getElem?_eq_getElem hi)
 rw [e] at e1
 cases e1
 exact ⟨_, List.getElem?_eq_getElem hi, e2⟩
theorem IsL.append {H : Hp} : ∀ {ts us : List T} {xs ys : List V}, IsL H ts xs → IsL H us ys → IsL H (ts ++ us) (xs ++ ys)
 | [], us, xs, ys, h, k => by cases h; exact k
 | t :: ts, us, xs, ys, h, k => by
   obtain ⟨v, vs, rfl, h1, h2⟩ := h
   exact ⟨v, vs ++ ys, rfl, h1, IsL.append h2 k⟩
theorem IsL.drop {H : Hp} : ∀ {ts : List T} {xs : List V} (n : Nat), IsL H ts xs → IsL H (ts.drop n) (xs.drop n)
 | ts, xs, 0, h => h
 | [], xs, n + 1, h => by cases h; exact rfl
 | t :: ts, xs, n + 1, h => by
   obtain ⟨v, vs, rfl, h1, h2⟩ := h
   exact IsL.drop n h2
theorem IsL.one {H : Hp} {t : T} {v : V} (h : Is H t v) : IsL H [t] [v] := ⟨v, [], rfl, h, rfl⟩
theorem IsL.two {H : Hp} {t u : T} {v w : V} (h : Is H t v) (k : Is H u w) : IsL H [t, u] [v, w] := ⟨v, [w], rfl, h, w, [], rfl, k, rfl⟩
theorem IsL.three {H : Hp} {t u r : T} {v w y : V} (h : Is H t v) (k : Is H u w) (m : Is H r y) : IsL H [t, u, r] [v, w, y] := ⟨v, [w, y], rfl, h, w, [y], rfl, k, y, [], rfl, m, rfl⟩
theorem Is.newTup {H : Hp} {p : Addr} {xs : List V} {ts : List T} (hp : H p = none) (h : IsL H ts xs) : Is (upd H p (.tup xs)) (.tup ts) (.ref p) := ⟨p, xs, rfl, upd_same, IsL.mono (Same.new hp _) h⟩
noncomputable def tyn : T → String
 | .non => "NoneType" | .bl _ => "bool" | .int _ => "int" | .str _ => "str" | .tup _ => "tuple" | .lst _ => "list" | .dct => "dict"
theorem Is.ty {K : PySem.W.Frag} {H : Hp} {t : T} {v : V} (h : Is H t v) : TyOf K H v (.type (tyn t)) := by
 cases t with
 | non => cases (show v = .non from h); exact .non
 | bl b => cases (show v = .bl b from h); exact .bl b
 | int i => cases (show v = .int i from h); exact .int i
 | str x => cases (show v = .str x from h); exact .str x
 | tup ts => obtain ⟨a, xs, rfl, ha, _⟩ := h; exact .tup ha
 | lst ts => obtain ⟨a, xs, rfl, ha, _⟩ := h; exact .lst ha
 | dct => obtain ⟨a, rfl, ha⟩ := h; exact .dK ha
noncomputable def iInt : T → Bool | .int _ => true | .bl _ => true | _ => false
noncomputable def iBl : T → Bool | .bl _ => true | _ => false
noncomputable def iTupT : T → Bool | .tup _ => true | _ => false
noncomputable def iStrT : T → Bool | .str _ => true | _ => false
theorem kit_int (K : PySem.W.Frag) (t : T) : PySem.W.kitOne K (.type (tyn t)) (.type "int") = some (iInt t) := by cases t <;> kernel_rfl
theorem kit_bool (K : PySem.W.Frag) (t : T) : PySem.W.kitOne K (.type (tyn t)) (.type "bool") = some (iBl t) := by cases t <;> kernel_rfl
theorem kit_tuple (K : PySem.W.Frag) (t : T) : PySem.W.kitOne K (.type (tyn t)) (.type "tuple") = some (iTupT t) := by cases t <;> kernel_rfl
theorem kit_str (K : PySem.W.Frag) (t : T) : PySem.W.kitOne K (.type (tyn t)) (.type "str") = some (iStrT t) := by cases t <;> kernel_rfl
section
variable {X : Cx} {pins : List (Addr × Obj)} {σ : St} {H : Hp} {s : Shared} {d : Addr} {u u' : HO} {o : Obj}
end
section
variable {X : Cx}
end
theorem rel_kV {P : Program} {w : World} {k : Key} {u : Value} (h : (mixKind P w).is k u = true) : RelV (kV k) u := by
 rcases keyIs_shape h with ⟨i, t, rfl, rfl⟩ | ⟨x, t, rfl, rfl⟩
 · exact ⟨t, rfl⟩
 · exact ⟨t, rfl⟩
theorem KV.get : ∀ {kvs : List (Key × V)} {vs : List (Key × Value)} {i : Nat} {kv : Key × V}, KV kvs vs → kvs[i]? = some kv → ∃ u, vs[i]? = some (kv.1, u) ∧ RelV kv.2 u := by
 intro kvs vs i kv r
 unfold KV at r
 induction r generalizing i with
 | nil => intro e; simp at e
 | @cons p q ps qs h t ih =>
   intro e
   cases i with
   | zero =>
     simp at e
     subst e
     exact ⟨q.2, by simp [h.1], h.2⟩
   | succ i => simpa using ih (i := i) (by simpa using e)
section
variable {X : Cx} {tg : Expr}
end
section
variable {d : Addr} {o : Obj} {kvs : List (Key × V)} {g : TG} {tc : TT} {te : TE} {k : Nat} {cap : List Nat} {σ : St} {H : Hp} {Q : VK}
end
theorem vals_by : ∀ {xs : List V} {us : List Value}, xs.length = us.length → (∀ (j : Nat) x u, xs[j]? = some x → us[j]? = some u → RelV x u) → Vals xs us
 | [], [], _, _ => .nil
 | x :: xs, u :: us, hl, h => .cons (h 0 x u rfl rfl) (vals_by (by simpa using hl) fun j y v e1 e2 => h (j + 1) y v (by simpa using e1) (by simpa using e2))
 | [], _ :: _, hl, _ => by simp at hl
 | _ :: _, [], hl, _ => by simp at hl
section
variable {X : Cx}
theorem op_isnotB : OpR X (compareOp .IsNot) (fun x y H Q => ∃ a b, x = .bl a ∧ y = .bl b ∧ Q (.bl (a != b)) H) := by
 intro pins s σ H x y v u Q I rx ry h
 obtain ⟨a, b, rfl, rfl, q⟩ := h
 cases rx
 cases ry
 exact PyProof.Rows.isnot_bool ⟨.bl _, H, I, rfl, q⟩
end
end
end L2
namespace HT
open PySem PyProof.Rows
open PySem.SeqAt
open PySem.AutoSeq1 (wpAny_loadPart')
open PySem.MeetsSeq PySem.MeetsSeq2 PySem.MeetsSeq3
section
variable {prog : Program} {w : World} {A : Around} {E : Value → Shared → Prop} {s : Shared}
end
end HT
namespace L2
open PySem PySem.Spec PyProof.Rows
section
variable {X : Cx} {S : Addr → Prop}
end
inductive Tm where
 | var (i : Nat) | con (t : T) | add (a b : Tm) | sub (a b : Tm) | mul (a b : Tm) | tup (ts : List Tm) | lst (ts : List Tm) | upto (a b : Tm) | frm (a b : Tm) | ix (a b : Tm) | toL (a : Tm) | neg (a : Tm) | toS (a : Tm) | sum (a : Tm) | dct
section
variable {X : Cx} {S : Addr → Prop} {aL : Str → Bool}
theorem small_le {n : Nat} (h : n ≤ 1000) : n ≤ sizeLine := Nat.le_trans h (by decide)
end
section
variable {M : Model} {A : Around} {E : Value → Shared → Prop} {s : Shared} {base : Heap} {env : Env} {outer : List Env} {L e T0 : Addr} {oe : Obj} {vs : Array Value} {cls a0 : Value} {Q : Unit → Shared → Prop}
end
section
variable {P : Program} {w : World} {K : PySem.W.Frag} {mg : Str → Option Value} {base : Heap} {N : List Str} {qual : Str} {scope : Scope} {f : Addr} {cd : Value} {A : Around} {outer : List Env} {s₀ s : Shared} {H₀ H : Hp} {E : XK} {pins : List (Addr × Obj)} {σ : St}
end
section
variable {P : Program} {w : World} {K : PySem.W.Frag} {mg : Str → Option Value} {base : Heap} {N : List Str} {qual : Str} {scope : Scope} {f : Addr} {cd : Value} {A : Around} {outer : List Env} {s₀ : Shared} {H₀ : Hp} {E : XK}
end
structure OwnErr (K : PySem.W.Frag) (mg : Str → Option Value) (base : Heap) (x : Str) (C : Addr) : Prop where
 cls : OwnCls x C [.type "ValueError", .type "Exception", .type "BaseException", .type "object"] "ValueError.__new__" mg base
 keep : PySem.W.keepIn K (.ref C) = true
section
variable {M : Model} {A : Around} {E : Value → Shared → Prop} {h : Heap} {g : Array GenState} {d : Drawn} {t : Nat} {os : OsState} {e : Addr} {oe : Obj} {Q : Bool → Shared → Prop}
end
section
variable {P : Program} {w : World} {X : Cx} {E : XK} {pins : List (Addr × Obj)} {σ : St} {H : Hp} {s s' : Shared} {e : Value} {R : Shared → Prop} {Ex : Value → Shared → Prop} {env : Env} {outer : List Env} {L : Addr}
end
section
variable {X : Cx} {pins : List (Addr × Obj)} {σ : St} {H : Hp} {s : Shared}
end
section
variable {X : Cx} {pins : List (Addr × Obj)} {σ : St} {H : Hp} {s : Shared} {a C : Addr}
end
end L2
namespace PySem
open Sem (wp)
noncomputable def qn : List Str := ["__class__", "__getattribute__", "__getattr__", "__init__"]
abbrev vE : List Value := [.type "ValueError", .type "Exception", .type "BaseException", .type "object"]
section
variable {M : Model} {prog : Program} {w : World} {A : Around} {E : Value → Shared → Prop} {h : Heap} {g : Array GenState} {d : Drawn} {t : Nat} {os : OsState} {a : Addr} {o : Obj}
 {nm q : Str} {C N : Addr} {bs bm : List Value} {hdct : Bool} {sn : List Str} {sub : List Value} {ab : Bool} {col : Option Bool} {dd : Option Addr} {k0 k1 k2 k3 k5 : Option Value} {newId : String} {mN : Str → Option Value}
end
section
variable {M : Model} {prog : Program} {w : World} {A : Around} {E : Value → Shared → Prop} {h : Heap} {g : Array GenState} {d : Drawn} {t : Nat} {os : OsState} {a : Addr} {o : Obj}
 {nm q : Str} {C N : Addr} {bs bm : List Value} {hdct : Bool} {sn : List Str} {sub : List Value} {ab : Bool} {col : Option Bool} {dd : Option Addr} {k0 k1 k2 k3 k5 : Option Value} {newId : String} {mN : Str → Option Value}
end
end PySem
namespace L2
open PySem PySem.Spec PyProof.Rows
structure TwoErr (K : PySem.W.Frag) (C D : Addr) : Prop where
 c : ∃ nm q N bs hdct sn sub ab col dd k0 k1 k2 k3 k5, K.lookup C = some (excClassObj nm q C N bs (.ref D :: vE) hdct sn sub ab col dd k0 k1 k2 k3 k5 "ValueError.__new__") ∧ PySem.W.nsOkIn K N = true ∧ ∀ n ∈ qn, PySem.W.nsIn K N n = some none
 d : ∃ nm q N bs hdct sn sub ab col dd k0 k1 k2 k3 k5, K.lookup D = some (excClassObj nm q D N bs vE hdct sn sub ab col dd k0 k1 k2 k3 k5 "ValueError.__new__") ∧ PySem.W.nsOkIn K N = true ∧ ∀ n ∈ qn, PySem.W.nsIn K N n = some none
section
variable {K : PySem.W.Frag} {C D : Addr} {mg : Str → Option Value} {base : Heap} {x : Str}
end
mutual
noncomputable def toD : T → PyData
 | .non => .none
 | .bl b => .bool b
 | .int i => .int i
 | .str x => .str x
 | .tup ts => .tuple (toDs ts)
 | .lst ts => .list (toDs ts)
 | .dct => .dict []
noncomputable def toDs : List T → List PyData
 | [] => []
 | t :: r => toD t :: toDs r
end
section
variable {X : Cx} {pins : List (Addr × Obj)} {σ : St} {H : Hp} {s : Shared}
mutual
theorem reads_is (I : Inv X pins σ H s) : ∀ {t : T} {v : V} {u : Value}, (toD t).canLay0 = true → Is H t v → RelV v u → ∃ as, Reads s.heap u (toD t) as
 | .non, v, u, _, h, r => by
   cases (show v = .non from h); cases (show u = Value.none from r)
   exact ⟨_, by unfold toD; exact .none⟩
 | .bl b, v, u, _, h, r => by
   cases (show v = .bl b from h); cases (show u = Value.bool b from r)
   exact ⟨_, by unfold toD; exact .bool b⟩
 | .int i, v, u, _, h, r => by
   cases (show v = .int i from h)
   obtain ⟨t, rfl⟩ := (show ∃ t, u = Value.int i t from r)
   exact ⟨_, by unfold toD; exact .int i t⟩
 | .str x, v, u, _, h, r => by
   cases (show v = .str x from h)
   obtain ⟨t, rfl⟩ := (show ∃ t, u = Value.str x t from r)
   exact ⟨_, by unfold toD; exact .str x t⟩
 | .tup ts, v, u, l, h, r => by
   obtain ⟨a, xs, rfl, ha, hl⟩ := h
   cases (show u = Value.ref a from r)
   obtain ⟨its, rv, ⟨o, e, c, n, d⟩, _⟩ := I.tuple (SqT.of ha)
   obtain ⟨as, ra⟩ := readsAll_is I (by unfold toD PyData.canLay0 at l; exact l) hl rv
   exact ⟨_, by unfold toD; exact .tuple e c d (by simpa using ra)⟩
 | .lst ts, v, u, l, h, r => by
   obtain ⟨a, xs, rfl, ha, hl⟩ := h
   cases (show u = Value.ref a from r)
   obtain ⟨its, rv, ⟨o, n, e, c, _, d⟩, _⟩ := I.list (SqL.of ha)
   obtain ⟨as, ra⟩ := readsAll_is I (by unfold toD PyData.canLay0 at l; exact l) hl rv
   exact ⟨_, by unfold toD; exact .list e c d (by simpa using ra)⟩
 | .dct, v, u, l, h, r => by unfold toD PyData.canLay0 at l; cases l
theorem readsAll_is (I : Inv X pins σ H s) : ∀ {ts : List T} {xs : List V} {us : List Value}, PyData.canLayAll0 (toDs ts) = true → IsL H ts xs → Vals xs us → ∃ as, ReadsAll s.heap us (toDs ts) as
 | [], xs, us, _, h, r => by
   cases (show xs = [] from h); cases r
   exact ⟨_, by unfold toDs; exact .nil⟩
 | t :: ts, xs, us, l, h, r => by
   obtain ⟨v, vs, rfl, h1, h2⟩ := h
   cases r with
   | cons r1 r2 =>
     unfold toDs PyData.canLayAll0 at l
     rw [Bool.and_eq_true] at l
     obtain ⟨as, ra⟩ := reads_is I l.1 h1 r1
     obtain ⟨bs, rb⟩ := readsAll_is I l.2 h2 r2
     exact ⟨_, by unfold toDs; exact .cons ra rb⟩
end
end
noncomputable def rTr (f : Bool → Bool) : R2 := fun x y H Q => ∃ t u, Is H t x ∧ Is H u y ∧ (toD t).canLay0 = true ∧ (toD u).canLay0 = true ∧ (toD t).depth ≤ 20 ∧ Q (.bl (f (PyData.eqv (toD t) (toD u)))) H
section
variable {X : Cx}
theorem op_neTr (hu : X.A.units + 64 < cLine) : OpR X (compareOp .NotEq) (rTr (!·)) := by
 intro pins s σ H x y v u Q I rx ry h
 obtain ⟨t, t', h1, h2, l1, l2, d, q⟩ := h
 obtain ⟨as, ra⟩ := reads_is I l1 h1 rx
 obtain ⟨bs, rb⟩ := reads_is I l2 h2 ry
 exact SeqAt.compareNe_reads ra rb l1 l2 (by omega) ⟨.bl _, H, I, rfl, q⟩
theorem op_eqTr (hu : X.A.units + 64 < cLine) : OpR X (compareOp .Eq) (rTr id) := by
 intro pins s σ H x y v u Q I rx ry h
 obtain ⟨t, t', h1, h2, l1, l2, d, q⟩ := h
 obtain ⟨as, ra⟩ := reads_is I l1 h1 rx
 obtain ⟨bs, rb⟩ := reads_is I l2 h2 ry
 exact SeqAt.rcAt_reads ra rb l1 l2 (by omega) X.prog X.w _ _ ⟨.bl _, H, I, rfl, q⟩
end
noncomputable def iT (ns : List Int) : List T := ns.map T.int
noncomputable def tt (ps ns : List Int) : T := .tup [.tup (iT ps), .tup (iT ns)]
section
variable {X : Cx}
end
section
variable {X : Cx}
end
section
variable {prog : Program} {w : World} {A : Around} {E : Value → Shared → Prop} {s : Shared}
noncomputable def IsZipT (h : Heap) (z ti to : Addr) (f0 : Value) : Prop := h.get? z = some { cls := .type "zip", data := .fields #[f0, .bool false, .bool true, .ref ti, .ref to] }
noncomputable def IsIts (h : Heap) (ti it1 it2 : Addr) : Prop := h.get? ti = some { cls := .type "tuple", data := .seq #[.ref it1, .ref it2] }
theorem nextOrEnd_tup {it t : Addr} {i : Nat} {its : Array Value} {v : Value} {Q : Option Value → Shared → Prop} (hit : s.heap.IsTupleIter it t i) (ht : s.heap.IsTuple t its) (hv : its[i]? = some v)
  (k : ∀ g, g.IsTupleIter it t (i + 1) → Heap.SameBut it s.heap g → Q (some v) { s with heap := g }) : wpAny (model prog w) A (Builtin.SmallTypes.nextOrEnd (.ref it)) Q E s := by
 unfold Builtin.SmallTypes.nextOrEnd
 exact wpAny_bind (wpAny_attempt (nextOf_tup hit ht hv fun g h1 h2 => wpAny_pure (k g h1 h2)))
theorem nextOrEnd_tupEnd {it t : Addr} {i : Nat} {its : Array Value} {Q : Option Value → Shared → Prop} (hh : A.handled = none) (hit : s.heap.IsTupleIter it t i) (ht : s.heap.IsTuple t its) (hv : its[i]? = none)
  (k : ∀ g, Heap.ExtBut it s.heap g → Q none { s with heap := g }) : wpAny (model prog w) A (Builtin.SmallTypes.nextOrEnd (.ref it)) Q E s := by
 unfold Builtin.SmallTypes.nextOrEnd
 refine wpAny_bind (wpAny_attempt (nextOf_tupEnd hh hit ht hv fun g x hx ⟨o, ho, hc⟩ => ?_))
 exact wpAny_bind (wpAny_isInstance (T := "StopIteration") (b := true) ⟨o, ho, hc⟩ isSubtype_stop (wpAny_pure (k _ hx)))
theorem iter_zip {z ti to : Addr} {f0 : Value} {Q : Value → Shared → Prop} (hz : IsZipT s.heap z ti to f0) (h : Q (.ref z) s) : wpAny (model prog w) A (pyIter (.ref z)) Q E s :=
 have hT : s.TypeIs (.ref z) "zip" := ⟨_, hz, rfl⟩
 wpAny_pyIter_slot hT PySem.F.slot_zip_iter (wpAny_call_entry PySem.F.slot_zip_iter hT PySem.F.entry_zip_iter (show wpAny _ _ (ret (.ref z)) _ _ s from wpAny_pure ⟨_, rfl, "zip", _, hT, PySem.F.slot_zip_next.lookup, h⟩) (PySem.F.args_zip_iter_1 _))
theorem letGo_zip {elts : List Expr} {x1} {pos : Pos} {z ti to T : Addr} {Q : Unit → Shared → Prop} (hz : IsZipT s.heap z ti to (rawInt T)) (hQ : ∀ h', IsZipT h' z ti to .none → Heap.SameBut z s.heap h' → Q () { s with heap := h' }) :
  wpAny (model prog w) A (letOwnedTupleGo (.Tuple elts x1 pos) (.ref z) (.ref T)) Q E s := by
 unfold letOwnedTupleGo
 refine wpAny_bind (wpAny_load hz ?_)
 refine (show wpAny _ _ (if (["enumerate", "zip", "dict_itemiterator", "dict_reverseitemiterator", "odict_iterator", "itertools.zip_longest", "itertools.pairwise"].contains "zip" && (#[rawInt T, .bool false, .bool true, .ref ti, .ref to] : Array Value)[0]? == some (rawInt T)) = true then _ else _) Q E s from ?_)
 rw [if_pos (by simp)]
 refine wpAny_bind (wpAny_rule ?_)
 exact wpAny_setField_rec hz (by simp) fun h' hz' hs' => hQ h' hz' hs'
end
section
variable {prog : Program} {w : World} {A : Around} {E : Value → Shared → Prop} {s : Shared}
theorem argsZ (a b c : Value) : argsOk "object.__init__" ⟨[a, b, c], [("strict", .bool true)]⟩ := by unfold argsOk; kernel_rfl
end
theorem boot_zip : bootBuiltins "zip" = some (.type "zip") := by decide +kernel
section
variable {X : Cx}
end
section
variable {a b : Addr} {xs zs : List V} {g : TG} {tc : TT} {te : TE} {k : Nat} {cap : List Nat} {σ : St} {H : Hp} {Q : VK}
end
section
variable {X : Cx}
open Classical in
end
section
variable {X : Cx} {o e : Expr} {es : List Expr} {to : TE} {t : TA} {name : Str} {apos cpos : Pos} {id : String} {r : V → List V → Hp → VK → Prop}
end
section
variable {X : Cx}
end
end L2
namespace L2
open PySem PySem.Spec PyProof.Rows PySem.W
section
variable {n : Nat} {lt : Nat → Nat → Bool}
end
section
variable {prog : Program} {w : World} {A : Around} {E : Value → Shared → Prop} {s : Shared} {h0 : Heap} {vs : List Value} {κ : SortKind} {lt : Nat → Nat → Bool}
end
section
variable {prog : Program} {w : World} {A : Around} {E : Value → Shared → Prop} {s : Shared}
end
section
variable {X : Cx}
end
end L2
namespace L2
open PySem PySem.Spec PyProof.Rows
theorem layAll {ts : List T} (h : ∀ t ∈ ts, (toD t).canLay0 = true) : PyData.canLayAll0 (toDs ts) = true := by
 induction ts with
 | nil => rfl
 | cons t ts ih =>
   unfold toDs
   simp only [PyData.canLayAll0, Bool.and_eq_true]
   exact ⟨h t List.mem_cons_self, ih fun t' h' => h t' (List.mem_cons_of_mem _ h')⟩
section
variable {X : Cx}
open Classical in
end
section
variable {prog : Program} {w : World} {A : Around} {E : Value → Shared → Prop} {s : Shared}
end
section
variable {X : Cx}
end
section
variable {prog : Program} {w : World} {A : Around} {E : Value → Shared → Prop} {s : Shared}
end
section
variable {X : Cx}
end
section
variable {X : Cx}
end
end L2
namespace L2
open PySem PySem.Spec PyProof.Rows PySem.W
structure Ord (n : Nat) (lt : Nat → Nat → Bool) : Prop where
 irr : ∀ i, lt i i = false
 tr : ∀ i j k, lt i j = true → lt j k = true → lt i k = true
 tot : ∀ i j, i < n → j < n → i ≠ j → lt i j = true ∨ lt j i = true
section
variable {n : Nat} {lt : Nat → Nat → Bool}
end
section
variable {X : Cx}
end
end L2
namespace L2
open PySem PySem.Spec PyProof.Rows
theorem vals_ofI : ∀ {us : List Value} {ns : List Int}, IntsAre us ns → Vals (ns.map V.int) us
 | _, _, .nil => .nil
 | _, _, .cons _ _ r => .cons ⟨_, rfl⟩ (vals_ofI r)
section
variable {X : Cx}
end
end L2
namespace L2
open PySem PySem.Spec PyProof.Rows PySem.W
section
variable {prog : Program} {w : World} {A : Around} {E : Value → Shared → Prop} {s : Shared} {d it : Addr} {es : Array DictEntry} {ep i : Nat}
end
section
variable {X : Cx}
end
end L2
namespace L2
open PySem PySem.Spec PyProof.Rows
section
variable {prog : Program} {w : World} {A : Around} {E : Value → Shared → Prop} {s : Shared}
set_option maxRecDepth 8000 in
end
section
variable {prog : Program} {w : World} {A : Around} {R : Result → Shared → Prop}
end
section
variable {X : Cx}
end
section
variable {X : Cx}
end
theorem strVals : ∀ {xs : List Str} {us : List Value}, Vals (xs.map V.str) us → ∃ l : List (Str × Tok), us = strValues l ∧ l.map (fun x => x.1) = xs
 | [], _, r => by
   cases r
   exact ⟨[], rfl, rfl⟩
 | x :: xs, _, r => by
   cases r with
   | cons a b =>
     obtain ⟨t, rfl⟩ := a
     obtain ⟨l, rfl, e⟩ := strVals b
     exact ⟨(x, t) :: l, rfl, by rw [List.map_cons, e]⟩
theorem vals_strs : ∀ (n : Nat) (xs : List Str), Vals (xs.map V.str) (strsFrom n xs)
 | _, [] => .nil
 | n, x :: xs => .cons ⟨_, rfl⟩ (vals_strs (n + 1) xs)
noncomputable def rJoin : V → List V → Hp → VK → Prop := fun x vs H Q => ∃ sep p texts, x = .str sep ∧ vs = [.ref p] ∧ H p = some (.lst (texts.map V.str)) ∧ JoinOk sep texts = true ∧ Q (.str (PySem.Txt.join sep texts)) H
noncomputable def rSplit : V → List V → Hp → VK → Prop := fun x vs H Q => ∃ a b, x = .str a ∧ vs = [.str b] ∧ (b.length == 0) = false ∧ a.length ≤ sizeLine ∧ (PySem.Txt.split a b).length ≤ sizeLine ∧ ∀ l H', Same H H' → H l = none → H' l = some (.lst ((PySem.Txt.split a b).map V.str)) → Q (.ref l) H'
noncomputable def rPart : V → List V → Hp → VK → Prop := fun x vs H Q => ∃ a b i r, x = .str a ∧ vs = [.str b] ∧ (b.length == 0) = false ∧ a.length ≤ sizeLine ∧ Builtin.Str.occurrences a b 0 a.length 1 = i :: r ∧ ∀ p H', Same H H' → H p = none → H' p = some (.tup [.str (Builtin.Str.strSub a 0 i), .str b, .str (Builtin.Str.strSub a (i + b.length) a.length)]) → Q (.ref p) H'
noncomputable def rStarts : V → List V → Hp → VK → Prop := fun x vs H Q => ∃ a b, x = .str a ∧ vs = [.str b] ∧ Q (.bl (PySem.Txt.startswith a b)) H
section
variable {X : Cx}
theorem mt_join : MtR X "str.join" rJoin := by
 intro pins s σ H x xs v us Q I rx rv h
 obtain ⟨sep, p, texts, rfl, rfl, hp, hj, q⟩ := h
 obtain ⟨t, rfl⟩ := rx
 obtain ⟨u, rfl, ru⟩ := vals1 rv
 cases (show u = Value.ref p from ru)
 obtain ⟨hz, its, n, r, ho⟩ := (show ObjOk X.prog X.w H s.heap p (.lst (texts.map V.str)) from I.hok p _ hp)
 obtain ⟨l, rfl, hl⟩ := strVals r
 exact SC.join (l := l) ⟨_, ho, rfl, n, rfl⟩ hl hj fun t' k => ⟨.str _, H, I.kept (t' := k) (h' := s.heap) fun b o e => e, ⟨_, rfl⟩, q⟩
theorem mt_starts : MtR X "str.startswith" rStarts := by
 intro pins s σ H x xs v us Q I rx rv h
 obtain ⟨a, b, rfl, rfl, q⟩ := h
 obtain ⟨t, rfl⟩ := rx
 obtain ⟨u, rfl, t2, rfl⟩ := vals1 rv
 exact SC.startswith ⟨.bl _, H, I, rfl, q⟩
theorem mt_split : MtR X "str.split" rSplit := by
 intro pins s σ H x xs v us Q I rx rv h
 obtain ⟨a, b, rfl, rfl, hb, ha, hn, q⟩ := h
 obtain ⟨t, rfl⟩ := rx
 obtain ⟨u, rfl, t2, rfl⟩ := vals1 rv
 have hT : s.TypeIs (.str a t) "str" := typeIs_str s a t
 have hnone := I.hok.fresh (Nat.le_refl s.heap.objs.size)
 have self1 : ∀ {x : Str}, PySem.Txt.split a b = [a] → ∀ {k : Nat} {us : Array Value} {n : Nat}, us = #[.str a t] → EP X pins σ Q (.ref s.heap.objs.size) { s with heap := s.heap.push { cls := .type "list", data := .seq us n }, toks := k } := fun {_} e {k us n} eu => by
  subst eu
  refine ⟨.ref s.heap.objs.size, _, I.laid (a := s.heap.objs.size) (o := .lst ((PySem.Txt.split a b).map V.str)) (t' := k) (fun c o e => Heap.get?_push_of_some _ e) (Nat.le_refl _) ⟨by rw [List.length_map]; exact hn, [.str a t], n, ?_, Heap.get?_push_size _ rfl⟩, rfl, q _ _ (Same.new hnone _) hnone upd_same⟩
  rw [e]
  exact .cons ⟨t, rfl⟩ .nil
 by_cases c1 : (decide (a.length < b.length) || decide (Builtin.Str.strKind a < Builtin.Str.strKind b)) = true
 · refine call_meets F.slot_str_split hT F.entry_str_split (F.args_str_split_2 _ _) (meets_str_split_cannot_occur a b t t2 c1) ?_
   exact self1 (x := a) (by unfold PySem.Txt.split; rw [if_pos c1]) rfl
 have c1 : (decide (a.length < b.length) || decide (Builtin.Str.strKind a < Builtin.Str.strKind b)) = false := by simpa using c1
 by_cases c2 : (Builtin.Str.occurrences a b 0 a.length (a.length + 1)).isEmpty = true
 · refine call_meets F.slot_str_split hT F.entry_str_split (F.args_str_split_2 _ _) (meets_str_split_not_found a b t t2 c1 hb c2) ?_
   exact self1 (x := a) (by unfold PySem.Txt.split; rw [if_neg (by rw [c1]; decide), if_pos c2]) rfl
 have c2 : (Builtin.Str.occurrences a b 0 a.length (a.length + 1)).isEmpty = false := by simpa using c2
 have e : PySem.Txt.split a b = Builtin.Str.partsBetween a (Builtin.Str.occurrences a b 0 a.length (a.length + 1)) b.length := by
  unfold PySem.Txt.split
  rw [if_neg (by rw [c1]; decide), if_neg (by rw [c2]; decide)]
 refine call_meets F.slot_str_split hT F.entry_str_split (F.args_str_split_2 _ _) (meets_str_split_sep a b t t2 c1 hb c2 ha (by rw [← e]; exact hn)) ?_
 rw [← e]
 refine ⟨.ref s.heap.objs.size, _, I.laid (a := s.heap.objs.size) (o := .lst ((PySem.Txt.split a b).map V.str)) (fun c o e => Heap.get?_push_of_some _ e) (Nat.le_refl _) ⟨by rw [List.length_map]; exact hn, _, _, vals_strs _ _, Heap.get?_push_size _ rfl⟩, rfl, q _ _ (Same.new hnone _) hnone upd_same⟩
theorem mt_part : MtR X "str.partition" rPart := by
 intro pins s σ H x xs v us Q I rx rv h
 obtain ⟨a, b, i, r, rfl, rfl, hb, ha, hi, q⟩ := h
 obtain ⟨t, rfl⟩ := rx
 obtain ⟨u, rfl, t2, rfl⟩ := vals1 rv
 have hnone := I.hok.fresh (Nat.le_refl s.heap.objs.size)
 refine call_meets F.slot_str_partition (typeIs_str s a t) F.entry_str_partition (F.args_str_partition_2 _ _) (meets_str_partition a b t t2 hb ha) ?_
 rw [hi]
 refine ⟨.ref s.heap.objs.size, _, I.laid (a := s.heap.objs.size) (o := .tup [.str (Builtin.Str.strSub a 0 i), .str b, .str (Builtin.Str.strSub a (i + b.length) a.length)]) (fun c o e => Heap.get?_push_of_some _ e) (Nat.le_refl _) ⟨by show 3 ≤ sizeLine; decide, _, .cons ⟨_, rfl⟩ (.cons ⟨_, rfl⟩ (.cons ⟨_, rfl⟩ .nil)), ⟨_, Heap.get?_push_size _ rfl, rfl, _, rfl⟩, NoD.push⟩, rfl, q _ _ (Same.new hnone _) hnone upd_same⟩
theorem call_int_num : CallR X (.type "int") (fun xs H Q => ∃ n : Int, xs = [.str (toString n)] ∧ 0 ≤ n ∧ n < 10 ^ 10 ∧ Q (.int n) H) := by
 intro pins s σ H xs us Q I r h
 obtain ⟨n, rfl, h0, h1, q⟩ := h
 obtain ⟨u, rfl, t, rfl⟩ := vals1 r
 exact PySem.W.KIN.call_num h0 h1 ⟨.int n, H, I.tok _, ⟨_, rfl⟩, q⟩
end
noncomputable def tFmt (te : TE) : TE := fun σ H Q => te σ H fun v H1 => (∃ i : Int, v = .int i ∧ i.natAbs.log2 < 1920 ∧ Q (.str (toString i)) H1) ∨ ∃ x, v = .str x ∧ x.length ≤ sizeLine ∧ Q (.str x) H1
abbrev TJ := Str → TE
noncomputable def PJ (X : Cx) (es : List Expr) (t : TJ) : Prop := ∀ (acc : Str) (pins : List (Addr × Obj)) (s : Shared) (σ : St) (H : Hp) (Q : VK), Inv X pins σ H s → t acc σ H Q →
 Joins (model X.prog X.w) X.A X.xe (evalEach es X.env) acc (fun out s1 => out.length ≤ sizeLine ∧ EP X pins σ Q (.str out s1.toks) { s1 with toks := s1.toks + 1 }) s
section
variable {X : Cx} {e e1 e2 : Expr} {es : List Expr} {te : TE} {t : TJ} {pos : Pos}
theorem pe_fmt (he : PE X e te) : PE X (.FormattedValue e (-1) none pos) (tFmt te) := by
 intro pins s σ H Q I h
 refine wpAny_FormattedValue_plain (thn (he pins s σ H _ I h) fun v s1 ⟨x, H1, I1, r1, q1⟩ => ?_)
 rcases q1 with ⟨i, rfl, hi, q⟩ | ⟨y, rfl, hy, q⟩
 · obtain ⟨t, rfl⟩ := r1
   exact wpAny_formatField_int hi ⟨.str _, H1, (I1.tok _).tok _, ⟨_, rfl⟩, q⟩
 · obtain ⟨t, rfl⟩ := r1
   exact wpAny_formatField_str ⟨.str y, H1, I1, ⟨_, rfl⟩, q⟩ ⟨.str y, H1, I1.tok _, ⟨_, rfl⟩, q⟩ hy
theorem pj_nil : PJ X [] (fun acc _ H Q => acc.length ≤ sizeLine ∧ Q (.str acc) H) := by
 intro acc pins s σ H Q I h
 exact ⟨h.1, .str acc, H, I.tok _, ⟨_, rfl⟩, h.2⟩
theorem pj_cons (he : PE X e te) (hr : PJ X es t) : PJ X (e :: es) (fun acc σ H Q => te σ H fun v H1 => ∃ y, v = .str y ∧ (acc ++ y).length ≤ sizeLine ∧ t (acc ++ y) σ H1 Q) := by
 intro acc pins s σ H Q I h
 show wpAny _ _ (eval e X.env) _ _ s
 refine thn (he pins s σ H _ I h) fun v s1 ⟨x, H1, I1, r1, y, ey, hy, q⟩ => ?_
 subst ey
 obtain ⟨t', rfl⟩ := r1
 exact ⟨y, t', rfl, hy, hr (acc ++ y) pins s1 σ H1 Q I1 q⟩
theorem pe_joined (h : PJ X (e1 :: e2 :: es) t) : PE X (.JoinedStr (e1 :: e2 :: es) pos) (t Str.empty) := fun pins s σ H Q I q => wpAny_JoinedStr (h Str.empty pins s σ H Q I q)
end
end L2
set_option maxHeartbeats 400000
namespace L2
open PySem PySem.Spec PyProof.Rows
theorem pick_even (a b c d : Value) : slicePick #[a, b, c, d] none none (some 2) = #[a, c] := by with_unfolding_all rfl
theorem pick_odd (a b c d : Value) : slicePick #[a, b, c, d] (some 1) none (some 2) = #[b, d] := by with_unfolding_all rfl
noncomputable def tEven (K : PySem.W.Frag) (te : TE) : TE := fun σ H Q => te σ H fun x H1 => ∃ a x0 x1 x2 x3, x = .ref a ∧ SqL K H1 a [x0, x1, x2, x3] ∧ ∀ p, H1 p = none → Q (.ref p) (upd H1 p (.lst [x0, x2]))
noncomputable def tOdd (K : PySem.W.Frag) (te : TE) : TE := fun σ H Q => te σ H fun x H1 => ∃ a x0 x1 x2 x3, x = .ref a ∧ SqL K H1 a [x0, x1, x2, x3] ∧ ∀ p, H1 p = none → Q (.ref p) (upd H1 p (.lst [x1, x3]))
theorem vals4 {a b c d : V} {us : List Value} (r : Vals [a, b, c, d] us) : ∃ u v w x, us = [u, v, w, x] ∧ RelV a u ∧ RelV b v ∧ RelV c w ∧ RelV d x := by
 cases r with
 | cons h1 r =>
   cases r with
   | cons h2 r =>
     obtain ⟨w, x, rfl, h3, h4⟩ := vals2 r
     exact ⟨_, _, w, x, rfl, h1, h2, h3, h4⟩
section
variable {X : Cx} {e : Expr} {te : TE} {j k : Nat} {p0 p1 p2 pos : Pos}
theorem pe_even (he : PE X e te) : PE X (.Subscript e (.Slice none none (some (.Constant (.int 2) j p1)) p2) pos) (tEven X.K te) := by
 intro pins s σ H Q I h
 refine Subscript_ (thn (he pins s σ H _ I h) fun v s1 ⟨x, H1, I1, r1, q1⟩ => ?_)
 obtain ⟨a, x0, x1, x2, x3, rfl, hx, q⟩ := q1
 cases r1
 refine wpAny_Slice ?_
 rw [evalPart_none]
 refine wpAny_pure ?_
 refine wpAny_pure ?_
 rw [evalPart_some]
 refine thn ((pe_int : PE X (.Constant (.int 2) j p1) _) pins s1 σ H1 (fun y H2 => H2 = H1 ∧ y = .int 2) I1 ⟨rfl, rfl⟩) fun vk s2 ⟨y, H2, I2, r2, e1, e2⟩ => ?_
 subst e1 e2
 obtain ⟨t, rfl⟩ := r2
 have I4 : Inv X pins σ H2 { s2 with heap := s2.heap.push { cls := .type "slice", data := .fields #[.none, .none, .int 2 t] } } := I2.kept (t' := s2.toks) fun b ob q => Heap.get?_push_of_some _ q
 obtain ⟨its, r, ht, hz⟩ := I4.list hx
 obtain ⟨u0, u1, u2, u3, rfl, r0, r1, r2, r3⟩ := vals4 r
 show wpAny (model X.prog X.w) X.A (subscriptTail e (.Slice none none (some (.Constant (.int 2) j p1)) p2) (.ref a) (.ref s2.heap.objs.size)) (EP X pins σ Q) X.xe { s2 with heap := s2.heap.push { cls := .type "slice", data := .fields #[.none, .none, .int 2 t] } }
 refine tail_any (ops := [.ref a, .ref s2.heap.objs.size]) ht.isList.typeIs slot_list_getitem.lookup ?_ (by with_unfolding_all rfl)
 refine wpAny_getItem_list_slice ht.isList (Heap.IsSliceOf.new ..) .none .none (.int 2 t) (by decide) ?_ (by rw [List.size_toArray]; show 4 ≤ sizeLine; decide)
 rw [show slicePick [u0, u1, u2, u3].toArray none none (some 2) = #[u0, u2] from pick_even u0 u1 u2 u3]
 exact ⟨.ref _, _, I4.laid (t' := s2.toks) (o := .lst [x0, x2]) (fun b ob q => Heap.get?_push_of_some _ q) (Nat.le_refl _) ⟨by show 2 ≤ sizeLine; decide, [u0, u2], 0, .cons r0 (.cons r2 .nil), Heap.get?_push_size _ rfl⟩, rfl, q _ (I4.hok.fresh (Nat.le_refl _))⟩
theorem pe_odd (he : PE X e te) : PE X (.Subscript e (.Slice (some (.Constant (.int 1) k p0)) none (some (.Constant (.int 2) j p1)) p2) pos) (tOdd X.K te) := by
 intro pins s σ H Q I h
 refine Subscript_ (thn (he pins s σ H _ I h) fun v s1 ⟨x, H1, I1, r1, q1⟩ => ?_)
 obtain ⟨a, x0, x1, x2, x3, rfl, hx, q⟩ := q1
 cases r1
 refine wpAny_Slice ?_
 rw [evalPart_some]
 refine thn ((pe_int : PE X (.Constant (.int 1) k p0) _) pins s1 σ H1 (fun y H2 => H2 = H1 ∧ y = .int 1) I1 ⟨rfl, rfl⟩) fun vl s0 ⟨y0, H0, I0, r00, e00, e01⟩ => ?_
 subst e00 e01
 obtain ⟨t0, rfl⟩ := r00
 rw [evalPart_none]
 refine wpAny_pure ?_
 rw [evalPart_some]
 refine thn ((pe_int : PE X (.Constant (.int 2) j p1) _) pins s0 σ H0 (fun y H2 => H2 = H0 ∧ y = .int 2) I0 ⟨rfl, rfl⟩) fun vk s2 ⟨y, H2, I2, r2, e1, e2⟩ => ?_
 subst e1 e2
 obtain ⟨t, rfl⟩ := r2
 have I4 : Inv X pins σ H2 { s2 with heap := s2.heap.push { cls := .type "slice", data := .fields #[.int 1 t0, .none, .int 2 t] } } := I2.kept (t' := s2.toks) fun b ob q => Heap.get?_push_of_some _ q
 obtain ⟨its, r, ht, hz⟩ := I4.list hx
 obtain ⟨u0, u1, u2, u3, rfl, r0, r1, r2, r3⟩ := vals4 r
 show wpAny (model X.prog X.w) X.A (subscriptTail e (.Slice (some (.Constant (.int 1) k p0)) none (some (.Constant (.int 2) j p1)) p2) (.ref a) (.ref s2.heap.objs.size)) (EP X pins σ Q) X.xe { s2 with heap := s2.heap.push { cls := .type "slice", data := .fields #[.int 1 t0, .none, .int 2 t] } }
 refine tail_any (ops := [.ref a, .ref s2.heap.objs.size]) ht.isList.typeIs slot_list_getitem.lookup ?_ (by with_unfolding_all rfl)
 refine wpAny_getItem_list_slice ht.isList (Heap.IsSliceOf.new ..) (.int 1 t0) .none (.int 2 t) (by decide) ?_ (by rw [List.size_toArray]; show 4 ≤ sizeLine; decide)
 rw [show slicePick [u0, u1, u2, u3].toArray (some 1) none (some 2) = #[u1, u3] from pick_odd u0 u1 u2 u3]
 exact ⟨.ref _, _, I4.laid (t' := s2.toks) (o := .lst [x1, x3]) (fun b ob q => Heap.get?_push_of_some _ q) (Nat.le_refl _) ⟨by show 2 ≤ sizeLine; decide, [u1, u3], 0, .cons r1 (.cons r3 .nil), Heap.get?_push_size _ rfl⟩, rfl, q _ (I4.hok.fresh (Nat.le_refl _))⟩
end
end L2
namespace L2
open PySem PySem.Spec PyProof.Rows PySem.W
section
variable {prog : Program} {w : World} {K : Type} [DecidableEq K] (knd : KeyKind prog w K)
inductive NIts (h : Heap) : List (List K) → List Value → Prop
 | nil : NIts h [] []
 | cons {k : List K} {a : Addr} {ks : List (List K)} {vs : List Value} : IsTupleKey knd h k a → NIts h ks vs → NIts h (k :: ks) (.ref a :: vs)
variable {knd}
variable {A : Around} {E : Value → Shared → Prop} {s : Shared}
end
abbrev KeyN := List (List Int)
section
variable {P : Program} {w : World} {H H' : Hp} {d : Addr} {kvs : List (KeyN × V)}
end
section
variable {X : Cx} {o i e value : Expr} {pos pos' tpos : Pos} {td ty tv : TE}
end
end L2
namespace L2
open PySem PySem.Spec PyProof.Rows
section
variable {prog : Program} {w : World} {A : Around} {R : Result → Shared → Prop} {h h' : Heap}
end
section
variable {X : Cx}
end
section
variable {prog : Program} {w : World} {A : Around} {E : Value → Shared → Prop} {s : Shared}
theorem nextOrEnd_lst {it t : Addr} {i : Nat} {its : Array Value} {v : Value} {Q : Option Value → Shared → Prop} (hit : s.heap.IsListIter it t i) (ht : s.heap.IsList t its) (hv : its[i]? = some v)
  (k : ∀ g, g.IsListIter it t (i + 1) → Heap.SameBut it s.heap g → Q (some v) { s with heap := g }) : wpAny (model prog w) A (Builtin.SmallTypes.nextOrEnd (.ref it)) Q E s := by
 unfold Builtin.SmallTypes.nextOrEnd
 exact wpAny_bind (wpAny_attempt (wpAny_nextOf_list_item hit ht hv fun g h1 h2 => wpAny_pure (k g h1 h2)))
theorem nextOrEnd_lstEnd {it t : Addr} {i : Nat} {its : Array Value} {Q : Option Value → Shared → Prop} (hh : A.handled = none) (hit : s.heap.IsListIter it t i) (ht : s.heap.IsList t its) (hv : its[i]? = none)
  (k : ∀ g, Heap.ExtBut it s.heap g → Q none { s with heap := g }) : wpAny (model prog w) A (Builtin.SmallTypes.nextOrEnd (.ref it)) Q E s := by
 unfold Builtin.SmallTypes.nextOrEnd
 refine wpAny_bind (wpAny_attempt (wpAny_nextOf_list_end hh hit ht hv fun g x hx ⟨o, ho, hc⟩ => ?_))
 exact wpAny_bind (wpAny_isInstance (T := "StopIteration") (b := true) ⟨o, ho, hc⟩ isSubtype_stop (wpAny_pure (k _ hx)))
theorem zip_itemL {z ti to it1 it2 t1 t2 : Addr} {i : Nat} {a1 a2 : Array Value} {v1 v2 a b : Value} {Q : Option Value → Shared → Prop} (hz : IsZipT s.heap z ti to .none) (hti : IsIts s.heap ti it1 it2) (hto : s.heap.get? to = some { cls := .type "tuple", data := .seq #[a, b] })
  (hi1 : s.heap.IsTupleIter it1 t1 i) (hi2 : s.heap.IsListIter it2 t2 i)
  (h1 : s.heap.IsTuple t1 a1) (h2 : s.heap.IsList t2 a2) (e1 : a1[i]? = some v1) (e2 : a2[i]? = some v2) (nd : [z, ti, to, it1, it2].Nodup) (nt : t1 ∉ [z, to, it1, it2] ∧ t2 ∉ [z, to, it1, it2])
  (k : ∀ g, IsZipT g z ti to (rawInt s.heap.objs.size) → IsIts g ti it1 it2 → g.get? to = some { cls := .type "tuple", data := .seq #[v1, v2] } → g.IsTupleIter it1 t1 (i + 1) → g.IsListIter it2 t2 (i + 1) →
   g.get? s.heap.objs.size = some { cls := .type "tuple", data := .seq #[v1, v2] } → g.objs.size = s.heap.objs.size + 1 → (∀ c o, c ≠ z → c ≠ to → c ≠ it1 → c ≠ it2 → s.heap.get? c = some o → g.get? c = some o) → Q (some (.ref s.heap.objs.size)) { s with heap := g }) :
  wpAny (model prog w) A (pyNext (.ref z)) Q E s := by
 have hT : s.TypeIs (.ref z) "zip" := ⟨_, hz, rfl⟩
 simp only [List.nodup_cons, List.mem_cons, List.not_mem_nil, or_false, not_or, not_false_eq_true, List.nodup_nil, and_true] at nd
 simp only [List.mem_cons, List.not_mem_nil, or_false, not_or] at nt
 obtain ⟨⟨n1, n2, n3, n4⟩, ⟨n5, n6, n7⟩, ⟨n8, n9⟩, n10⟩ := nd
 obtain ⟨⟨m1, m2, m3, m4⟩, m5, m6, m7, m8⟩ := nt
 unfold pyNext
 refine wpAny_bind (wpAny_attempt (wpAny_callSpecial?_slot (name := Str.ofString "__next__") hT PySem.F.slot_zip_next (wpAny_call_entry PySem.F.slot_zip_next hT PySem.F.entry_zip_next ?_ (PySem.F.args_zip_next_1 _))))
 obtain ⟨hp, gs, d, tk, os⟩ := s
 show wpAny _ _ (field (.ref z) 2 >>= _) _ _ _
 refine wpAny_bind (wpAny_field hz rfl (x := .bool true) rfl ?_)
 show wpAny _ _ (field (.ref z) 3 >>= _) _ _ _
 refine wpAny_bind (wpAny_field hz rfl (x := .ref ti) rfl ?_)
 refine wpAny_bind (wpAny_seqItems hti rfl ?_)
 dsimp only
 refine wpAny_bind ?_
 unfold Builtin.SmallTypes.ownedTupleIsFree
 refine wpAny_bind (wpAny_field hz rfl (x := .none) rfl (wpAny_pure ?_))
 simp only [if_true]
 refine wpAny_bind (wpAny_rule (wpAny_bind (wpAny_field hz rfl (x := .ref to) rfl ?_)))
 dsimp only
 refine wpAny_bind (wpAny_setField_rec hz (by simp) fun g1 hz1 hs1 => ?_)
 replace hs1 : Heap.SameBut z hp g1 := hs1
 replace hz1 : IsZipT g1 z ti to .ellipsis := hz1
 refine wpAny_bind ?_
 have hto1 : g1.get? to = some { cls := .type "tuple", data := .seq #[a, b] } := hs1.extBut _ _ (Ne.symm n2) hto
 have hi11 : g1.IsTupleIter it1 t1 i := hi1.extBut hs1.extBut (Ne.symm n3)
 have hi21 : g1.IsListIter it2 t2 i := hi2.extBut hs1.extBut (Ne.symm n4)
 have h11 : g1.IsTuple t1 a1 := h1.extBut hs1.extBut m1
 have h21 : g1.IsList t2 a2 := h2.extBut hs1.extBut m5
 rw [show ([Value.ref it1, Value.ref it2] : List Value).zipIdx = [(Value.ref it1, 0), (Value.ref it2, 1)] from rfl, List.forIn_cons]
 refine wpAny_bind (wpAny_bind (wpAny_onRaise ?_))
 show wpAny _ _ (Builtin.SmallTypes.nextOrEnd (.ref it1)) _ _ ⟨g1, gs, d, tk, os⟩
 refine nextOrEnd_tup hi11 h11 e1 fun g2 hi12 hs2 => ?_
 replace hs2 : Heap.SameBut it1 g1 g2 := hs2
 dsimp only
 have hto2 : g2.get? to = some { cls := .type "tuple", data := .seq #[a, b] } := hs2.extBut _ _ n8 hto1
 refine wpAny_bind (wpAny_seqItems (s := ⟨g2, gs, d, tk, os⟩) hto2 rfl ?_)
 dsimp only
 refine wpAny_bind (wpAny_updateSeq_pair (s := ⟨g2, gs, d, tk, os⟩) hto2 fun g3 hto3 hs3 => ?_)
 replace hs3 : Heap.SameBut to g2 g3 := hs3
 replace hto3 : g3.get? to = some { cls := .type "tuple", data := .seq #[v1, b] } := hto3
 refine wpAny_bind (wpAny_letGo (wpAny_pure ?_))
 dsimp only
 rw [List.forIn_cons]
 refine wpAny_bind (wpAny_bind (wpAny_onRaise ?_))
 show wpAny _ _ (Builtin.SmallTypes.nextOrEnd (.ref it2)) _ _ ⟨g3, gs, d, tk, os⟩
 have hi23 : g3.IsListIter it2 t2 i := (hi21.extBut hs2.extBut (Ne.symm n10)).extBut hs3.extBut (Ne.symm n9)
 have h23 : g3.IsList t2 a2 := (h21.extBut hs2.extBut m7).extBut hs3.extBut m6
 refine nextOrEnd_lst hi23 h23 e2 fun g4 hi24 hs4 => ?_
 replace hs4 : Heap.SameBut it2 g3 g4 := hs4
 dsimp only
 have hto4 : g4.get? to = some { cls := .type "tuple", data := .seq #[v1, b] } := hs4.extBut _ _ n9 hto3
 refine wpAny_bind (wpAny_seqItems (s := ⟨g4, gs, d, tk, os⟩) hto4 rfl ?_)
 dsimp only
 refine wpAny_bind (wpAny_updateSeq_pair (s := ⟨g4, gs, d, tk, os⟩) hto4 fun g5 hto5 hs5 => ?_)
 replace hs5 : Heap.SameBut to g4 g5 := hs5
 replace hto5 : g5.get? to = some { cls := .type "tuple", data := .seq #[v1, v2] } := hto5
 refine wpAny_bind (wpAny_letGo (wpAny_pure ?_))
 dsimp only
 rw [List.forIn_nil]
 refine wpAny_pure ?_
 dsimp only
 refine wpAny_bind (wpAny_seqItems (s := ⟨g5, gs, d, tk, os⟩) hto5 rfl ?_)
 dsimp only
 refine wpAny_bind (wpAny_newTuple (s := ⟨g5, gs, d, tk, os⟩) ?_)
 have hz5 : IsZipT g5 z ti to .ellipsis := hs5.extBut _ _ n2 (hs4.extBut _ _ n4 (hs3.extBut _ _ n2 (hs2.extBut _ _ n3 hz1)))
 have sz5 : g5.objs.size = hp.objs.size := by rw [hs5.1, hs4.1, hs3.1, hs2.1, hs1.1]
 have keep5 : ∀ c o, c ≠ z → c ≠ to → c ≠ it1 → c ≠ it2 → hp.get? c = some o → g5.get? c = some o := fun c o q1 q2 q3 q4 e => hs5.extBut c o q2 (hs4.extBut c o q4 (hs3.extBut c o q2 (hs2.extBut c o q3 (hs1.extBut c o q1 e))))
 have hi15 : g5.IsTupleIter it1 t1 (i + 1) := ((hi12.extBut hs3.extBut (Ne.symm n8)).extBut hs4.extBut n10).extBut hs5.extBut (Ne.symm n8)
 have hi25 : g5.IsListIter it2 t2 (i + 1) := hi24.extBut hs5.extBut (Ne.symm n9)
 have hzl : z < hp.objs.size := Heap.lt_size hz
 dsimp only
 rw [sz5]
 have hz6 : IsZipT (g5.push { cls := .type "tuple", data := .seq [v1, v2].toArray }) z ti to .ellipsis := Heap.get?_push_of_some _ hz5
 have hT6 : (g5.push { cls := .type "tuple", data := .seq [v1, v2].toArray }).get? hp.objs.size = some { cls := .type "tuple", data := .seq #[v1, v2] } := by rw [← sz5]; exact Heap.get?_push_size _ rfl
 have keep6 : ∀ c o, g5.get? c = some o → (g5.push { cls := .type "tuple", data := .seq [v1, v2].toArray }).get? c = some o := fun c o e => Heap.get?_push_of_some _ e
 have sz6 : (g5.push { cls := .type "tuple", data := .seq [v1, v2].toArray }).objs.size = hp.objs.size + 1 := by rw [Heap.size_push, sz5]
 show wpAny _ _ (Builtin.SmallTypes.ownedTupleHandOut (.ref z) (.ref hp.objs.size) >>= _) _ _ ⟨g5.push { cls := .type "tuple", data := .seq [v1, v2].toArray }, gs, d, tk, os⟩
 generalize g5.push { cls := .type "tuple", data := .seq [v1, v2].toArray } = g6 at hz6 hT6 keep6 sz6 ⊢
 refine wpAny_bind ?_
 unfold Builtin.SmallTypes.ownedTupleHandOut
 refine wpAny_bind (wpAny_setField_rec hz6 (by simp) fun g7 hz7 hs7 => ?_)
 replace hs7 : Heap.SameBut z g6 g7 := hs7
 replace hz7 : IsZipT g7 z ti to (rawInt hp.objs.size) := hz7
 refine wpAny_setField_rec hz7 (by simp) fun g8 hz8 hs8 => ?_
 replace hs8 : Heap.SameBut z g7 g8 := hs8
 replace hz8 : IsZipT g8 z ti to (rawInt hp.objs.size) := hz8
 have up : ∀ c o, c ≠ z → g5.get? c = some o → g8.get? c = some o := fun c o q e => hs8.extBut c o q (hs7.extBut c o q (keep6 c o e))
 refine wpAny_pure ⟨_, rfl, wpAny_pure (k g8 hz8 ?_ (up _ _ (Ne.symm n2) hto5) ?_ ?_ ?_ ?_ fun c o q1 q2 q3 q4 e => up c o q1 (keep5 c o q1 q2 q3 q4 e))⟩
 · exact up _ _ (Ne.symm n1) (keep5 _ _ (Ne.symm n1) n5 n6 n7 hti)
 · obtain ⟨o, e, r⟩ := hi15
   exact ⟨o, up _ _ (Ne.symm n3) e, r⟩
 · obtain ⟨o, e, r⟩ := hi25
   exact ⟨o, up _ _ (Ne.symm n4) e, r⟩
 · exact hs8.extBut _ _ (Nat.ne_of_gt hzl) (hs7.extBut _ _ (Nat.ne_of_gt hzl) hT6)
 · rw [hs8.1, hs7.1, sz6]
theorem zip_endL {z ti to it1 it2 t1 t2 : Addr} {i : Nat} {a1 a2 : Array Value} {a b : Value} {Q : Option Value → Shared → Prop} (hh : A.handled = none) (hz : IsZipT s.heap z ti to .none) (hti : IsIts s.heap ti it1 it2) (hto : s.heap.get? to = some { cls := .type "tuple", data := .seq #[a, b] })
  (hi1 : s.heap.IsTupleIter it1 t1 i) (hi2 : s.heap.IsListIter it2 t2 i)
  (h1 : s.heap.IsTuple t1 a1) (h2 : s.heap.IsList t2 a2) (e1 : a1[i]? = none) (e2 : a2[i]? = none) (nd : [z, ti, to, it1, it2].Nodup) (nt : t1 ∉ [z, to, it1, it2] ∧ t2 ∉ [z, to, it1, it2])
  (k : ∀ g, (∀ c o, c ≠ z → c ≠ it1 → c ≠ it2 → s.heap.get? c = some o → g.get? c = some o) → Q none { s with heap := g }) :
  wpAny (model prog w) A (pyNext (.ref z)) Q E s := by
 have hT : s.TypeIs (.ref z) "zip" := ⟨_, hz, rfl⟩
 simp only [List.nodup_cons, List.mem_cons, List.not_mem_nil, or_false, not_or, not_false_eq_true, List.nodup_nil, and_true] at nd
 simp only [List.mem_cons, List.not_mem_nil, or_false, not_or] at nt
 obtain ⟨⟨n1, n2, n3, n4⟩, ⟨n5, n6, n7⟩, ⟨n8, n9⟩, n10⟩ := nd
 obtain ⟨⟨m1, m2, m3, m4⟩, m5, m6, m7, m8⟩ := nt
 unfold pyNext
 refine wpAny_bind (wpAny_attempt (wpAny_callSpecial?_slot (name := Str.ofString "__next__") hT PySem.F.slot_zip_next (wpAny_call_entry PySem.F.slot_zip_next hT PySem.F.entry_zip_next ?_ (PySem.F.args_zip_next_1 _))))
 obtain ⟨hp, gs, d, tk, os⟩ := s
 show wpAny _ _ (field (.ref z) 2 >>= _) _ _ _
 refine wpAny_bind (wpAny_field hz rfl (x := .bool true) rfl ?_)
 show wpAny _ _ (field (.ref z) 3 >>= _) _ _ _
 refine wpAny_bind (wpAny_field hz rfl (x := .ref ti) rfl ?_)
 refine wpAny_bind (wpAny_seqItems hti rfl ?_)
 dsimp only
 refine wpAny_bind ?_
 unfold Builtin.SmallTypes.ownedTupleIsFree
 refine wpAny_bind (wpAny_field hz rfl (x := .none) rfl (wpAny_pure ?_))
 simp only [if_true]
 refine wpAny_bind (wpAny_rule (wpAny_bind (wpAny_field hz rfl (x := .ref to) rfl ?_)))
 dsimp only
 refine wpAny_bind (wpAny_setField_rec hz (by simp) fun g1 hz1 hs1 => ?_)
 replace hs1 : Heap.SameBut z hp g1 := hs1
 replace hz1 : IsZipT g1 z ti to .ellipsis := hz1
 refine wpAny_bind ?_
 have hi11 : g1.IsTupleIter it1 t1 i := hi1.extBut hs1.extBut (Ne.symm n3)
 have hi21 : g1.IsListIter it2 t2 i := hi2.extBut hs1.extBut (Ne.symm n4)
 have h11 : g1.IsTuple t1 a1 := h1.extBut hs1.extBut m1
 have h21 : g1.IsList t2 a2 := h2.extBut hs1.extBut m5
 rw [show ([Value.ref it1, Value.ref it2] : List Value).zipIdx = [(Value.ref it1, 0), (Value.ref it2, 1)] from rfl, List.forIn_cons]
 refine wpAny_bind (wpAny_bind (wpAny_onRaise ?_))
 show wpAny _ _ (Builtin.SmallTypes.nextOrEnd (.ref it1)) _ _ ⟨g1, gs, d, tk, os⟩
 refine nextOrEnd_tupEnd hh hi11 h11 e1 fun g2 hs2 => ?_
 replace hs2 : Heap.ExtBut it1 g1 g2 := hs2
 dsimp only
 have hz2 : IsZipT g2 z ti to .ellipsis := hs2 _ _ n3 hz1
 refine wpAny_bind (wpAny_setField_rec (s := ⟨g2, gs, d, tk, os⟩) hz2 (by simp) fun g3 hz3 hs3 => ?_)
 replace hs3 : Heap.SameBut z g2 g3 := hs3
 have hi23 : g3.IsListIter it2 t2 i := (hi21.extBut hs2 (Ne.symm n10)).extBut hs3.extBut (Ne.symm n4)
 have h23 : g3.IsList t2 a2 := (h21.extBut hs2 m7).extBut hs3.extBut m5
 refine wpAny_bind ?_
 show wpAny _ _ (forIn [(Value.ref it2, 1)] PUnit.unit _ >>= _) _ _ _
 refine wpAny_bind ?_
 rw [List.forIn_cons]
 refine wpAny_bind ?_
 dsimp only
 refine wpAny_bind (nextOrEnd_lstEnd hh hi23 h23 e2 fun g4 hs4 => ?_)
 replace hs4 : Heap.ExtBut it2 g3 g4 := hs4
 simp only [Option.isSome_none, Bool.false_eq_true, if_false]
 refine wpAny_pure ?_
 dsimp only
 rw [List.forIn_nil]
 refine wpAny_pure (wpAny_bind (wpAny_rule ?_))
 have keep4 : ∀ c o, c ≠ z → c ≠ it1 → c ≠ it2 → hp.get? c = some o → g4.get? c = some o := fun c o q1 q2 q3 e => hs4 c o q3 (hs3.extBut c o q1 (hs2 c o q2 (hs1.extBut c o q1 e)))
 unfold Builtin.SmallTypes.stopIteration
 show wpAny _ _ (newExc (.type "StopIteration") [] >>= _) _ _ _
 refine wpAny_bind ?_
 simp only [newExc, newTuple]
 refine wpAny_bind (wpAny_newObj_type ?_ (by size_fits))
 refine wpAny_bind (m := firstArgMember _ _) (wpAny_of_eq (a := Value.none) (by first | rfl | (simp only [firstArgMember]; rfl)) ?_)
 refine wpAny_newObj_type ?_ (by size_fits)
 simp only [raiseNew]
 refine wpAny_bind (wpAny_handled ?_)
 first | rw [show A.in1.handled = none from hh] | rw [hh]
 refine wpAny_bind (wpAny_pure (wpAny_throw ?_))
 exact wpAny_bind (wpAny_isInstance (T := "StopIteration") (b := true) ⟨_, Heap.get?_push_size _ rfl, rfl⟩ isSubtype_stop (wpAny_pure (k _ fun c o q1 q2 q3 e => Heap.get?_push_of_some _ (Heap.get?_push_of_some _ (keep4 c o q1 q2 q3 e)))))
end
theorem lstAt {P : Program} {w : World} {H : Hp} {h : Heap} {a : Addr} {xs : List V} (ok : HOk P w H h) (e : H a = some (.lst xs)) : ∃ its : List Value, Vals xs its ∧ h.IsList a its.toArray := by
 obtain ⟨_, its, n, r, t⟩ := (show ObjOk P w H h a (.lst xs) from ok a _ e)
 exact ⟨its, r, _, t, rfl, n, rfl⟩
noncomputable def zgL (h : Heap) (t1 t2 : Addr) : Heap := ((((h.push { cls := .type "tuple_iterator", data := .fields #[.ref t1, .int 0 0] }).push { cls := .type "list_iterator", data := .fields #[.ref t2, .int 0 0] }).push { cls := .type "tuple", data := .seq #[.ref h.objs.size, .ref (h.objs.size + 1)] }).push { cls := .type "tuple", data := .seq #[.none, .none] }).push { cls := .type "zip", data := .fields #[.none, .bool false, .bool true, .ref (h.objs.size + 2), .ref (h.objs.size + 3)] }
theorem zg_atL (h : Heap) (t1 t2 : Addr) : IsZipT (zgL h t1 t2) (h.objs.size + 4) (h.objs.size + 2) (h.objs.size + 3) .none ∧ IsIts (zgL h t1 t2) (h.objs.size + 2) h.objs.size (h.objs.size + 1) ∧ (zgL h t1 t2).get? (h.objs.size + 3) = some { cls := .type "tuple", data := .seq #[.none, .none] } ∧
  (zgL h t1 t2).IsTupleIter h.objs.size t1 0 ∧ (zgL h t1 t2).IsListIter (h.objs.size + 1) t2 0 ∧ (zgL h t1 t2).objs.size = h.objs.size + 5 ∧ ∀ c o, h.get? c = some o → (zgL h t1 t2).get? c = some o := by
 have at' : ∀ (g : Heap) (o : Obj) (n : Nat), g.objs.size = n → o.isFreed = false → (g.push o).get? n = some o := fun g o n e f => by rw [← e]; exact Heap.get?_push_size _ f
 have sz : ∀ (g : Heap) (o : Obj) (n : Nat), g.objs.size = n → (g.push o).objs.size = n + 1 := fun g o n e => by rw [Heap.size_push, e]
 refine ⟨?_, ?_, ?_, ?_, ?_, ?_, fun c o e => ?_⟩
 · exact at' _ _ _ (sz _ _ _ (sz _ _ _ (sz _ _ _ (sz _ _ _ rfl)))) rfl
 · exact Heap.get?_push_of_some _ (Heap.get?_push_of_some _ (at' _ _ _ (sz _ _ _ (sz _ _ _ rfl)) rfl))
 · exact Heap.get?_push_of_some _ (at' _ _ _ (sz _ _ _ (sz _ _ _ (sz _ _ _ rfl))) rfl)
 · exact ⟨_, Heap.get?_push_of_some _ (Heap.get?_push_of_some _ (Heap.get?_push_of_some _ (Heap.get?_push_of_some _ (at' _ _ _ rfl rfl)))), rfl, rfl⟩
 · exact ⟨_, Heap.get?_push_of_some _ (Heap.get?_push_of_some _ (Heap.get?_push_of_some _ (at' _ _ _ (sz _ _ _ rfl) rfl))), rfl, rfl⟩
 · exact sz _ _ _ (sz _ _ _ (sz _ _ _ (sz _ _ _ (sz _ _ _ rfl))))
 · exact Heap.get?_push_of_some _ (Heap.get?_push_of_some _ (Heap.get?_push_of_some _ (Heap.get?_push_of_some _ (Heap.get?_push_of_some _ e))))
section
variable {prog : Program} {w : World} {A : Around} {E : Value → Shared → Prop} {s : Shared}
theorem newZipTL (t1 t2 : Addr) (a1 a2 : Array Value) (n1 n2 : Nat) (d1 d2 : Option Addr) (l1 l2 : Array (Option Value)) :
  Meets (Builtin.«zip.__new__» ⟨[.type "zip", .ref t1, .ref t2], [("strict", .bool true)]⟩) (fun _ R s => s.heap.get? t1 = some { cls := .type "tuple", dict := d1, data := .seq a1 n1, slots := l1 } ∧ s.heap.get? t2 = some { cls := .type "list", dict := d2, data := .seq a2 n2, slots := l2 } ∧
   R (.ok (.ret (.ref (s.heap.objs.size + 4)))) { s with heap := zgL s.heap t1 t2 }) :=
 .of_wp fun prog w A R s h => by
  obtain ⟨hp, g, d, tk, os⟩ := s
  obtain ⟨hl1, hl2, h⟩ := h
  have hsub := sub_zip
  have hL1 : Heap.IsTuple (Shared.heap ⟨hp, g, d, tk, os⟩) t1 a1 := ⟨_, hl1, rfl, n1, rfl⟩
  have hL2 : Heap.IsList (Shared.heap ⟨hp.push { cls := .type "tuple_iterator", data := .fields #[.ref t1, .int 0 0] }, g, d, tk, os⟩) t2 a2 := ⟨_, Heap.get?_push_of_some _ hl2, rfl, n2, rfl⟩
  wp_walk using wpAny_pyIter_tuple hL1, wpAny_pyIter_list hL2
  refine ⟨_, rfl, ?_⟩
  simp only [zgL, Heap.size_push, Nat.add_assoc, Nat.reduceAdd] at h ⊢
  exact h
theorem call_zipTL {t1 t2 : Addr} {a1 a2 : Array Value} {Q : Value → Shared → Prop} (h1 : s.heap.IsTuple t1 a1) (h2 : s.heap.IsList t2 a2)
  (k : ∀ g, IsZipT g (s.heap.objs.size + 4) (s.heap.objs.size + 2) (s.heap.objs.size + 3) .none → IsIts g (s.heap.objs.size + 2) s.heap.objs.size (s.heap.objs.size + 1) → g.get? (s.heap.objs.size + 3) = some { cls := .type "tuple", data := .seq #[.none, .none] } →
   g.IsTupleIter s.heap.objs.size t1 0 → g.IsListIter (s.heap.objs.size + 1) t2 0 → g.objs.size = s.heap.objs.size + 5 → (∀ c o, s.heap.get? c = some o → g.get? c = some o) → Q (.ref (s.heap.objs.size + 4)) { s with heap := g }) :
  wpAny (model prog w) A (call (.type "zip") [.ref t1, .ref t2] [("strict", .bool true)]) Q E s := by
 have ft := PySem.F.called_zip
 obtain ⟨c, tl, hmro⟩ := ft.mro
 have hmade := ft.made
 have hsub := ft.sub
 have hct : checkTypeCall "zip" ⟨[.ref t1, .ref t2], [("strict", .bool true)]⟩ = pure () := by kernel_rfl
 have hcn : checkBuiltinCall "zip.__new__" ⟨[.type "zip", .ref t1, .ref t2], [("strict", .bool true)]⟩ = pure () := by kernel_rfl
 obtain ⟨⟨c1, dc1, dt1, sl1⟩, hl1, hc1, n1, hd1⟩ := h1
 obtain ⟨⟨c2, dc2, dt2, sl2⟩, hl2, hc2, n2, hd2⟩ := h2
 replace hc1 : c1 = .type "tuple" := hc1
 replace hc2 : c2 = .type "list" := hc2
 replace hd1 : dt1 = .seq a1 n1 := hd1
 replace hd2 : dt2 = .seq a2 n2 := hd2
 subst hc1 hc2 hd1 hd2
 refine wpAny_call (codeAny_of_tree ?_)
 show wpAny _ _ (callAny (.type "zip") _) _ _ _
 refine wpAny_pure ⟨Code.quiet_builtin _ (by decide +kernel), codeAny_builtin PySem.F.entry_type_call ?_⟩
 rw [Around.under_plain (weight_type_call_type "zip" _ _) (units_type_call_type "zip" _ _)]
 have hq1 := ft.notType
 have hq2 := ft.canCreate
 repeat any_goals first | assumption | wp_step
 refine codeAny_mono (codeAny_call_builtin ft.plain PySem.F.entry_zip_new (wpAny_of_eq hcn (newZipTL t1 t2 a1 a2 n1 n2 dc1 dc2 sl1 sl2 prog w A.in1 (wants (fun obj s₁ => obj = .ref (s.heap.objs.size + 4) ∧ s₁ = { s with heap := zgL s.heap t1 t2 }) E) s ⟨hl1, hl2, ⟨rfl, rfl⟩⟩))) fun r s₁ hr => ?_
 cases r with
 | error e => exact hr
 | ok fl =>
   cases fl with
   | ret obj =>
     obtain ⟨rfl, rfl⟩ := (show obj = .ref (s.heap.objs.size + 4) ∧ s₁ = { s with heap := zgL s.heap t1 t2 } from hr)
     obtain ⟨f1, f2, f3, f4, f5, f6, f7⟩ := zg_atL s.heap t1 t2
     have hT : (⟨zgL s.heap t1 t2, s.gens, s.drawn, s.toks, s.os⟩ : Shared).TypeIs (.ref (s.heap.objs.size + 4)) "zip" := ⟨_, f1, rfl⟩
     have hli := ft.init.lookup
     have hbi := ft.init.bind (.ref (s.heap.objs.size + 4))
     repeat any_goals first | assumption | wp_step
     refine codeAny_mono (codeAny_call_builtin ft.init.plain PySem.F.entry_object_init (ft.init.check _ _ _ _ _ _ _ _ hT (argsZ _ _ _) ?_)) (R := wants (fun r s₂ => r = .none ∧ s₂ = ⟨zgL s.heap t1 t2, s.gens, s.drawn, s.toks, s.os⟩) E) fun r₂ s₂ hr₂ => ?_
     · have hne : (some "zip.__new__" != some "object.__new__") = true := by decide
       repeat any_goals first | assumption | wp_step
       exact ⟨rfl, rfl⟩
     cases r₂ with
     | error e => exact hr₂
     | ok fl₂ =>
       cases fl₂ with
       | ret r =>
         obtain ⟨rfl, rfl⟩ := (show r = .none ∧ s₂ = _ from hr₂)
         repeat any_goals first | assumption | wp_step
         exact k _ f1 f2 f3 f4 f5 f6 f7
       | _ => exact hr₂.elim
   | _ => exact hr.elim
end
section
variable {X : Cx}
end
section
variable {a b : Addr} {xs zs : List V} {g : TG} {tc : TT} {te : TE} {k : Nat} {cap : List Nat} {σ : St} {H : Hp} {Q : VK}
end
section
noncomputable def ItzK (K : PySem.W.Frag) (a b : Addr) : It :=
 ⟨fun i H => ∃ xs ys x y, SqT K H a xs ∧ H b = some (.lst ys) ∧ xs[i]? = some x ∧ ys[i]? = some y,
  fun i H v H' => ∃ p x y, v = .ref p ∧ H p = none ∧ H' = upd H p (.tup [x, y]) ∧ (∀ xs, SqT K H a xs → xs[i]? = some x) ∧ ∀ ys, H b = some (.lst ys) → ys[i]? = some y,
  fun i H => ∃ xs ys, SqT K H a xs ∧ H b = some (.lst ys) ∧ xs.length ≤ i ∧ ys.length ≤ i⟩
theorem turn_zipK {P : Program} {w : World} {K : PySem.W.Frag} {elts : List Expr} {k1} {pos : Pos} (a b z ti to it1 it2 : Addr) (nd : [z, ti, to, it1, it2].Nodup) (na : a ∉ [z, ti, to, it1, it2]) (hb : sizeLine ≥ 2) :
  Turn P w K (.Tuple elts k1 pos) (ItzK K a b) [z, ti, to, it1, it2] z (fun i h => IsZipT h z ti to .none ∧ IsIts h ti it1 it2 ∧ (∃ u v, h.get? to = some { cls := .type "tuple", data := .seq #[u, v] }) ∧ h.IsTupleIter it1 a i ∧ h.IsListIter it2 b i) where
 mem := by simp
 obj := fun i h st c hc => by
  obtain ⟨hz, hti, ⟨u, v, hto⟩, h1, h2⟩ := st
  simp only [List.mem_cons, List.not_mem_nil, or_false] at hc
  rcases hc with rfl | rfl | rfl | rfl | rfl
  · exact ⟨_, hz, fun v q => by
     have q' : Data.fields _ = Data.cell v := q
     cases q'⟩
  · exact ⟨_, hti, fun v q => by
     have q' : Data.seq _ _ = Data.cell v := q
     cases q'⟩
  · exact ⟨_, hto, fun v q => by
     have q' : Data.seq _ _ = Data.cell v := q
     cases q'⟩
  · obtain ⟨o, e1, c, d⟩ := h1
    exact ⟨o, e1, fun v q => by rw [d] at q; cases q⟩
  · obtain ⟨o, e1, c, d⟩ := h2
    exact ⟨o, e1, fun v q => by rw [d] at q; cases q⟩
 keep := fun i h h' st k => by
  obtain ⟨hz, hti, ⟨u, v, hto⟩, ⟨o1, e1, r1⟩, o2, e2, r2⟩ := st
  exact ⟨k z (by simp) _ hz, k ti (by simp) _ hti, ⟨u, v, k to (by simp) _ hto⟩, ⟨o1, k it1 (by simp) o1 e1, r1⟩, o2, k it2 (by simp) o2 e2, r2⟩
 item := by
  intro X hP hw hK hc i pins s σ H E I hf st hg
  subst hP hw hK
  obtain ⟨xs, ys, x, y, hxs, hys, hx, hy⟩ := hg
  obtain ⟨its, rv, p, _⟩ := I.tuple hxs
  obtain ⟨jts, rw', q⟩ := lstAt I.hok hys
  obtain ⟨u, hu, ru⟩ := rv.get hx
  obtain ⟨v, hv, rvv⟩ := rw'.get hy
  obtain ⟨hz, hti, ⟨u0, v0, hto⟩, hi1, hi2⟩ := st
  have ff : ∀ c ∈ [z, ti, to, it1, it2], H c = none := fun c hc => (hf c hc).1
  have ne : ∀ {c d : Addr} {o : HO}, H c = some o → d ∈ [z, ti, to, it1, it2] → c ≠ d := fun {c d o} e hd q => by rw [q, ff d hd] at e; cases e
  refine zip_itemL hz hti hto hi1 hi2 p q (v1 := u) (v2 := v) (by simpa using hu) (by simpa using hv) nd ⟨fun m => ?_, fun m => ?_⟩ fun g gz gti gto gi1 gi2 gT gsz gk => ?_
  · simp only [List.mem_cons, List.not_mem_nil, or_false] at m
    rcases m with m | m | m | m <;> exact na (by simp [m])
  · simp only [List.mem_cons, List.not_mem_nil, or_false] at m
    rcases m with m | m | m | m <;> exact ne hys (by simp) m
  refine ⟨.ref s.heap.objs.size, rfl, letGo_zip gz fun g' gz' gs' => ?_⟩
  replace gs' : Heap.SameBut z g g' := gs'
  have hfr : H s.heap.objs.size = none := I.hok.fresh (Nat.le_refl _)
  have hin : ∀ c ∈ [z, ti, to, it1, it2], c < s.heap.objs.size := fun c hc => by
   simp only [List.mem_cons, List.not_mem_nil, or_false] at hc
   rcases hc with rfl | rfl | rfl | rfl | rfl
   · exact Heap.lt_size hz
   · exact Heap.lt_size hti
   · exact Heap.lt_size hto
   · obtain ⟨o, e, _⟩ := hi1; exact Heap.lt_size e
   · obtain ⟨o, e, _⟩ := hi2; exact Heap.lt_size e
  have hTn : ∀ c ∈ [z, ti, to, it1, it2], s.heap.objs.size ≠ c := fun c hc => Nat.ne_of_gt (hin c hc)
  have hk' : ∀ c o, c ∉ [z, to, it1, it2] → s.heap.get? c = some o → g'.get? c = some o := fun c o n e => by
   simp only [List.mem_cons, List.not_mem_nil, or_false, not_or] at n
   exact gs'.extBut c o n.1 (gk c o n.1 n.2.1 n.2.2.1 n.2.2.2 e)
  have hT' : g'.get? s.heap.objs.size = some { cls := .type "tuple", data := .seq #[u, v] } := gs'.extBut _ _ (hTn z (by simp)) gT
  have old1 : ∀ c o, H c = some o → c ∉ [z, to, it1, it2] := fun c o e m => ne e (show c ∈ [z, ti, to, it1, it2] by
   simp only [List.mem_cons, List.not_mem_nil, or_false] at m ⊢
   rcases m with m | m | m | m <;> simp [m]) rfl
  have I1 : Inv X pins σ (upd H s.heap.objs.size (.tup [x, y])) { s with heap := g', toks := s.toks } := by
   refine I.step (g' := s.gens) (d' := s.drawn) (ch := [z, to, it1, it2]) (fun c hc => ?_) (fun c o n1 n2 n3 e _ => hk' c o n3 e)
    (fun c o n1 n2 n3 e _ => ⟨o.slots, hk' c o n3 e⟩) (fun c o n3 e n => ?_) (fun c o n3 e => ⟨o, hk' c o n3 e⟩)
    (fun c zs e => by rw [upd_ne (ne_of_none e hfr)]; exact e) (fun c o zs e => by rw [upd_ne (ne_of_none e hfr)]; exact e) (fun c ps e => ⟨#[], by rw [upd_ne (ne_of_none e hfr), e]; simp⟩) (fun m hm => ?_) (fun c ob e => ?_) I.bare
   · obtain ⟨f0, f1, f2, f3, f4, f5⟩ := hf c (by
      simp only [List.mem_cons, List.not_mem_nil, or_false] at hc ⊢
      rcases hc with hc | hc | hc | hc <;> simp [hc])
     exact ⟨f3, f1, f4, f5⟩
   · rw [upd_ne (Nat.ne_of_lt (Heap.lt_size e))]; exact n
   · obtain ⟨o, es, ep, hoo, r⟩ := hm
     refine ⟨o, es, ep, hk' _ o (fun m => ?_) hoo, r⟩
     simp only [List.mem_cons, List.not_mem_nil, or_false] at m
     rcases m with m | m | m | m
     · exact (hf z (by simp)).2.1 m.symm
     · exact (hf to (by simp)).2.1 m.symm
     · exact (hf it1 (by simp)).2.1 m.symm
     · exact (hf it2 (by simp)).2.1 m.symm
   · by_cases hcb : c = s.heap.objs.size
     · subst hcb
       rw [upd_same] at e
       cases e
       exact ⟨by show 2 ≤ sizeLine; omega, [u, v], .cons ru (.cons rvv .nil), ⟨_, hT', rfl, _, rfl⟩, fun q hq => by
        have hq : g'.get? s.heap.objs.size = some q := hq
        rw [hT'] at hq
        cases hq
        rfl⟩
     · rw [upd_ne hcb] at e
       refine (I.hok c ob e).stay (fun d o hc q => ?_) (fun d q => by rw [upd_ne (ne_of_none q hfr)]; exact q) fun d zs q => by rw [upd_ne (ne_of_none q hfr)]; exact q
       rcases hc with rfl | hc
       · exact hk' d o (old1 d _ e) q
       · exact hk' d o (old1 d _ hc) q
  refine ⟨.ref s.heap.objs.size, _, I1, rfl, ⟨_, x, y, rfl, hfr, rfl, fun zs e => by rw [← I.tuple_inj hxs e]; exact hx, fun zs e => by rw [hys] at e; cases e; exact hy⟩, ⟨gz', gs'.extBut _ _ ?_ gti, ⟨u, v, gs'.extBut _ _ ?_ gto⟩, gi1.extBut gs'.extBut ?_, gi2.extBut gs'.extBut ?_⟩, fun c hc => ?_⟩
  · simp only [List.nodup_cons, List.mem_cons, List.not_mem_nil, or_false, not_or] at nd; exact Ne.symm nd.1.1
  · simp only [List.nodup_cons, List.mem_cons, List.not_mem_nil, or_false, not_or] at nd; exact Ne.symm nd.1.2.1
  · simp only [List.nodup_cons, List.mem_cons, List.not_mem_nil, or_false, not_or] at nd; exact Ne.symm nd.1.2.2.1
  · simp only [List.nodup_cons, List.mem_cons, List.not_mem_nil, or_false, not_or] at nd; exact Ne.symm nd.1.2.2.2
  · rw [upd_ne (Ne.symm (hTn c hc))]; exact ff c hc
 done := by
  intro X hP hw hK hc i pins s σ H E I hf st hg
  subst hP hw hK
  obtain ⟨xs, ys, hxs, hys, hx, hy⟩ := hg
  obtain ⟨its, rv, p, _⟩ := I.tuple hxs
  obtain ⟨jts, rw', q⟩ := lstAt I.hok hys
  obtain ⟨hz, hti, ⟨u0, v0, hto⟩, hi1, hi2⟩ := st
  have ff : ∀ c ∈ [z, ti, to, it1, it2], H c = none := fun c hc => (hf c hc).1
  have ne : ∀ {c d : Addr} {o : HO}, H c = some o → d ∈ [z, ti, to, it1, it2] → c ≠ d := fun {c d o} e hd q => by rw [q, ff d hd] at e; cases e
  have l1 := rv.length
  have l2 := rw'.length
  refine zip_endL (I.ok.hd hc) hz hti hto hi1 hi2 p q (by simp; omega) (by simp; omega) nd ⟨fun m => ?_, fun m => ?_⟩ fun g gk => ⟨rfl, ?_⟩
  · simp only [List.mem_cons, List.not_mem_nil, or_false] at m
    rcases m with m | m | m | m <;> exact na (by simp [m])
  · simp only [List.mem_cons, List.not_mem_nil, or_false] at m
    rcases m with m | m | m | m <;> exact ne hys (by simp) m
  have hk' : ∀ c o, c ∉ [z, it1, it2] → s.heap.get? c = some o → g.get? c = some o := fun c o n e => by
   simp only [List.mem_cons, List.not_mem_nil, or_false, not_or] at n
   exact gk c o n.1 n.2.1 n.2.2 e
  have old1 : ∀ c o, H c = some o → c ∉ [z, it1, it2] := fun c o e m => ne e (show c ∈ [z, ti, to, it1, it2] by
   simp only [List.mem_cons, List.not_mem_nil, or_false] at m ⊢
   rcases m with m | m | m <;> simp [m]) rfl
  refine I.step (g' := s.gens) (t' := s.toks) (d' := s.drawn) (ch := [z, it1, it2]) (fun c hc => ?_) (fun c o n1 n2 n3 e _ => hk' c o n3 e)
   (fun c o n1 n2 n3 e _ => ⟨o.slots, hk' c o n3 e⟩) (fun _ _ _ _ n => n) (fun c o n3 e => ⟨o, hk' c o n3 e⟩)
   (fun _ _ e => e) (fun _ _ _ e => e) (fun c ps e => ⟨#[], by rw [e]; simp⟩) (fun m hm => ?_) (fun c ob e => ?_) I.bare
  · obtain ⟨f0, f1, f2, f3, f4, f5⟩ := hf c (by
     simp only [List.mem_cons, List.not_mem_nil, or_false] at hc ⊢
     rcases hc with hc | hc | hc <;> simp [hc])
    exact ⟨f3, f1, f4, f5⟩
  · obtain ⟨o, es, ep, hoo, r⟩ := hm
    refine ⟨o, es, ep, hk' _ o (fun m => ?_) hoo, r⟩
    simp only [List.mem_cons, List.not_mem_nil, or_false] at m
    rcases m with m | m | m
    · exact (hf z (by simp)).2.1 m.symm
    · exact (hf it1 (by simp)).2.1 m.symm
    · exact (hf it2 (by simp)).2.1 m.symm
  · refine (I.hok c ob e).stay (fun d o hc q => ?_) (fun d q => q) fun d zs q => q
    rcases hc with rfl | hc
    · exact hk' d o (old1 d _ e) q
    · exact hk' d o (old1 d _ hc) q
 self := fun _ _ _ _ _ st h => by
  obtain ⟨hz, _⟩ := st
  exact iter_zip hz h
end
section
variable {X : Cx}
noncomputable def iZipK (K : PySem.W.Frag) (ta : TA) : TI := fun σ H R => ta σ H fun vs H1 => ∃ a b xs ys, vs = [.ref a, .ref b] ∧ SqT K H1 a xs ∧ H1 b = some (.lst ys) ∧ R (ItzK K a b) H1
theorem pi_zipK {elts : List Expr} {k1 kc} {tpos kp kpos : Pos} {a b : Expr} {ta : TA} {p pos : Pos} (hg : Gl X "zip") (hm : X.mg "zip" = none) (ha : PA X [a, b] ta) (hs : starEach [a, b] X.env = (false, eval a X.env) :: starEach [b] X.env := by rfl) (hpl : ((backTo pos (starEach [a, b] X.env)).any (·.1)) = false := by rfl) :
  PI X (.Tuple elts k1 tpos) (.Call (.Name "zip" p) [a, b] [⟨some "strict", .Constant (.bool true) kc kp, kpos⟩] pos) (iZipK X.K ta) := by
 intro pins s σ H R I h
 refine wpAny_Call_Name_kw (ld_blt I hg hm boot_zip ?_)
 refine PySem.W.callWith_of (P := fun _ => True) (by rw [hpl]; rfl) (fun h _ => ⟨.machine, .inr (.inl rfl), ?_⟩) ?_
 · exact fun A Q E s _ q => (show wpAny _ A (pure Keeper.machine) Q E s from wpAny_pure q)
 have e0 : backTo pos (starEach [a, b] X.env) = (false, eval a X.env) :: backTo pos (starEach [b] X.env) := by rw [hs]; rfl
 rw [e0]
 refine evalArgs_kwB rfl ?_
 rw [← e0]
 refine thn (ha pos pins s σ H _ I h) fun us s1 ⟨vs, H1, I1, r1, q1⟩ => ?_
 obtain ⟨t1, t2, xs, ys, rfl, hx, hy, q⟩ := q1
 refine kws_cons (Constant_bool (kws_nil ⟨trivial, ?_⟩))
 cases r1 with
 | cons ra rr =>
   cases rr with
   | cons rb rn =>
     cases rn
     cases ra
     cases rb
     obtain ⟨its, rv, p1, _⟩ := I1.tuple hx
     have hlt : t1 < s1.heap.objs.size := by
      obtain ⟨o, e, _⟩ := p1
      exact Heap.lt_size e
     obtain ⟨jts, rw', p2⟩ := lstAt I1.hok hy
     refine call_zipTL p1 p2 fun g f1 f2 f3 f4 f5 f6 f7 => ?_
     refine iter_zip f1 ?_
     refine ⟨s1.heap.objs.size + 4, [s1.heap.objs.size + 4, s1.heap.objs.size + 2, s1.heap.objs.size + 3, s1.heap.objs.size, s1.heap.objs.size + 1], _, _, H1, rfl, I1.kept (t' := s1.toks) f7, turn_zipK t1 t2 _ _ _ _ _ (by simp) (fun m => by
      have hlt : (t1 : Nat) < s1.heap.objs.size := hlt
      simp only [List.mem_cons, List.not_mem_nil, or_false] at m
      rcases m with m | m | m | m | m <;> first | exact Nat.not_lt.mpr (Nat.le_add_right _ _) (m ▸ hlt) | exact Nat.lt_irrefl _ (m ▸ hlt)) (by rw [sizeLine_eq]; omega), ⟨f1, f2, ⟨_, _, f3⟩, f4, f5⟩, fun c hc => ?_, q⟩
     have hl : s1.heap.objs.size ≤ c := by
      simp only [List.mem_cons, List.not_mem_nil, or_false] at hc
      rcases hc with rfl | rfl | rfl | rfl | rfl <;> omega
     exact I1.fpOk hl (I1.hok.fresh hl)
end
section
variable {K : PySem.W.Frag} {a b : Addr} {xs zs : List V} {g : TG} {tc : TT} {te : TE} {k : Nat} {cap : List Nat} {σ : St} {H : Hp} {Q : VK}
theorem lc_zipK (hn : xs.length = zs.length) (Pv : Nat → List V → Hp → Prop) (h0 : Pv 0 [] H) (hl : ∀ i ys H, i ≤ xs.length → Pv i ys H → SqT K H a xs ∧ H b = some (.lst zs) ∧ ys.length ≤ sizeLine)
  (hs : ∀ i x z ys H p, xs[i]? = some x → zs[i]? = some z → Pv i ys H → H p = none → g (.ref p) (capσ k cap σ) (upd H p (.tup [x, z])) fun σ2 H2 => tc σ2 H2 fun b H3 => if b = true then te σ2 H3 fun y H4 => Pv (i + 1) (ys ++ [y]) H4 else Pv (i + 1) ys H3)
  (hd : ∀ ys H, Pv xs.length ys H → ∀ p, H p = none → Q (.ref p) (upd H p (.lst ys))) : LcEnd (ItzK K a b) g tc te k cap σ H Q := by
 refine ⟨fun i m ys H => m = xs.length - i ∧ i ≤ xs.length ∧ Pv i ys H, ⟨xs.length, by simp, Nat.zero_le _, h0⟩, ?_⟩
 rintro i m ys H ⟨rfl, hi, p⟩
 obtain ⟨q1, q2, hz⟩ := hl i ys H hi p
 by_cases hlt : i < xs.length
 · have hlz : i < zs.length := by omega
   refine .inr ⟨⟨xs, zs, xs[i], zs[i], q1, q2, by simp [hlt], by simp [hlz]⟩, hz, Pv (i + 1), fun ys' H' p' => ⟨xs.length - (i + 1), by omega, rfl, hlt, p'⟩, fun x H' y => ?_⟩
   obtain ⟨p', x', y', rfl, hn', rfl, hx, hy⟩ := y
   exact hs i x' y' ys H p' (hx xs q1) (hy zs q2) p hn'
 · have e : i = xs.length := by omega
   subst e
   exact .inl ⟨⟨xs, zs, q1, q2, Nat.le_refl _, by omega⟩, hz, hd ys H p⟩
end
noncomputable def entsOf (w : World) (l : List (Str × Tok × Value)) : List DictEntry := l.map fun x => ⟨hashStr w x.1, .str x.1 x.2.1, x.2.2⟩
noncomputable def KDict (w : World) (K : PySem.W.Frag) (a : Addr) (kvs : List (Str × V)) : Prop :=
 (a == sysModules) = false ∧ (kvs.map (·.1)).Nodup ∧ ∃ (l : List (Str × Tok × Value)) (ep : Nat), K.lookup a = some ⟨.type "dict", none, .dict (entsOf w l).toArray ep, #[]⟩ ∧ Paired (fun (p : Str × V) (q : Str × Tok × Value) => p.1 = q.1 ∧ RelV p.2 q.2.2) kvs l
theorem ents_keys {P : Program} {w : World} : ∀ l : List (Str × Tok × Value), ∀ e ∈ entsOf w l, ∃ k : Key, (mixKind P w).is k e.key = true ∧ e.hash = (mixKind P w).hash k := fun l e he => by
 obtain ⟨x, _, rfl⟩ := List.mem_map.mp he
 exact ⟨.inr x.1, keyIs_str x.1 x.2.1, rfl⟩
theorem ents_pairs {P : Program} {w : World} : ∀ l : List (Str × Tok × Value), Pairs (mixKind P w) (entsOf w l) (l.map fun x => ((Sum.inr x.1 : Key), x.2.2))
 | [] => .nil
 | x :: r => .cons (keyIs_str x.1 x.2.1) rfl (ents_pairs r)
theorem kv_ents : ∀ {kvs : List (Str × V)} {l : List (Str × Tok × Value)}, Paired (fun (p : Str × V) (q : Str × Tok × Value) => p.1 = q.1 ∧ RelV p.2 q.2.2) kvs l → KV (kvs.map fun x => ((Sum.inr x.1 : Key), x.2)) (l.map fun x => ((Sum.inr x.1 : Key), x.2.2))
 | _, _, .nil => .nil
 | _, _, .cons h t => .cons ⟨congrArg Sum.inr h.1, h.2⟩ (kv_ents t)
theorem KDict.at {X : Cx} {pins : List (Addr × Obj)} {σ : St} {H : Hp} {s : Shared} {a : Addr} {kvs : List (Str × V)} (I : Inv X pins σ H s) (d : KDict X.w X.K a kvs) : (a == sysModules) = false ∧ ∃ vs, KV (kvs.map fun x => ((Sum.inr x.1 : Key), x.2)) vs ∧ s.heap.DictOf (mixKind X.prog X.w) a vs := by
 obtain ⟨h0, nd, l, ep, hk, r⟩ := d
 have rk := kv_ents r
 refine ⟨h0, _, rk, _, _, ep, I.kIn a _ hk, ⟨rfl, rfl, rfl⟩, rfl, fun e he => ents_keys l e (by simpa using he), by simpa using ents_pairs l, ?_⟩
 rw [← rk.keys, List.map_map]
 have : ((fun x : Key × V => x.1) ∘ fun x : Str × V => ((Sum.inr x.1 : Key), x.2)) = (Sum.inr : Str → Key) ∘ fun x : Str × V => x.1 := rfl
 rw [this, ← List.map_map]
 exact List.Pairwise.map _ (fun a b h z => h (Sum.inr.inj z)) nd
noncomputable def tDGetK (w : World) (K : PySem.W.Frag) (td ty : TE) : TE := fun σ H Q => td σ H fun x H1 => ∃ a kvs, x = .ref a ∧ KDict w K a kvs ∧ ty σ H1 fun y H2 => ∃ k : Str, y = .str k ∧ Q ((valV kvs k).getD .non) H2
section
variable {X : Cx} {o e f : Expr} {apos cpos : Pos} {td ty tx : TE}
theorem valV_inr (k : Str) : ∀ kvs : List (Str × V), valV (kvs.map fun x => ((Sum.inr x.1 : Key), x.2)) (.inr k) = valV kvs k
 | [] => rfl
 | x :: r => by
   have ih := valV_inr k r
   unfold valV at ih ⊢
   rw [List.map_cons, List.find?_cons, List.find?_cons, key_rr]
   by_cases h : x.1 = k
   · rw [decide_eq_true h]; rfl
   · rw [decide_eq_false h]; exact ih
theorem pe_dgetK (ho : PE X o td) (he : PE X e ty) (m : M1 X o "get" apos e cpos) : PE X (.Call (.Attribute o "get" apos) [e] [] cpos) (tDGetK X.w X.K td ty) := by
 intro pins s σ H Q I h
 refine wpAny_Call_method m.base m.few m.line PySem.F.plainAttrs_dict PySem.F.slot_dict_get PySem.F.type_dict_get (thn (ho pins s σ H _ I h) fun u s1 ⟨x, H1, I1, rx, a, kvs, ex, d, q1⟩ => ?_)
 subst ex
 obtain rfl : u = Value.ref a := rx
 obtain ⟨hd, vs, rel, dd⟩ := d.at I1
 refine ⟨dd.typeIs, fun b q => ?_, ?_⟩
 · cases q
   obtain ⟨ob, _, _, h1, h2, _⟩ := dd
   exact ⟨ob, h1, h2.2.1⟩
 rw [m.trees]
 refine Calls.callWith_builtin rfl (Calls.evalArgs_plain (Calls.spliced_cons (thn (he pins s1 σ H1 _ I1 q1) fun iv s2 ⟨y, H2, I2, ry, k, ey, q2⟩ => Calls.spliced_nil ?_)))
 subst ey
 obtain ⟨hd, vs, rel, dd⟩ := d.at I2
 refine call_meetsIn PySem.F.slot_dict_get dd.typeIs PySem.F.entry_dict_get (PySem.F.args_dict_get_2 _ _) (meets_dict_get (mixKind X.prog X.w) a (kV_is (k := .inr k) ry) hd) ⟨_, dd.mapOf, _, H2, I2.tok _, ?_, q2⟩
 rw [← valV_inr]
 exact (rel.val (.inr k)).getD rfl
end
section
variable {prog : Program} {w : World} {A : Around} {E : Value → Shared → Prop} {s : Shared} {T : String} {r d : Addr} {n : Nat} {P : Nat → Value → Prop} {OK : Heap → Prop}
theorem listed {R : List Value → Shared → Prop} (S : PySem.W.KdlSrc prog w T r d n P OK) (hh : A.handled = none) (hok : OK s.heap) (hn : n ≤ sizeLine)
  (h : ∀ (h' : Heap) (tk : Nat) (l : List Value), (∀ b o, s.heap.get? b = some o → h'.get? b = some o) → s.heap.objs.size < h'.objs.size → l.length = n → (∀ (j : Nat) (v : Value), l[j]? = some v → P j v) → R l { s with heap := h', toks := tk }) :
  wpAny (model prog w) A (collect (.ref r)) R E s := by
 obtain ⟨l1, l2⟩ := S.there _ hok
 have g0 : (s.heap.push { cls := .type "list", data := .seq ([] : List Value).toArray }).get? s.heap.objs.size = some { cls := .type "list", data := .seq #[] } := Heap.get?_push_size _ rfl
 have ok1 := S.keep _ (s.heap.push { cls := .type "list", data := .seq ([] : List Value).toArray }) hok fun b _ o e => Heap.get?_push_of_some _ e
 have fin : ∀ (h' : Heap) (tk : Nat) (acc : Array Value) (c : Nat), (∀ b o, b ≠ s.heap.objs.size → (s.heap.push { cls := .type "list", data := .seq ([] : List Value).toArray }).get? b = some o → h'.get? b = some o) → h'.get? s.heap.objs.size = some { cls := .type "list", dict := none, data := .seq acc c, slots := #[] } → ItemsOf P acc n → R acc.toList { s with heap := h', toks := tk } := fun h' tk acc c hk hS ha =>
  h h' tk acc.toList (fun b o e => hk b o (Nat.ne_of_lt (Heap.lt_size e)) (Heap.get?_push_of_some _ e)) (Heap.lt_size hS) (by rw [Array.length_toList]; exact ha.1) fun j v e => ha.2 j v (by rw [← Array.getElem?_toList]; exact e)
 unfold collect
 refine wpAny_bind (wpAny_runValue (codeAny_builtin entry_proto_collect' ?_))
 rw [Around.under_plainId PySem.F.plain_proto_collect _]
 refine wpAny_bind (wpAny_newObj_type (wpAny_pure ⟨plainId_quiet PySem.F.plain_list_iadd _, codeAny_builtin entry_list_iadd' ?_⟩))
 rw [Around.under_plainId PySem.F.plain_list_iadd _]
 refine wpAny_mono (PySem.W.kdl_extend (A := A) (s := { s with heap := s.heap.push { cls := .type "list", data := .seq ([] : List Value).toArray } })
  (R := fun (q : Result) (s' : Shared) => q = .ok (.ret (.ref s.heap.objs.size)) ∧ ∃ (h' : Heap) (tk : Nat) (acc : Array Value) (c : Nat), s' = { s with heap := h', toks := tk } ∧ h'.get? s.heap.objs.size = some { cls := .type "list", dict := none, data := .seq acc c, slots := #[] } ∧ R acc.toList s')
  S hh ok1 s.heap.objs.size (Nat.ne_of_gt l1) (Nat.ne_of_gt l2) (.ref s.heap.objs.size) 0 g0 (fun h' tk acc c hk hS ha => ⟨rfl, h', tk, acc, c, rfl, hS, fin h' tk acc c hk hS ha⟩) hn) (fun f s' x => ?_) fun e s' x => ?_
 · cases f with
   | done f =>
     obtain ⟨e, h', tk, acc, c, rfl, hS, hR⟩ := x
     cases e
     exact wpAny_bind (wpAny_load hS (wpAny_pure hR))
   | again c₁ =>
     refine ⟨x.1, codeAny_mono x.2 fun q s₂ y => ?_⟩
     obtain ⟨rfl, h', tk, acc, c, rfl, hS, hR⟩ := y
     exact wpAny_bind (wpAny_load hS (wpAny_pure hR))
 · exact nomatch x.1
end
section
variable {X : Cx}
noncomputable def rSortD : List V → Hp → VK → Prop := fun xs H Q => ∃ (d : Addr) (kvs : List (Key × V)) (ns : List Int), xs = [.ref d] ∧ Rd H d (.dK kvs) ∧ kvs.map (·.1) = ns.map (Sum.inl : Int → Key) ∧ ns.length < 64 ∧ ∀ (ns' : List Int) l, ns'.Perm ns → ns'.Pairwise (· ≤ ·) → H l = none → Q (.ref l) (upd H l (.lst (ns'.map V.int)))
theorem call_sortD (hc : X.calm = true) : CallR X (.builtin "sorted") rSortD := by
 intro pins s σ H xs us Q I r h
 obtain ⟨d, kvs, ns, rfl, hd, hns, h64, q⟩ := h
 obtain ⟨u, rfl, rx⟩ := vals1 r
 cases rx
 obtain ⟨hz, hS, vs, rel, dd⟩ := dk_rd I.hok hd
 obtain ⟨ep, da⟩ := dd.dictAt
 have hlen := rel.length
 have hnl : kvs.length = ns.length := by
  have := congrArg List.length hns
  rw [List.length_map, List.length_map] at this
  exact this
 refine Calls.call_function_entry kind_sorted plain_sorted entry_sorted (args_sorted1 _) ?_
 unfold Builtin.«sorted»
 refine wpAny_bind (m := checkCount "sorted" 1 1 _) (wpAny_pure ?_)
 refine wpAny_bind (listed (PySem.W.kdl_dict hS) (I.ok.hd hc) da (by rw [← hlen]; exact hz) fun h' tk l hk hsz hl hP => ?_)
 refine wpAny_bind (wpAny_newList ?_ (by rw [hl, ← hlen]; exact hz))
 have hv : Vals (ns.map V.int) l := vals_by (by rw [List.length_map, hl, ← hlen, hnl]) fun j x v e1 e2 => by
  obtain ⟨k, y, h1, h2⟩ := hP j v e2
  rw [List.getElem?_map] at e1
  cases e3 : ns[j]? with
  | none => rw [e3] at e1; cases e1
  | some n =>
    rw [e3] at e1
    have e1 : V.int n = x := Option.some.inj e1
    have e4 : (kvs.map (·.1))[j]? = some (Sum.inl n) := by rw [hns, List.getElem?_map, e3]; rfl
    rw [List.getElem?_map] at e4
    cases e5 : kvs[j]? with
    | none => rw [e5] at e4; cases e4
    | some kv =>
      rw [e5] at e4
      have e4 : kv.1 = Sum.inl n := Option.some.inj e4
      obtain ⟨w', hw, _⟩ := rel.get e5
      rw [hw] at h1
      have h1 := Option.some.inj h1
      have hk' : kv.1 = k := congrArg Prod.fst h1
      rw [← hk', e4] at h2
      rw [← e1]
      exact rel_kV h2
 have hoL : (h'.push (seqObj "list" l.toArray 0)).get? h'.objs.size = some (seqObj "list" l.toArray 0) := Heap.get?_push_size _ rfl
 refine wpAny_bind (wpAny_holding (wpAny_call_entry slot_list_sort ⟨_, hoL, rfl⟩ entry_list_sort (list_sort_tree hoL (intsAre_of hv) (by rw [hl, ← hlen, hnl]; exact h64) fun out ns' a1 a2 a3 => ⟨_, rfl, ?_⟩) (args_list_sort _)))
 refine wpAny_pure ⟨_, rfl, ?_⟩
 obtain ⟨e, he⟩ := sortedHeap_at (out := out) hoL
 have hn := a2.length_eq
 refine ⟨.ref h'.objs.size, upd H h'.objs.size (.lst (ns'.map V.int)), I.laid (t' := tk) (fun b o ho => ?_) (Nat.le_of_lt hsz) (show ObjOk X.prog X.w _ _ _ (.lst (ns'.map V.int)) from ⟨?_, out.toList, e, vals_ofI a1, ?_⟩), rfl, q ns' _ a2 a3 (I.hok.fresh (Nat.le_of_lt hsz))⟩
 · have hb := hk b o ho
   have hlt := Heap.lt_size hb
   rw [sortedHeap_old (Nat.ne_of_lt hlt) (by rw [size_push']; exact Nat.lt_succ_of_lt hlt)]
   exact Heap.get?_push_of_some _ hb
 · rw [List.length_map]; exact small_le (by omega)
 · simpa [seqObj] using he
end
section
variable {X : Cx}
noncomputable def rDClear : V → List V → Hp → VK → Prop := fun x vs H Q => ∃ d kvs, x = .ref d ∧ vs = [] ∧ H d = some (.dK kvs) ∧ Q .non (upd H d (.dK []))
theorem mt_dclear : MtM X "dict.clear" rDClear := by
 intro pins s σ H x vs v us Q I rx rv h
 obtain ⟨d, kvs, rfl, rfl, hH, q⟩ := h
 cases rx
 have hus := rv.zero
 subst hus
 exact d_clear I hH fun s' I' => ⟨.non, _, I', rfl, q⟩
end
end L2
namespace My
open PySem PySem.Spec PyProof.Rows L2
noncomputable def top (i : Nat) : Stmt := PySem.Challenge.pw_meetwall_k66_houses_shown_and_read.main.body.getD i (.Pass ⟨0, 0, 0, 0⟩)
abbrev s_is_whole : Stmt := top 21
abbrev s_is_within : Stmt := top 22
abbrev s_is_tuple_within : Stmt := top 23
abbrev s_is_letters : Stmt := top 24
abbrev s_is_word : Stmt := top 25
abbrev s_is_box : Stmt := top 26
abbrev s_is_wall : Stmt := top 27
abbrev s_is_member : Stmt := top 28
abbrev s_are_members : Stmt := top 29
abbrev s_is_calling : Stmt := top 30
abbrev s_is_deed : Stmt := top 31
abbrev s_is_script : Stmt := top 32
abbrev s_is_frame : Stmt := top 33
abbrev s_is_well_formed : Stmt := top 34
abbrev s_brought : Stmt := top 35
abbrev s_is_small : Stmt := top 36
abbrev s_is_allowed : Stmt := top 37
abbrev s_fits : Stmt := top 38
abbrev s_is_house : Stmt := top 39
theorem bt_isi : bootBuiltins "isinstance" = some (.builtin "isinstance") := by decide +kernel
theorem bt_len : bootBuiltins "len" = some (.builtin "len") := by decide +kernel
theorem bt_all : bootBuiltins "all" = some (.builtin "all") := by decide +kernel
theorem bt_sum : bootBuiltins "sum" = some (.builtin "sum") := by decide +kernel
theorem bt_int : bootBuiltins "int" = some (.type "int") := by decide +kernel
theorem bt_bool : bootBuiltins "bool" = some (.type "bool") := by decide +kernel
theorem bt_str : bootBuiltins "str" = some (.type "str") := by decide +kernel
theorem bt_tuple : bootBuiltins "tuple" = some (.type "tuple") := by decide +kernel
theorem bt_dict : bootBuiltins "dict" = some (.type "dict") := by decide +kernel
noncomputable def Ok (P : Program) (w : World) (K : PySem.W.Frag) (mg : Str → Option Value) (base : Heap) (x : Str) (k : Nat) (ps : List Str) (sp : Sp) : Prop :=
 ∃ f fd, FnOk P w K mg base CX0 k f fd ps sp ∧ Binds K fd ps [] ∧ PySem.W.keepIn K (.ref f) = true ∧ mg x = some (.ref f)
theorem pe_fn {X : Cx} {x : Str} {k : Nat} {ps : List Str} {sp : Sp} {p pos : Pos} {e : Expr} {es : List Expr} {t : TA} (h : Ok X.prog X.w X.K X.mg X.base x k ps sp) (hr : Room k X.A) (ha : PA X (e :: es) t) (hg : Gl X x := by rfl)
  (hdb : (x == ("__debug__" : Str)) = false := by decide) (he : starEach (e :: es) X.env = (false, eval e X.env) :: starEach es X.env := by rfl) (hpl : (backTo pos (starEach es X.env)).any (·.1) = false := by rfl) :
  PE X (.Call (.Name x p) (e :: es) [] pos) (tCall sp [] E0 t) := by
 obtain ⟨f, fd, F, hb, hk, hm⟩ := h
 exact pe_call F hr hg hm hk hb .nil pass0 ha hdb he hpl
noncomputable def Def (K : PySem.W.Frag) (mg : Str → Option Value) (x : Str) (st : Stmt) : Prop := ∃ f fd, Fun K x x st f fd ∧ mg x = some (.ref f)
theorem pe_cst {X : Cx} {x : Str} {i : Int} {pos : Pos} (h : ∃ t, X.mg x = some (.int i t)) (hg : Gl X x := by rfl) (hd : (x == ("__debug__" : Str)) = false := by decide) : PE X (.Name x pos) (tC (.int i)) := by
 obtain ⟨t, h⟩ := h
 exact pe_glob hg h ⟨t, rfl⟩ hd
structure Txt (K : PySem.W.Frag) (mg : Str → Option Value) : Prop where
 BOXES : ∃ t, mg "BOXES" = some (.int 0 t)
 WALLS : ∃ t, mg "WALLS" = some (.int 1 t)
 FIRSTS : ∃ t, mg "FIRSTS" = some (.int 2 t)
 SCRIPTS : ∃ t, mg "SCRIPTS" = some (.int 3 t)
 MOST_BOXES : ∃ t, mg "MOST_BOXES" = some (.int 99 t)
 MOST_WALLS : ∃ t, mg "MOST_WALLS" = some (.int 6 t)
 MOST_FIRSTS : ∃ t, mg "MOST_FIRSTS" = some (.int 40 t)
 MOST_SCRIPTS : ∃ t, mg "MOST_SCRIPTS" = some (.int 20 t)
 MOST_DEEDS_OF_SCRIPT : ∃ t, mg "MOST_DEEDS_OF_SCRIPT" = some (.int 80 t)
 MOST_HANDS : ∃ t, mg "MOST_HANDS" = some (.int 60 t)
 MOST_DEEDS : ∃ t, mg "MOST_DEEDS" = some (.int 1200 t)
 MOST_RAISED : ∃ t, mg "MOST_RAISED" = some (.int 99 t)
 MOST_AWAITED : ∃ t, mg "MOST_AWAITED" = some (.int 9999 t)
 MOST_WORKED : ∃ t, mg "MOST_WORKED" = some (.int 999 t)
 MOST_LETTERS : ∃ t, mg "MOST_LETTERS" = some (.int 8 t)
 MODES : ∃ a, mg "MODES" = some (.ref a) ∧ ∀ H, SqT K H a [.str "both", .str "come", .str "go"]
 MOST_FIGURES : ∃ t, mg "MOST_FIGURES" = some (.int 30 t)
 isi : mg "isinstance" = none
 int : mg "int" = none
 bool : mg "bool" = none
 str : mg "str" = none
 tuple : mg "tuple" = none
 dict : mg "dict" = none
 list : mg "list" = none
 len : mg "len" = none
 all : mg "all" = none
 sum : mg "sum" = none
 range : mg "range" = none
 enumerate : mg "enumerate" = none
 sorted : mg "sorted" = none
 zip : mg "zip" = none
noncomputable def spB1 (A : T → Prop) (f : T → Bool) : Sp := fun vs H Q _ => ∃ t v, vs = [v] ∧ Is H t v ∧ A t ∧ ∀ H', Same H H' → Q (.bl (f t)) H'
section
variable {X : Cx} {e : Expr} {te : TE} {p1 p2 pos : Pos}
theorem pe_isi {n : Str} {T : String} (h1 : X.mg "isinstance" = none) (h2 : X.mg n = none) (hb : bootBuiltins n = some (.type T)) (he : PE X e te) (g1 : Gl X "isinstance" := by rfl) (g2 : Gl X n := by rfl) (hn : n ≠ "__name__" := by decide) (hd : (n == ("__debug__" : Str)) = false := by decide)
  (hs : starEach [e, .Name n p2] X.env = (false, eval e X.env) :: starEach [.Name n p2] X.env := by rfl) (hp : (backTo pos (starEach [.Name n p2] X.env)).any (·.1) = false := by rfl) (hs2 : starEach [.Name n p2] X.env = (false, eval (.Name n p2) X.env) :: starEach [] X.env := by rfl) :
  PE X (.Call (.Name "isinstance" p1) [e, .Name n p2] [] pos) (tCB (rIsi X.K) (tCons te (tCons (tC (.ty T)) tNil))) :=
 pe_callB call_isi g1 h1 bt_isi (pa_cons he (pa_cons (pe_bltn g2 h2 hb rfl hn hd) pa_nil hs2) hs) (he := hs) (hpl := hp)
end
noncomputable def mWhole : T → Bool | .int _ => true | _ => false
section
variable {P : Program} {w : World} {K : PySem.W.Frag} {mg : Str → Option Value} {base : Heap}
theorem sc1 : FnScope ["thing"] ["thing"] (defScope s_is_whole) := ⟨rfl, rfl, rfl, by decide +kernel, rfl, by decide +kernel, by decide +kernel⟩
theorem ok_is_whole (D : Def K mg "is_whole" s_is_whole) (T : Txt K mg) : Ok P w K mg base "is_whole" 1 ["thing"] (spB1 (fun _ => True) mWhole) := by
 obtain ⟨f, fd, F, hm⟩ := D
 refine ⟨f, fd, ?_, F.binds fun _ _ _ _ _ _ us hl => (match us, hl with | [_], _ => rfl), F.kp, hm⟩
 refine F.ok sc1 (fun vs H Q E h => ?_) (fun cdv A outer s H vs Q E hr h => ?_)
 · obtain ⟨t, v, rfl, _⟩ := h
   rfl
 · obtain ⟨t, v, rfl, ht, _, k⟩ := h
   refine ⟨_, pss_one (ps_ret (pe_and (pe_isi T.isi T.int bt_int (pv 0)) (pe_one (pe_not (pe_isi T.isi T.bool bt_bool (pv 0)))))), ?_⟩
   refine ⟨_, rfl, v, "int", _, _, rfl, ht.ty, kit_int K t, _, rfl, ?_⟩
   refine ite2 (fun c => ?_) (fun c => ?_)
   · refine ⟨_, rfl, v, "bool", _, _, rfl, ht.ty, kit_bool K t, _, rfl, ?_⟩
     have e : (!iBl t) = mWhole t := by cases t <;> first | rfl | (exact absurd c (by simp [iInt]))
     rw [e]
     exact k H (Same.refl H)
   · have e : false = mWhole t := by cases t <;> first | rfl | (exact absurd rfl c)
     rw [e]
     exact k H (Same.refl H)
noncomputable def mWithin (t : T) (lo hi : Int) : Bool := match t with | .int i => decide (lo ≤ i) && decide (i ≤ hi) | _ => false
noncomputable def mTupW (t : T) (lo hi : Int) : Bool := match t with | .tup ts => decide (lo ≤ (ts.length : Int)) && decide ((ts.length : Int) ≤ hi) | _ => false
noncomputable def HIs (H : Hp) (b w : Int) (n : Nat) (hv : V) : Prop := ∃ hs ss, Is H (.tup hs) hv ∧ hs[0]? = some (.int b) ∧ hs[1]? = some (.int w) ∧ hs[3]? = some (.tup ss) ∧ ss.length = n
theorem HIs.mono {H H' : Hp} {b w : Int} {n : Nat} {hv : V} (s : Same H H') (h : HIs H b w n hv) : HIs H' b w n hv := by
 obtain ⟨hs, ss, h, r⟩ := h
 exact ⟨hs, ss, h.mono s, r⟩
theorem Is.at {K : PySem.W.Frag} {H : Hp} {ts : List T} {v : V} {i : Nat} {t : T} (h : Is H (.tup ts) v) (e : ts[i]? = some t) : ∃ a xs u, v = .ref a ∧ SqT K H a xs ∧ atI xs ((i : Nat) : Int) = some u ∧ Is H t u := by
 obtain ⟨a, xs, rfl, ha, hl⟩ := h
 obtain ⟨u, e1, e2⟩ := hl.get e
 exact ⟨a, xs, u, rfl, SqT.of ha, atI_nat e1, e2⟩
noncomputable def spWi : Sp := fun vs H Q _ => ∃ t v lo hi, vs = [v, .int lo, .int hi] ∧ Is H t v ∧ ∀ H', Same H H' → Q (.bl (mWithin t lo hi)) H'
noncomputable def spTw : Sp := fun vs H Q _ => ∃ t v lo hi, vs = [v, .int lo, .int hi] ∧ Is H t v ∧ ∀ H', Same H H' → Q (.bl (mTupW t lo hi)) H'
noncomputable def spBx (f : Int → Int → Int) : Sp := fun vs H Q _ => ∃ t v hv b w n, vs = [v, hv] ∧ Is H t v ∧ HIs H b w n hv ∧ ∀ H', Same H H' → Q (.bl (mWithin t 0 (f b w - 1))) H'
theorem mkOk {x : Str} {st : Stmt} {N ps : List Str} {k : Nat} {sp : Sp} (D : Def K mg x st) (S : FnScope N ps (defScope st))
  (hb : ∀ (kV doc pm : Value) (an : Option Addr) (cdv ct : Value) (us : List Value), us.length = ps.length → bindArgs (PySem.W.fnOf x x (defArgs st) (defBody st) (defScope st) .none kV doc pm an cdv ct) ⟨us, []⟩ = pure (ps.zip us))
  (len : ∀ vs H Q E, sp vs H Q E → vs.length = ps.length)
  (hbody : ∀ (f : Addr) (cdv : Value) (A : Around) (outer : List Env) (s : Shared) (H : Hp) (vs : List V) (Q : VK) (E : XK), Room k (A.deeper (envOfC x (defScope st) s.heap.objs.size f cdv)) → sp vs H Q E →
   ∃ t, PSs (cxOf CX0 P w K mg base N x (defScope st) f cdv A outer s H E).nox (defBody st) t ∧ t { nx := fun _ H' => Q .non H', rt := Q } (start N vs) H) : Ok P w K mg base x (k + 1) ps sp := by
 obtain ⟨f, fd, F, hm⟩ := D
 exact ⟨f, fd, F.ok S len (fun cdv A outer s H vs Q E hr h => hbody f cdv A outer s H vs Q E hr h), F.binds hb, F.kp, hm⟩
theorem sc_within : FnScope ["thing", "least", "most"] ["thing", "least", "most"] (defScope s_is_within) := ⟨rfl, rfl, rfl, by decide +kernel, rfl, by decide +kernel, by decide +kernel⟩
theorem ok_is_within (D : Def K mg "is_within" s_is_within) (T : Txt K mg) (o1 : Ok P w K mg base "is_whole" 1 ["thing"] (spB1 (fun _ => True) mWhole)) : Ok P w K mg base "is_within" 2 ["thing", "least", "most"] spWi := by
 refine mkOk D sc_within (fun _ _ _ _ _ _ us hl => (match us, hl with | [_, _, _], _ => rfl)) (fun vs H Q E ⟨t, v, lo, hi, e, _⟩ => by rw [e]; rfl) fun f cdv A outer s H vs Q E hr h => ?_
 obtain ⟨t, v, lo, hi, rfl, ht, k⟩ := h
 refine ⟨_, pss_one (ps_ret (pe_and (pe_fn o1 hr (pa_cons (pv 0) pa_nil)) (pe_one (pe_chain op_le op_le (pv 1) (pv 0) (pv 2))))), ?_⟩
 refine ⟨_, rfl, t, v, rfl, ht, trivial, fun H1 s1 => ⟨_, rfl, ?_⟩⟩
 cases t with
 | int i =>
   cases (show v = .int i from ht)
   refine iteT ?_
   refine ⟨_, rfl, _, rfl, lo, i, rfl, rfl, _, rfl, ?_⟩
   by_cases c : lo ≤ i
   · rw [decide_eq_true c]
     refine iteT ⟨_, rfl, i, hi, rfl, rfl, ?_⟩
     have kk : Q (.bl (decide (lo ≤ i) && decide (i ≤ hi))) H1 := k H1 s1
     rw [decide_eq_true c, Bool.true_and] at kk
     exact kk
   · rw [decide_eq_false c]
     refine iteF ?_
     have kk : Q (.bl (decide (lo ≤ i) && decide (i ≤ hi))) H1 := k H1 s1
     rw [decide_eq_false c, Bool.false_and] at kk
     exact kk
 | _ => exact iteF (k H1 s1)
theorem sc_tw : FnScope ["thing", "least", "most"] ["thing", "least", "most"] (defScope s_is_tuple_within) := ⟨rfl, rfl, rfl, by decide +kernel, rfl, by decide +kernel, by decide +kernel⟩
theorem ok_is_tuple_within (D : Def K mg "is_tuple_within" s_is_tuple_within) (T : Txt K mg) : Ok P w K mg base "is_tuple_within" 1 ["thing", "least", "most"] spTw := by
 refine mkOk D sc_tw (fun _ _ _ _ _ _ us hl => (match us, hl with | [_, _, _], _ => rfl)) (fun vs H Q E ⟨t, v, lo, hi, e, _⟩ => by rw [e]; rfl) fun f cdv A outer s H vs Q E hr h => ?_
 obtain ⟨t, v, lo, hi, rfl, ht, k⟩ := h
 refine ⟨_, pss_one (ps_ret (pe_and (pe_isi T.isi T.tuple bt_tuple (pv 0)) (pe_one (pe_chain op_le op_le (pv 1) (pe_callB call_len_seq rfl T.len bt_len (pa_cons (pv 0) pa_nil)) (pv 2))))), ?_⟩
 refine ⟨_, rfl, v, "tuple", _, _, rfl, ht.ty, kit_tuple K t, _, rfl, ?_⟩
 cases t with
 | tup ts =>
   refine iteT ?_
   obtain ⟨a, xs, rfl, ha, hl⟩ := ht
   have e := hl.length
   refine ⟨_, rfl, _, rfl, a, xs, rfl, .inr (SqT.of ha), lo, _, rfl, rfl, _, rfl, ?_⟩
   have kk : Q (.bl (decide (lo ≤ (ts.length : Int)) && decide ((ts.length : Int) ≤ hi))) H := k H (Same.refl H)
   rw [← e] at kk
   by_cases c : lo ≤ (xs.length : Int)
   · rw [decide_eq_true c]
     rw [decide_eq_true c, Bool.true_and] at kk
     exact iteT ⟨_, rfl, _, hi, rfl, rfl, kk⟩
   · rw [decide_eq_false c]
     rw [decide_eq_false c, Bool.false_and] at kk
     exact iteF kk
 | _ => exact iteF (k H (Same.refl H))
theorem sc_box : FnScope ["thing", "house"] ["thing", "house"] (defScope s_is_box) := ⟨rfl, rfl, rfl, by decide +kernel, rfl, by decide +kernel, by decide +kernel⟩
theorem sc_wall : FnScope ["thing", "house"] ["thing", "house"] (defScope s_is_wall) := ⟨rfl, rfl, rfl, by decide +kernel, rfl, by decide +kernel, by decide +kernel⟩
theorem ok_is_box (D : Def K mg "is_box" s_is_box) (T : Txt K mg) (o1 : Ok P w K mg base "is_within" 2 ["thing", "least", "most"] spWi) : Ok P w K mg base "is_box" 3 ["thing", "house"] (spBx fun b _ => b) := by
 refine mkOk D sc_box (fun _ _ _ _ _ _ us hl => (match us, hl with | [_, _], _ => rfl)) (fun vs H Q E ⟨t, v, hv, b, w, n, e, _⟩ => by rw [e]; rfl) fun f cdv A outer s H vs Q E hr h => ?_
 obtain ⟨t, v, hv, b, ww, n, rfl, ht, hH, k⟩ := h
 obtain ⟨hs, ss, hh, e0, e1, e3, en⟩ := hH
 obtain ⟨a, xs, u, rfl, sq, ea, hu⟩ := Is.at (K := K) hh e0
 cases (show u = .int b from hu)
 refine ⟨_, pss_one (ps_ret (pe_fn o1 hr (pa_cons (pv 0) (pa_cons pe_int (pa_cons (pe_op op_sub (pe_ix ix_tup (pv 1) (pe_cst T.BOXES) (fun _ _ => rfl)) pe_int) pa_nil))))), ?_⟩
 exact ⟨_, rfl, _, rfl, a, xs, _, _, rfl, rfl, sq, ea, _, _, rfl, rfl, t, v, 0, b - 1, rfl, ht, k⟩
theorem ok_is_wall (D : Def K mg "is_wall" s_is_wall) (T : Txt K mg) (o1 : Ok P w K mg base "is_within" 2 ["thing", "least", "most"] spWi) : Ok P w K mg base "is_wall" 3 ["thing", "house"] (spBx fun _ w => w) := by
 refine mkOk D sc_wall (fun _ _ _ _ _ _ us hl => (match us, hl with | [_, _], _ => rfl)) (fun vs H Q E ⟨t, v, hv, b, w, n, e, _⟩ => by rw [e]; rfl) fun f cdv A outer s H vs Q E hr h => ?_
 obtain ⟨t, v, hv, b, ww, n, rfl, ht, hH, k⟩ := h
 obtain ⟨hs, ss, hh, e0, e1, e3, en⟩ := hH
 obtain ⟨a, xs, u, rfl, sq, ea, hu⟩ := Is.at (K := K) hh e1
 cases (show u = .int ww from hu)
 refine ⟨_, pss_one (ps_ret (pe_fn o1 hr (pa_cons (pv 0) (pa_cons pe_int (pa_cons (pe_op op_sub (pe_ix ix_tup (pv 1) (pe_cst T.WALLS) (fun _ _ => rfl)) pe_int) pa_nil))))), ?_⟩
 exact ⟨_, rfl, _, rfl, a, xs, _, _, rfl, rfl, sq, ea, _, _, rfl, rfl, t, v, 0, ww - 1, rfl, ht, k⟩
noncomputable def mMode : T → Bool | .str y => inV (.str y) [.str "both", .str "come", .str "go"] | _ => false
noncomputable def mMember (t : T) (w : Int) : Bool := match t with | .tup [x, m] => mWithin x 0 (w - 1) && mMode m | _ => false
noncomputable def goM (w : Int) : Int → List T → Bool
 | _, [] => true
 | last, m :: r => mMember m w && (match m with | .tup (.int i :: _) => decide (last < i) && goM w i r | _ => false)
noncomputable def mMembers (t : T) (w : Int) : Bool := match t with | .tup ts => goM w (-1) ts | _ => false
noncomputable def mCalling (t : T) (least : Int) (n : Nat) (w : Int) : Bool := match t with | .tup [s, m] => mWithin s least ((n : Int) - 1) && mMembers m w | _ => false
theorem mMember_inv {t : T} {w : Int} (h : mMember t w = true) : ∃ i m, t = .tup [.int i, m] := by
 unfold mMember at h
 split at h
 · rename_i x m
   cases x with
   | int i => exact ⟨i, m, rfl⟩
   | _ => simp [mWithin] at h
 · cases h
noncomputable def spMb (f : T → Int → Bool) : Sp := fun vs H Q _ => ∃ t v hv b w n, vs = [v, hv] ∧ Is H t v ∧ HIs H b w n hv ∧ ∀ H', Same H H' → Q (.bl (f t w)) H'
noncomputable def spCl : Sp := fun vs H Q _ => ∃ t v least hv b w n, vs = [v, .int least, hv] ∧ Is H t v ∧ HIs H b w n hv ∧ ∀ H', Same H H' → Q (.bl (mCalling t least n w)) H'
theorem tup2 {t : T} (h : mTupW t 2 2 = true) : ∃ x y, t = .tup [x, y] := by
 cases t with
 | tup ts =>
   have h : (decide ((2 : Int) ≤ (ts.length : Int)) && decide ((ts.length : Int) ≤ 2)) = true := h
   simp only [Bool.and_eq_true, decide_eq_true_eq] at h
   have : ts.length = 2 := by omega
   match ts, this with
   | [x, y], _ => exact ⟨x, y, rfl⟩
 | _ => cases h
theorem tup2' {x y : T} : mTupW (.tup [x, y]) 2 2 = true := by simp [mTupW]
theorem sc_member : FnScope ["thing", "house"] ["thing", "house"] (defScope s_is_member) := ⟨rfl, rfl, rfl, by decide +kernel, rfl, by decide +kernel, by decide +kernel⟩
theorem ok_is_member (D : Def K mg "is_member" s_is_member) (T : Txt K mg) (o1 : Ok P w K mg base "is_tuple_within" 1 ["thing", "least", "most"] spTw) (o2 : Ok P w K mg base "is_wall" 3 ["thing", "house"] (spBx fun _ w => w)) :
  Ok P w K mg base "is_member" 4 ["thing", "house"] (spMb mMember) := by
 refine mkOk D sc_member (fun _ _ _ _ _ _ us hl => (match us, hl with | [_, _], _ => rfl)) (fun vs H Q E ⟨t, v, hv, b, w, n, e, _⟩ => by rw [e]; rfl) fun f cdv A outer s H vs Q E hr h => ?_
 obtain ⟨t, v, hv, b, ww, n, rfl, ht, hH, k⟩ := h
 obtain ⟨am, hm, hM⟩ := T.MODES
 refine ⟨_, pss_cons (ps_if (pw_or (pt_not (pt_val (pe_fn o1 (hr.mono (by decide)) (pa_cons (pv 0) (pa_cons pe_int (pa_cons pe_int pa_nil)))))) (pw_or1 (pt_not (pt_val (pe_fn o2 hr (pa_cons (pe_ix ix_tup (pv 0) pe_int (fun _ _ => rfl)) (pa_cons (pv 1) pa_nil))))))).pt (pss_one (ps_ret pe_bl)) pss_nil)
  (pss_one (ps_ret (pe_and (pe_isi T.isi T.str bt_str (pe_ix ix_tup (pv 0) pe_int (fun _ _ => rfl))) (pe_one (pe_cmpR op_in_seq (pe_ix ix_tup (pv 0) pe_int (fun _ _ => rfl)) (pe_glob (v := .ref am) rfl hm rfl) rfl))))), ?_⟩
 refine ⟨_, rfl, t, v, 2, 2, rfl, ht, fun H1 s1 => ⟨_, rfl, ?_⟩⟩
 cases c : mTupW t 2 2 with
 | false =>
   refine iteT (iteT ?_)
   have e : mMember t ww = false := by
    cases d : mMember t ww with
    | false => rfl
    | true =>
      obtain ⟨i, m, rfl⟩ := mMember_inv d
      rw [tup2'] at c
      cases c
   have kk := k H1 s1
   rw [e] at kk
   exact kk
 | true =>
   obtain ⟨x, m, rfl⟩ := tup2 c
   refine iteF ?_
   have ht1 := ht.mono s1
   obtain ⟨a, xs, ux, rfl, sq, ea, hux⟩ := Is.at (K := K) (i := 0) ht1 rfl
   obtain ⟨a', xs', um, e', sq', ea', hum⟩ := Is.at (K := K) (i := 1) ht1 rfl
   cases e'
   refine ⟨_, rfl, a, xs, _, ux, rfl, rfl, sq, ea, _, rfl, x, ux, hv, b, ww, n, rfl, hux, hH.mono s1, fun H2 s2 => ⟨_, rfl, ?_⟩⟩
   cases d : mWithin x 0 (ww - 1) with
   | false =>
     refine iteT ?_
     have kk : Q (.bl (mWithin x 0 (ww - 1) && mMode m)) H2 := k H2 (s1.trans s2)
     rw [d, Bool.false_and] at kk
     exact kk
   | true =>
     refine iteF ?_
     have ht2 := ht1.mono s2
     obtain ⟨a2, xs2, um2, e2, sq2, ea2, hum2⟩ := Is.at (K := K) (i := 1) ht2 rfl
     cases e2
     refine ⟨_, rfl, a, xs2, _, um2, rfl, rfl, sq2, ea2, um2, "str", _, _, rfl, hum2.ty, kit_str K m, _, rfl, ?_⟩
     have kk : Q (.bl (mWithin x 0 (ww - 1) && mMode m)) H2 := k H2 (s1.trans s2)
     rw [d, Bool.true_and] at kk
     cases m with
     | str y =>
       refine iteT ?_
       cases (show um2 = .str y from hum2)
       exact ⟨_, rfl, a, xs2, _, _, rfl, rfl, sq2, ea2, am, _, rfl, .inr (hM H2), rfl, rfl, kk⟩
     | _ => exact iteF kk
theorem goM_cons {w last : Int} {i : Int} {m : T} {r : List T} (h : mMember (.tup [.int i, m]) w = true) : goM w last (.tup [.int i, m] :: r) = (decide (last < i) && goM w i r) := by
 show (mMember (.tup [.int i, m]) w && (decide (last < i) && goM w i r)) = _
 rw [h, Bool.true_and]
theorem goM_no {w last : Int} {m : T} {r : List T} (h : mMember m w = false) : goM w last (m :: r) = false := by
 unfold goM
 rw [h, Bool.false_and]
theorem sc_members : FnScope ["thing", "house", "last", "member"] ["thing", "house"] (defScope s_are_members) := ⟨rfl, rfl, rfl, by decide +kernel, rfl, by decide +kernel, by decide +kernel⟩
theorem ok_are_members (D : Def K mg "are_members" s_are_members) (T : Txt K mg) (o1 : Ok P w K mg base "is_member" 4 ["thing", "house"] (spMb mMember)) : Ok P w K mg base "are_members" 5 ["thing", "house"] (spMb mMembers) := by
 refine mkOk D sc_members (fun _ _ _ _ _ _ us hl => (match us, hl with | [_, _], _ => rfl)) (fun vs H Q E ⟨t, v, hv, b, w, n, e, _⟩ => by rw [e]; rfl) fun f cdv A outer s H vs Q E hr h => ?_
 obtain ⟨t, v, hv, b, ww, n, rfl, ht, hH, k⟩ := h
 refine ⟨_, pss_cons (ps_if (pt_not (pt_val (pe_isi T.isi T.tuple bt_tuple (pv 0)))) (pss_one (ps_ret pe_bl)) pss_nil)
  (pss_cons (ps_set (i := 2) sc_members.nd rfl (Or.inl rfl) (pe_un un_neg pe_int))
  (pss_cons (ps_for PassesOwn.never rfl (pi_tup (pv 0)) (pg_name (i := 3) sc_members.nd rfl (Or.inl rfl))
   (pss_cons (ps_if (pw_or (pt_not (pt_val (pe_fn o1 hr (pa_cons (pv 3) (pa_cons (pv 1) pa_nil))))) (pw_or1 (pt_cmpR op_le (pe_ix ix_tup (pv 3) pe_int (fun _ _ => rfl)) (pv 2) (nomark _)))).pt (pss_one (ps_ret pe_bl)) pss_nil)
   (pss_one (ps_set (i := 2) sc_members.nd rfl (Or.inl rfl) (pe_ix ix_tup (pv 3) pe_int (fun _ _ => rfl))))))
  (pss_one (ps_ret pe_bl)))), ?_⟩
 refine ⟨_, rfl, v, "tuple", _, _, rfl, ht.ty, kit_tuple K t, _, rfl, ?_⟩
 cases t with
 | tup ts =>
   refine iteF ?_
   obtain ⟨a, xs, rfl, ha, hl⟩ := ht
   have hlen := hl.length
   refine ⟨_, rfl, ?_⟩
   refine ⟨_, rfl, a, rfl, ⟨xs, SqT.of ha⟩, for_tup (K := K) (a := a) (xs := xs) (fun i σ H' => ∃ last mv, σ = [some (.ref a), some hv, some (.int last), mv] ∧ Same H H' ∧ goM ww (-1) ts = goM ww last (ts.drop i)) ⟨-1, none, rfl, Same.refl H, rfl⟩
    (fun i σ H' _ ⟨_, _, _, s1, _⟩ => SqT.of (s1 _ _ ha)) ?_ ?_⟩
   · rintro i x σ H1 hi ⟨last, mv, rfl, s1, hg⟩
     obtain ⟨m, hm, hx⟩ := hl.get' hi
     have hdrop : ts.drop i = m :: ts.drop (i + 1) := by
      obtain ⟨h1, h2⟩ := List.getElem?_eq_some_iff.mp hm
      rw [List.drop_eq_getElem_cons h1, h2]
     rw [hdrop] at hg
     refine ⟨_, rfl, _, rfl, m, x, hv, b, ww, n, rfl, hx.mono s1, hH.mono s1, fun H2 s2 => ⟨_, rfl, ?_⟩⟩
     have s12 := s1.trans s2
     cases c : mMember m ww with
     | false =>
       refine iteT (iteT ?_)
       have kk : Q (.bl (goM ww (-1) ts)) H2 := k H2 s12
       rw [hg, goM_no c] at kk
       exact kk
     | true =>
       refine iteF ?_
       obtain ⟨j, mm, rfl⟩ := mMember_inv c
       rw [goM_cons c] at hg
       obtain ⟨a2, xs2, u2, rfl, sq2, ea2, hu2⟩ := Is.at (K := K) (i := 0) (hx.mono s12) rfl
       cases (show u2 = .int j from hu2)
       refine ⟨_, rfl, a2, xs2, _, _, rfl, rfl, sq2, ea2, _, rfl, j, last, rfl, rfl, _, rfl, ?_⟩
       by_cases d : j ≤ last
       · rw [decide_eq_true d]
         refine iteT ?_
         have kk : Q (.bl (goM ww (-1) ts)) H2 := k H2 s12
         rw [hg, decide_eq_false (by omega), Bool.false_and] at kk
         exact kk
       · rw [decide_eq_false d]
         refine iteF ?_
         refine ⟨_, rfl, a2, xs2, _, _, rfl, rfl, sq2, ea2, j, _, rfl, s12, ?_⟩
         rw [hg, decide_eq_true (by omega), Bool.true_and]
   · rintro σ H1 ⟨last, mv, rfl, s1, hg⟩
     have kk : Q (.bl (goM ww (-1) ts)) H1 := k H1 s1
     rw [hg, hlen, List.drop_length] at kk
     exact kk
 | _ => exact iteT (k H (Same.refl H))
theorem sc_calling : FnScope ["thing", "least", "house"] ["thing", "least", "house"] (defScope s_is_calling) := ⟨rfl, rfl, rfl, by decide +kernel, rfl, by decide +kernel, by decide +kernel⟩
theorem ok_is_calling (D : Def K mg "is_calling" s_is_calling) (T : Txt K mg) (o1 : Ok P w K mg base "is_tuple_within" 1 ["thing", "least", "most"] spTw) (o2 : Ok P w K mg base "is_within" 2 ["thing", "least", "most"] spWi)
  (o3 : Ok P w K mg base "are_members" 5 ["thing", "house"] (spMb mMembers)) : Ok P w K mg base "is_calling" 6 ["thing", "least", "house"] spCl := by
 refine mkOk D sc_calling (fun _ _ _ _ _ _ us hl => (match us, hl with | [_, _, _], _ => rfl)) (fun vs H Q E ⟨t, v, lo, hv, b, w, n, e, _⟩ => by rw [e]; rfl) fun f cdv A outer s H vs Q E hr h => ?_
 obtain ⟨t, v, least, hv, b, ww, n, rfl, ht, hH, k⟩ := h
 refine ⟨_, pss_cons (ps_if (pt_not (pt_val (pe_fn o1 (hr.mono (by decide)) (pa_cons (pv 0) (pa_cons pe_int (pa_cons pe_int pa_nil)))))) (pss_one (ps_ret pe_bl)) pss_nil)
  (pss_one (ps_ret (pe_and (pe_fn o2 (hr.mono (by decide)) (pa_cons (pe_ix ix_tup (pv 0) pe_int (fun _ _ => rfl)) (pa_cons (pv 1) (pa_cons (pe_op op_sub (pe_callB call_len_seq rfl T.len bt_len (pa_cons (pe_ix ix_tup (pv 2) (pe_cst T.SCRIPTS) (fun _ _ => rfl)) pa_nil)) pe_int) pa_nil))))
   (pe_one (pe_fn o3 hr (pa_cons (pe_ix ix_tup (pv 0) pe_int (fun _ _ => rfl)) (pa_cons (pv 2) pa_nil))))))), ?_⟩
 refine ⟨_, rfl, t, v, 2, 2, rfl, ht, fun H1 s1 => ⟨_, rfl, ?_⟩⟩
 cases c : mTupW t 2 2 with
 | false =>
   refine iteT ?_
   have e : mCalling t least n ww = false := by
    unfold mCalling
    split
    · rw [tup2'] at c; cases c
    · rfl
   have kk := k H1 s1
   rw [e] at kk
   exact kk
 | true =>
   obtain ⟨x, m, rfl⟩ := tup2 c
   refine iteF ?_
   have ht1 := ht.mono s1
   obtain ⟨a, xs, ux, rfl, sq, ea, hux⟩ := Is.at (K := K) (i := 0) ht1 rfl
   obtain ⟨hs, ss, hh, e0, e1, e3, en⟩ := id (hH.mono s1)
   obtain ⟨ah, xh, uh, rfl, sqh, eah, huh⟩ := Is.at (K := K) hh e3
   obtain ⟨as, xss, rfl, has, hls⟩ := huh
   have hln : (xss.length : Int) = (n : Int) := by rw [hls.length, en]
   refine ⟨_, rfl, a, xs, _, ux, rfl, rfl, sq, ea, _, rfl, _, rfl, ah, xh, _, _, rfl, rfl, sqh, eah, as, xss, rfl, .inr (SqT.of has), _, _, rfl, rfl, x, ux, least, (xss.length : Int) - 1, rfl, hux, fun H2 s2 => ⟨_, rfl, ?_⟩⟩
   rw [hln]
   have kk : ∀ H', Same H H' → Q (.bl (mWithin x least ((n : Int) - 1) && mMembers m ww)) H' := k
   cases d : mWithin x least ((n : Int) - 1) with
   | false =>
     refine iteF ?_
     have k2 := kk H2 (s1.trans s2)
     rw [d, Bool.false_and] at k2
     exact k2
   | true =>
     refine iteT ?_
     obtain ⟨a2, xs2, um2, e2, sq2, ea2, hum2⟩ := Is.at (K := K) (i := 1) (ht1.mono s2) rfl
     cases e2
     refine ⟨_, rfl, a, xs2, _, um2, rfl, rfl, sq2, ea2, _, rfl, m, um2, _, b, ww, n, rfl, hum2, (hH.mono s1).mono s2, fun H3 s3 => ?_⟩
     have k2 := kk H3 (s1.trans (s2.trans s3))
     rw [d, Bool.true_and] at k2
     exact k2
theorem lcScope {X : Cx} {own : List Str} {cap : List Nat} {scope : Scope} (sc : Scope) (hsc : X.env.scope = sc) (h1 : scope.kind = .function) (h2 : ∀ x ∈ scope.names, x.2 = .free → sc.names.lookup x.1 = some .cell ∨ sc.names.lookup x.1 = some .free)
  (h3 : ∀ x ∈ scope.names, x.2 ≠ .cell) (h4 : ∀ x ∈ scope.names, x.2 = .local → scope.names.lookup x.1 = some .local) (h5 : CapOk X scope cap) : LcScope X own cap scope := by
 subst hsc
 exact ⟨h1, h2, h3, h4, h5⟩
theorem gIf0 {i : Nat} {v : V} {σ : L2.St} {H : Hp} {A B : L2.St → Hp → Prop} (h : A (σ.set i (some v)) H) : gName i v σ H (fun σ2 H2 => tIf0 σ2 H2 fun b H3 => if b = true then A σ2 H3 else B σ2 H3) := by
 show if true = true then A (σ.set i (some v)) H else B (σ.set i (some v)) H
 exact iteT h
noncomputable def mLet (c : Nat) : Bool := !decide ((⟨#[c]⟩ : Str).cps.toList < ("a" : Str).cps.toList) && !decide (("z" : Str).cps.toList < (⟨#[c]⟩ : Str).cps.toList)
noncomputable def mWord (t : T) : Bool := match t with | .str x => decide ((1 : Int) ≤ (x.length : Int)) && decide ((x.length : Int) ≤ 8) && x.cps.toList.all mLet | _ => false
noncomputable def Wl (t : T) : Prop := ∀ x, t = .str x → x.length ≤ sizeLine
noncomputable def mLetters (t : T) : Bool := match t with | .str x => decide ((1 : Int) ≤ (x.length : Int)) && x.cps.toList.all mLet | _ => false
theorem sc_letters : FnScope ["thing"] ["thing"] (defScope s_is_letters) := ⟨rfl, rfl, rfl, by decide +kernel, rfl, by decide +kernel, by decide +kernel⟩
theorem ok_is_letters (D : Def K mg "is_letters" s_is_letters) (T : Txt K mg) : Ok P w K mg base "is_letters" 1 ["thing"] (spB1 Wl mLetters) := by
 refine mkOk D sc_letters (fun _ _ _ _ _ _ us hl => (match us, hl with | [_], _ => rfl)) (fun vs H Q E ⟨t, v, e, _⟩ => by rw [e]; rfl) fun f cdv A outer s H vs Q E hr h => ?_
 obtain ⟨t, v, rfl, ht, hz, k⟩ := h
 refine ⟨_, pss_cons (ps_if (PW.pt (pw_or (pt_not (pt_val (pe_isi T.isi T.str bt_str (pv 0)))) (pw_or1 (pt_cmpR op_eq (pe_callB call_len_str (by rfl) T.len bt_len (pa_cons (pv 0) pa_nil)) pe_int (nomark _))))) (pss_one (ps_ret pe_bl)) pss_nil)
  (pss_one (ps_ret (pe_callB (call_all rfl) rfl T.all bt_all (pa_cons (pe_lc (own := ["letter"]) (cap := []) rfl (lcScope (defScope s_is_letters) rfl rfl (by decide +kernel) (by decide +kernel) (by decide +kernel) trivial) (pi_str (pv 0)) (fun _ _ _ _ => pg_name (i := 0) (by show (["letter"] : List Str).Nodup; decide +kernel) rfl (Or.inl rfl))
   (fun _ _ _ _ => pif_nil) (fun _ _ _ _ => pe_chain op_le_str op_le_str pe_str (pv 0) pe_str)) pa_nil)))), ?_⟩
 refine ⟨_, rfl, v, "str", _, _, rfl, ht.ty, kit_str K t, _, rfl, ?_⟩
 cases t with
 | str x =>
   refine iteF ?_
   cases (show v = .str x from ht)
   have kk : ∀ H', Same H H' → Q (.bl (decide ((1 : Int) ≤ (x.length : Int)) && x.cps.toList.all mLet)) H' := k
   refine ⟨_, rfl, x, rfl, hz x rfl, rfl, _, rfl, ?_⟩
   rw [dec_int]
   refine ite2 (fun c => ?_) (fun c => ?_)
   · have c : (x.length : Int) = 0 := by simpa using c
     rw [decide_eq_false (by omega), Bool.false_and] at kk
     exact kk H (Same.refl H)
   · have c : (1 : Int) ≤ (x.length : Int) := by
      have : (x.length : Int) ≠ 0 := fun z => c (by simpa using z)
      omega
     rw [decide_eq_true c, Bool.true_and] at kk
     refine ⟨_, rfl, x, rfl, ?_⟩
     have hsz : x.cps.size ≤ sizeLine := hz x rfl
     refine lc_str (x := x) (fun i ys H' => H' = H ∧ ys = (x.cps.toList.take i).map fun c => V.bl (mLet c)) ⟨rfl, rfl⟩ (fun i ys H' hi ⟨_, e⟩ => by rw [e, List.length_map, List.length_take]; omega) ?_ ?_
     · rintro i c ys H' hc ⟨rfl, rfl⟩
       refine gIf0 ?_
       have hnext : (x.cps.toList.take (i + 1)).map (fun c => V.bl (mLet c)) = (x.cps.toList.take i).map (fun c => V.bl (mLet c)) ++ [V.bl (mLet c)] := by
        have : x.cps.toList[i]? = some c := by rw [Array.getElem?_toList]; exact hc
        rw [List.take_add_one, this, List.map_append]
        rfl
       refine ⟨_, rfl, "a", _, rfl, rfl, _, rfl, ?_⟩
       refine ite2 (fun d => ?_) (fun d => ?_)
       · refine ⟨_, "z", rfl, rfl, rfl, ?_⟩
         rw [hnext]
         congr 3
         unfold mLet
         rw [d, Bool.true_and]
       · refine ⟨rfl, ?_⟩
         rw [hnext]
         congr 3
         unfold mLet
         rw [Bool.eq_false_iff.mpr d, Bool.false_and]
     · rintro ys H' ⟨rfl, rfl⟩ p hp
       refine ⟨p, x.cps.toList.map mLet, rfl, SqL.of ?_, ?_⟩
       · rw [upd_same, List.map_map]
         have e : x.cps.toList.take x.cps.size = x.cps.toList := by
          rw [← Array.length_toList, List.take_length]
         rw [e]
         rfl
       · have e : (x.cps.toList.map mLet).all id = x.cps.toList.all mLet := by rw [List.all_map]; rfl
         rw [e]
         exact kk _ (Same.new hp _)
 | _ => exact iteT (iteT (k H (Same.refl H)))
theorem sc_word : FnScope ["thing"] ["thing"] (defScope s_is_word) := ⟨rfl, rfl, rfl, by decide +kernel, rfl, by decide +kernel, by decide +kernel⟩
theorem ok_is_word (D : Def K mg "is_word" s_is_word) (T : Txt K mg) (o1 : Ok P w K mg base "is_letters" 1 ["thing"] (spB1 Wl mLetters)) : Ok P w K mg base "is_word" 2 ["thing"] (spB1 Wl mWord) := by
 refine mkOk D sc_word (fun _ _ _ _ _ _ us hl => (match us, hl with | [_], _ => rfl)) (fun vs H Q E ⟨t, v, e, _⟩ => by rw [e]; rfl) fun f cdv A outer s H vs Q E hr h => ?_
 obtain ⟨t, v, rfl, ht, hz, k⟩ := h
 refine ⟨_, pss_one (ps_ret (pe_and (pe_fn o1 hr (pa_cons (pv 0) pa_nil)) (pe_one (pe_cmpR op_le (pe_callB call_len_str (by rfl) T.len bt_len (pa_cons (pv 0) pa_nil)) (pe_cst T.MOST_LETTERS) (nomark _))))), ?_⟩
 refine ⟨_, rfl, t, v, rfl, ht, hz, fun H1 s1 => ⟨_, rfl, ?_⟩⟩
 cases t with
 | str x =>
   cases (show v = .str x from ht)
   have kk : ∀ H', Same H H' → Q (.bl (decide ((1 : Int) ≤ (x.length : Int)) && decide ((x.length : Int) ≤ 8) && x.cps.toList.all mLet)) H' := k
   show if (decide ((1 : Int) ≤ (x.length : Int)) && x.cps.toList.all mLet) = true then _ else _
   cases c1 : (decide ((1 : Int) ≤ (x.length : Int)) && x.cps.toList.all mLet) with
   | false =>
     refine iteF ?_
     have e : (decide ((1 : Int) ≤ (x.length : Int)) && decide ((x.length : Int) ≤ 8) && x.cps.toList.all mLet) = false := by
      rw [Bool.and_right_comm, c1, Bool.false_and]
     have := kk H1 s1
     rw [e] at this
     exact this
   | true =>
     refine iteT ⟨_, rfl, x, rfl, hz x rfl, _, 8, rfl, rfl, ?_⟩
     have := kk H1 s1
     rw [Bool.and_right_comm, c1, Bool.true_and] at this
     exact this
 | _ => exact iteF (k H1 s1)
abbrev wEq (x : Str) (y : Str) : Bool := decide (V.str x = V.str y)
noncomputable def g0 (r : List T) : T := r.getD 0 .non
noncomputable def g1 (r : List T) : T := r.getD 1 .non
noncomputable def mDeedW (x : Str) (r : List T) (num : Int) (b w : Int) (n : Nat) : Bool :=
 if wEq x "begin" = true then mCalling (.tup r) (num + 1) n w
 else if wEq x "raise" = true then decide (r.length = 2) && (mWithin (g0 r) 0 (b - 1) && mWithin (g1 r) 1 99)
 else if wEq x "await" = true then decide (r.length = 2) && (mWithin (g0 r) 0 (b - 1) && mWithin (g1 r) 1 9999)
 else if r.length ≠ 1 then false
 else if inV (.str x) [.str "come", .str "go", .str "leave"] = true then mWithin (g0 r) 0 (w - 1)
 else if wEq x "work" = true then mWithin (g0 r) 0 999
 else wEq x "say" && mWord (g0 r)
noncomputable def mDeed (t : T) (num : Int) (b w : Int) (n : Nat) : Bool := match t with
 | .tup (.str x :: r) => (decide (r.length = 1) || decide (r.length = 2)) && mDeedW x r num b w n
 | _ => false
noncomputable def Wd (t : T) : Prop := ∀ ts, t = .tup ts → ∀ u ∈ ts, Wl u
noncomputable def spDd : Sp := fun vs H Q _ => ∃ t v num hv b w n, vs = [v, .int num, hv] ∧ Is H t v ∧ HIs H b w n hv ∧ Wd t ∧ ∀ H', Same H H' → Q (.bl (mDeed t num b w n)) H'
theorem tw23 {ts : List T} : mTupW (.tup ts) 2 3 = (decide (ts.length = 2) || decide (ts.length = 3)) := by
 show (decide ((2 : Int) ≤ (ts.length : Int)) && decide ((ts.length : Int) ≤ 3)) = _
 rw [Bool.eq_iff_iff]
 simp only [Bool.and_eq_true, Bool.or_eq_true, decide_eq_true_eq]
 omega
theorem sc_deed : FnScope ["thing", "number", "house", "word"] ["thing", "number", "house"] (defScope s_is_deed) := ⟨rfl, rfl, rfl, by decide +kernel, rfl, by decide +kernel, by decide +kernel⟩
theorem ok_is_deed (D : Def K mg "is_deed" s_is_deed) (T : Txt K mg) (o1 : Ok P w K mg base "is_tuple_within" 1 ["thing", "least", "most"] spTw) (o2 : Ok P w K mg base "is_within" 2 ["thing", "least", "most"] spWi)
  (o3 : Ok P w K mg base "is_calling" 6 ["thing", "least", "house"] spCl) (o4 : Ok P w K mg base "is_box" 3 ["thing", "house"] (spBx fun b _ => b)) (o5 : Ok P w K mg base "is_wall" 3 ["thing", "house"] (spBx fun _ w => w))
  (o6 : Ok P w K mg base "is_word" 2 ["thing"] (spB1 Wl mWord)) : Ok P w K mg base "is_deed" 7 ["thing", "number", "house"] spDd := by
 refine mkOk D sc_deed (fun _ _ _ _ _ _ us hl => (match us, hl with | [_, _, _], _ => rfl)) (fun vs H Q E ⟨t, v, lo, hv, b, w, n, e, _⟩ => by rw [e]; rfl) fun f cdv A outer s H vs Q E hr h => ?_
 obtain ⟨t, v, num, hv, b, ww, n, rfl, ht, hH, hW, k⟩ := h
 have r1 := hr.mono (show 1 ≤ 6 by decide)
 have r2 := hr.mono (show 2 ≤ 6 by decide)
 have r3 := hr.mono (show 3 ≤ 6 by decide)
 refine ⟨_, pss_cons (ps_if (PW.pt (pw_or (pt_not (pt_val (pe_fn o1 r1 (pa_cons (pv 0) (pa_cons pe_int (pa_cons pe_int pa_nil)))))) (pw_or1 (pt_not (pt_val (pe_isi T.isi T.str bt_str (pe_ix ix_tup (pv 0) pe_int (fun _ _ => rfl)))))))) (pss_one (ps_ret pe_bl)) pss_nil)
  (pss_cons (ps_set (i := 3) sc_deed.nd rfl (Or.inl rfl) (pe_ix ix_tup (pv 0) pe_int (fun _ _ => rfl)))
  (pss_cons (ps_if (pt_cmpR op_eq (pv 3) pe_str (nomark _)) (pss_one (ps_ret (pe_fn o3 hr (pa_cons (pe_slice sl_tup (pv 0) (po_some pe_int) po_none) (pa_cons (pe_op op_add (pv 1) pe_int) (pa_cons (pv 2) pa_nil)))))) pss_nil)
  (pss_cons (ps_if (pt_cmpR op_eq (pv 3) pe_str (nomark _)) (pss_one (ps_ret (pe_and (pe_cmpR op_eq (pe_callB call_len_seq (by rfl) T.len bt_len (pa_cons (pv 0) pa_nil)) pe_int (nomark _)) (pe_and (pe_fn o4 r3 (pa_cons (pe_ix ix_tup (pv 0) pe_int (fun _ _ => rfl)) (pa_cons (pv 2) pa_nil))) (pe_one (pe_fn o2 r2 (pa_cons (pe_ix ix_tup (pv 0) pe_int (fun _ _ => rfl)) (pa_cons pe_int (pa_cons (pe_cst T.MOST_RAISED) pa_nil))))))))) pss_nil)
  (pss_cons (ps_if (pt_cmpR op_eq (pv 3) pe_str (nomark _)) (pss_one (ps_ret (pe_and (pe_cmpR op_eq (pe_callB call_len_seq (by rfl) T.len bt_len (pa_cons (pv 0) pa_nil)) pe_int (nomark _)) (pe_and (pe_fn o4 r3 (pa_cons (pe_ix ix_tup (pv 0) pe_int (fun _ _ => rfl)) (pa_cons (pv 2) pa_nil))) (pe_one (pe_fn o2 r2 (pa_cons (pe_ix ix_tup (pv 0) pe_int (fun _ _ => rfl)) (pa_cons pe_int (pa_cons (pe_cst T.MOST_AWAITED) pa_nil))))))))) pss_nil)
  (pss_cons (ps_if (pt_cmpR op_ne (pe_callB call_len_seq (by rfl) T.len bt_len (pa_cons (pv 0) pa_nil)) pe_int (nomark _)) (pss_one (ps_ret pe_bl)) pss_nil)
  (pss_cons (ps_if (pt_cmpR op_in_seq (pv 3) (pe_tup (pa_cons pe_str (pa_cons pe_str (pa_cons pe_str pa_nil)))) rfl) (pss_one (ps_ret (pe_fn o5 r3 (pa_cons (pe_ix ix_tup (pv 0) pe_int (fun _ _ => rfl)) (pa_cons (pv 2) pa_nil))))) pss_nil)
  (pss_cons (ps_if (pt_cmpR op_eq (pv 3) pe_str (nomark _)) (pss_one (ps_ret (pe_fn o2 r2 (pa_cons (pe_ix ix_tup (pv 0) pe_int (fun _ _ => rfl)) (pa_cons pe_int (pa_cons (pe_cst T.MOST_WORKED) pa_nil)))))) pss_nil)
  (pss_one (ps_ret (pe_and (pe_cmpR op_eq (pv 3) pe_str (nomark _)) (pe_one (pe_fn o6 r2 (pa_cons (pe_ix ix_tup (pv 0) pe_int (fun _ _ => rfl)) pa_nil))))))))))))), ?_⟩
 refine ⟨_, rfl, t, v, 2, 3, rfl, ht, fun H1 s1 => ⟨_, rfl, ?_⟩⟩
 cases t with
 | tup ts =>
   rw [tw23]
   by_cases hl : ts.length = 2 ∨ ts.length = 3
   · have hb : (decide (ts.length = 2) || decide (ts.length = 3)) = true := by simpa using hl
     rw [hb]
     refine iteF ?_
     obtain ⟨x0, r, rfl⟩ : ∃ x0 r, ts = x0 :: r := by
      cases ts with
      | nil => simp at hl
      | cons a b => exact ⟨a, b, rfl⟩
     have hr1 : r.length = 1 ∨ r.length = 2 := by simpa using hl
     have hrb : (decide (r.length = 1) || decide (r.length = 2)) = true := by simpa using hr1
     have ht1 := ht.mono s1
     obtain ⟨a, xs, u0, rfl, sq, ea, hu0⟩ := Is.at (K := K) (i := 0) ht1 rfl
     refine ⟨_, rfl, a, xs, _, u0, rfl, rfl, sq, ea, u0, "str", _, _, rfl, hu0.ty, kit_str K x0, _, rfl, ?_⟩
     cases x0 with
     | str x =>
       refine iteF ?_
       cases (show u0 = .str x from hu0)
       have kk : ∀ H', Same H H' → Q (.bl (mDeedW x r num b ww n)) H' := fun H' s' => by
        have q : Q (.bl ((decide (r.length = 1) || decide (r.length = 2)) && mDeedW x r num b ww n)) H' := k H' s'
        rw [hrb, Bool.true_and] at q
        exact q
       have item : ∀ {H' : Hp} (i : Nat), Same H1 H' → i < r.length → ∃ xs' u, SqT K H' a xs' ∧ atI xs' ((i + 1 : Nat) : Int) = some u ∧ Is H' (r.getD i .non) u := fun {H'} i s' hi => by
        have e : (L2.T.str x :: r)[i + 1]? = some (r.getD i .non) := by
         show r[i]? = _
         rw [List.getD_eq_getElem?_getD, List.getElem?_eq_getElem hi]
         rfl
        obtain ⟨a', xs', u, e', sq', ea', hu⟩ := Is.at (K := K) (ht1.mono s') e
        cases e'
        exact ⟨xs', u, sq', ea', hu⟩
       obtain ⟨a1, ys, q1, hya, hyl⟩ := id ht1
       cases q1
       have hyn := hyl.length
       have hyn : ys.length = r.length + 1 := by simpa using hyn
       refine ⟨_, rfl, a, xs, _, _, rfl, rfl, sq, ea, ?_⟩
       refine ⟨_, rfl, rfl, _, rfl, ?_⟩
       refine ite2 (fun c => ?_) (fun c => ?_)
       · have k1 := kk
         unfold mDeedW at k1
         rw [if_pos c] at k1
         refine ⟨_, rfl, 1, rfl, a, ys, rfl, SqT.of hya, ?_, fun p hp => ?_⟩
         · intro hh
           have h1 := hh.1
           have h2 : HT.sIx ys.length 0 (some ((1 : Nat) : Int)) = min 1 ys.length := HT.sIx_nat _ _ _
           have h3 : min 1 ys.length = 0 := h2.symm.trans h1
           omega
         · have ecut : cutV ys (some 1) none = ys.drop 1 := by
            have h2 : HT.sIx ys.length 0 (some ((1 : Nat) : Int)) = min 1 ys.length := HT.sIx_nat _ _ _
            have h2 : HT.sIx ys.length 0 (some 1) = 1 := h2.trans (by omega)
            unfold cutV
            rw [h2, HT.sIx_none, List.take_of_length_le (by rw [List.length_drop]; exact Nat.le_refl _)]
           refine ⟨_, rfl, _, _, rfl, rfl, _, rfl, .tup r, .ref p, num + 1, hv, b, ww, n, rfl, ?_, (hH.mono s1).mono (Same.new hp _), fun H2 s2 => k1 H2 (s1.trans ((Same.new hp _).trans s2))⟩
           rw [ecut]
           exact Is.newTup hp (hyl.drop 1)
       refine ⟨_, rfl, rfl, _, rfl, ?_⟩
       have three : ∀ (most : Int), (∀ H', Same H H' → Q (.bl (decide (r.length = 2) && (mWithin (g0 r) 0 (b - 1) && mWithin (g1 r) 1 most))) H') →
         (V.bl (decide (V.int (ys.length : Int) = V.int 3)) = V.bl true → (∀ H2, Same H1 H2 → mWithin (g0 r) 0 (b - 1) = true → ∀ H3, Same H2 H3 → Q (.bl (mWithin (g1 r) 1 most)) H3) ∧ (mWithin (g0 r) 0 (b - 1) = false → ∀ H2, Same H1 H2 → Q (.bl false) H2)) ∧
         (V.bl (decide (V.int (ys.length : Int) = V.int 3)) = V.bl false → Q (.bl false) H1) := fun most km => by
        refine ⟨fun e => ?_, fun e => ?_⟩
        · have h3 : ys.length = 3 := by
           have := V.bl.inj e
           have := of_decide_eq_true this
           have := V.int.inj this
           omega
          have hr2 : r.length = 2 := by omega
          rw [decide_eq_true hr2, Bool.true_and] at km
          refine ⟨fun H2 s2 d H3 s3 => ?_, fun d H2 s2 => ?_⟩
          · have q := km H3 (s1.trans (s2.trans s3))
            rw [d, Bool.true_and] at q
            exact q
          · have q := km H2 (s1.trans s2)
            rw [d, Bool.false_and] at q
            exact q
        · have h3 : ¬ r.length = 2 := fun z => by
           have := V.bl.inj e
           have := of_decide_eq_false this
           exact this (congrArg V.int (by omega))
          have q := km H1 s1
          rw [decide_eq_false h3, Bool.false_and] at q
          exact q
       refine ite2 (fun c2 => ?_) (fun c2 => ?_)
       · have k1 := kk
         unfold mDeedW at k1
         rw [if_neg c, if_pos c2] at k1
         obtain ⟨t1, t2⟩ := three 99 k1
         refine ⟨_, rfl, a, ys, rfl, .inr (SqT.of hya), rfl, _, rfl, ?_⟩
         refine ite2 (fun d => ?_) (fun d => t2 (congrArg V.bl (Bool.eq_false_iff.mpr d)))
         obtain ⟨t3, t4⟩ := t1 (congrArg V.bl d)
         have h3 : ys.length = 3 := by
          have := V.int.inj (of_decide_eq_true d)
          omega
         obtain ⟨xs', u, sq', ea', hu⟩ := item 0 (Same.refl H1) (by omega)
         refine ⟨_, rfl, a, xs', _, u, rfl, rfl, sq', ea', _, rfl, g0 r, u, hv, b, ww, n, rfl, hu, hH.mono s1, fun H2 s2 => ⟨_, rfl, ?_⟩⟩
         refine ite2 (fun d2 => ?_) (fun d2 => t4 (Bool.eq_false_iff.mpr d2) H2 s2)
         obtain ⟨xs', u, sq', ea', hu⟩ := item 1 s2 (by omega)
         exact ⟨_, rfl, a, xs', _, u, rfl, rfl, sq', ea', g1 r, u, 1, 99, rfl, hu, fun H3 s3 => t3 H2 s2 d2 H3 s3⟩
       refine ⟨_, rfl, rfl, _, rfl, ?_⟩
       refine ite2 (fun c3 => ?_) (fun c3 => ?_)
       · have k1 := kk
         unfold mDeedW at k1
         rw [if_neg c, if_neg c2, if_pos c3] at k1
         obtain ⟨t1, t2⟩ := three 9999 k1
         refine ⟨_, rfl, a, ys, rfl, .inr (SqT.of hya), rfl, _, rfl, ?_⟩
         refine ite2 (fun d => ?_) (fun d => t2 (congrArg V.bl (Bool.eq_false_iff.mpr d)))
         obtain ⟨t3, t4⟩ := t1 (congrArg V.bl d)
         have h3 : ys.length = 3 := by
          have := V.int.inj (of_decide_eq_true d)
          omega
         obtain ⟨xs', u, sq', ea', hu⟩ := item 0 (Same.refl H1) (by omega)
         refine ⟨_, rfl, a, xs', _, u, rfl, rfl, sq', ea', _, rfl, g0 r, u, hv, b, ww, n, rfl, hu, hH.mono s1, fun H2 s2 => ⟨_, rfl, ?_⟩⟩
         refine ite2 (fun d2 => ?_) (fun d2 => t4 (Bool.eq_false_iff.mpr d2) H2 s2)
         obtain ⟨xs', u, sq', ea', hu⟩ := item 1 s2 (by omega)
         exact ⟨_, rfl, a, xs', _, u, rfl, rfl, sq', ea', g1 r, u, 1, 9999, rfl, hu, fun H3 s3 => t3 H2 s2 d2 H3 s3⟩
       have k1 := kk
       unfold mDeedW at k1
       rw [if_neg c, if_neg c2, if_neg c3] at k1
       refine ⟨_, rfl, a, ys, rfl, .inr (SqT.of hya), rfl, _, rfl, ?_⟩
       refine ite2 (fun d => ?_) (fun d => ?_)
       · have h1 : r.length ≠ 1 := fun z => by
          have e : V.int (ys.length : Int) = V.int 2 := congrArg V.int (by omega)
          rw [decide_eq_true e] at d
          cases d
         rw [if_pos h1] at k1
         exact k1 H1 s1
       have h1 : r.length = 1 := by
        rcases hr1 with z | z
        · exact z
        · exfalso
          apply d
          have e : ¬ V.int (ys.length : Int) = V.int 2 := fun q => by have := V.int.inj q; omega
          rw [decide_eq_false e]
          rfl
       rw [if_neg (by omega)] at k1
       refine ⟨_, rfl, (by show 3 ≤ sizeLine; decide), fun p hp => ⟨p, _, rfl, .inr (SqT.of upd_same), rfl, rfl, _, rfl, ?_⟩⟩
       have sp := Same.new hp (.tup [.str "come", .str "go", .str "leave"])
       refine ite2 (fun c4 => ?_) (fun c4 => ?_)
       · have c4 : inV (.str x) [.str "come", .str "go", .str "leave"] = true := c4
         rw [if_pos c4] at k1
         obtain ⟨xs', u, sq', ea', hu⟩ := item 0 sp (by omega)
         exact ⟨_, rfl, a, xs', _, u, rfl, rfl, sq', ea', _, rfl, g0 r, u, hv, b, ww, n, rfl, hu, (hH.mono s1).mono sp, fun H3 s3 => k1 H3 (s1.trans (sp.trans s3))⟩
       have c4 : ¬ inV (.str x) [.str "come", .str "go", .str "leave"] = true := c4
       rw [if_neg c4] at k1
       refine ⟨_, rfl, rfl, _, rfl, ?_⟩
       refine ite2 (fun c5 => ?_) (fun c5 => ?_)
       · rw [if_pos c5] at k1
         obtain ⟨xs', u, sq', ea', hu⟩ := item 0 sp (by omega)
         exact ⟨_, rfl, a, xs', _, u, rfl, rfl, sq', ea', g0 r, u, 0, 999, rfl, hu, fun H3 s3 => k1 H3 (s1.trans (sp.trans s3))⟩
       rw [if_neg c5] at k1
       refine ⟨_, rfl, rfl, _, rfl, ?_⟩
       refine ite2 (fun c6 => ?_) (fun c6 => ?_)
       · have c6' : wEq x "say" = true := c6
         rw [c6', Bool.true_and] at k1
         obtain ⟨xs', u, sq', ea', hu⟩ := item 0 sp (by omega)
         refine ⟨_, rfl, a, xs', _, u, rfl, rfl, sq', ea', g0 r, u, rfl, hu, ?_, fun H3 s3 => k1 H3 (s1.trans (sp.trans s3))⟩
         refine hW _ rfl _ (List.mem_cons_of_mem _ ?_)
         unfold g0
         rw [List.getD_eq_getElem?_getD, List.getElem?_eq_getElem (by omega : 0 < r.length)]
         exact List.getElem_mem _
       · have c6' : wEq x "say" = false := Bool.eq_false_iff.mpr c6
         rw [c6', Bool.false_and] at k1
         exact k1 _ (s1.trans sp)
     | _ =>
       refine iteT ?_
       exact k H1 s1
   · have hb : (decide (ts.length = 2) || decide (ts.length = 3)) = false := by simpa using hl
     rw [hb]
     refine iteT (iteT ?_)
     have e : mDeed (.tup ts) num b ww n = false := by
      unfold mDeed
      split
      · rename_i x r heq
        have heq : ts = .str x :: r := by injection heq
        rw [heq] at hl
        have : (decide (r.length = 1) || decide (r.length = 2)) = false := by simpa using hl
        rw [this, Bool.false_and]
      · rfl
     have kk := k H1 s1
     rw [e] at kk
     exact kk
 | _ => exact iteT (iteT (k H1 s1))
noncomputable def mDeeds (t : T) (num : Int) (b w : Int) (n : Nat) : Bool := match t with | .tup ts => ts.all fun d => mDeed d num b w n | _ => false
noncomputable def mScript (t : T) (num : Int) (b w : Int) (n : Nat) : Bool := mTupW t 0 80 && mDeeds t num b w n
theorem noLoc {o : Option NameKind} (h : o = some .cell) : o ≠ some .local := fun z => by rw [h] at z; cases z
noncomputable def Ws (t : T) : Prop := ∀ ts, t = .tup ts → ∀ d ∈ ts, Wd d
noncomputable def spSc : Sp := fun vs H Q _ => ∃ t v num hv b w n, vs = [v, .int num, hv] ∧ Is H t v ∧ HIs H b w n hv ∧ Ws t ∧ ∀ H', Same H H' → Q (.bl (mScript t num b w n)) H'
theorem small80 {n : Nat} (h : n ≤ 1000) : n ≤ sizeLine := Nat.le_of_lt (small1000 h)
theorem sc_script : FnScope ["thing", "number", "house"] ["thing", "number", "house"] (defScope s_is_script) := ⟨rfl, rfl, rfl, by decide +kernel, rfl, by decide +kernel, by decide +kernel⟩
theorem ok_is_script (D : Def K mg "is_script" s_is_script) (T : Txt K mg) (o1 : Ok P w K mg base "is_tuple_within" 1 ["thing", "least", "most"] spTw) (o2 : Ok P w K mg base "is_deed" 7 ["thing", "number", "house"] spDd) :
  Ok P w K mg base "is_script" 8 ["thing", "number", "house"] spSc := by
 refine mkOk D sc_script (fun _ _ _ _ _ _ us hl => (match us, hl with | [_, _, _], _ => rfl)) (fun vs H Q E ⟨t, v, lo, hv, b, w, n, e, _⟩ => by rw [e]; rfl) fun f cdv A outer s H vs Q E hr h => ?_
 obtain ⟨t, v, num, hv, b, ww, n, rfl, ht, hH, hW, k⟩ := h
 refine ⟨_, pss_cons (ps_if (pt_not (pt_val (pe_fn o1 (hr.mono (by decide)) (pa_cons (pv 0) (pa_cons pe_int (pa_cons (pe_cst T.MOST_DEEDS_OF_SCRIPT) pa_nil)))))) (pss_one (ps_ret pe_bl)) pss_nil)
  (pss_one (ps_ret (pe_callB (call_all rfl) rfl T.all bt_all (pa_cons (pe_lc (own := ["deed"]) (cap := [1, 2]) rfl (lcScope (defScope s_is_script) rfl rfl (by decide +kernel) (by decide +kernel) (by decide +kernel) ⟨⟨_, rfl, .inl rfl, noLoc rfl⟩, ⟨_, rfl, .inl rfl, noLoc rfl⟩, trivial⟩) (pi_tup (pv 0))
   (fun _ _ _ _ => pg_name (i := 0) (by show (["deed", "number", "house"] : List Str).Nodup; decide +kernel) rfl (Or.inl rfl)) (fun _ _ _ _ => pif_nil)
   (fun _ _ _ _ => pe_fn o2 hr (pa_cons (pv 0) (pa_cons (pv 1) (pa_cons (pv 2) pa_nil))))) pa_nil)))), ?_⟩
 refine ⟨_, rfl, t, v, 0, 80, rfl, ht, fun H1 s1 => ⟨_, rfl, ?_⟩⟩
 have kk : ∀ H', Same H H' → Q (.bl (mTupW t 0 80 && mDeeds t num b ww n)) H' := k
 cases c : mTupW t 0 80 with
 | false =>
   rw [c] at kk
   exact iteT (kk H1 s1)
 | true =>
   rw [c] at kk
   refine iteF ?_
   cases t with
   | tup ts =>
     have hlen : ts.length ≤ 80 := by
      have c : (decide ((0 : Int) ≤ (ts.length : Int)) && decide ((ts.length : Int) ≤ 80)) = true := c
      simp only [Bool.and_eq_true, decide_eq_true_eq] at c
      omega
     obtain ⟨a, xs, rfl, ha, hl⟩ := ht.mono s1
     have hxl := hl.length
     refine ⟨_, rfl, a, rfl, ⟨xs, SqT.of ha⟩, ?_⟩
     refine lc_tup (xs := xs) (fun i ys H' => Same H1 H' ∧ ys = (ts.take i).map fun d => V.bl (mDeed d num b ww n)) ⟨Same.refl H1, rfl⟩ (fun i ys H' hi ⟨s2, e⟩ => ⟨SqT.of (s2 _ _ ha), by rw [e, List.length_map, List.length_take]; exact small80 (by omega)⟩) ?_ ?_
     · rintro i x ys H' hx ⟨s2, rfl⟩
       refine gIf0 ?_
       obtain ⟨d, hd, hxd⟩ := hl.get' hx
       refine ⟨_, rfl, _, rfl, _, rfl, d, x, num, hv, b, ww, n, rfl, hxd.mono s2, (hH.mono s1).mono s2, hW ts rfl d (List.mem_of_getElem? hd), fun H3 s3 => ⟨s2.trans s3, ?_⟩⟩
       rw [List.take_add_one, hd, List.map_append]
       rfl
     · rintro ys H' ⟨s2, rfl⟩ p hp
       refine ⟨p, ts.map fun d => mDeed d num b ww n, rfl, SqL.of ?_, ?_⟩
       · rw [upd_same, List.map_map, hxl, List.take_length]
         rfl
       · have e : (ts.map fun d => mDeed d num b ww n).all id = ts.all fun d => mDeed d num b ww n := by rw [List.all_map]; rfl
         rw [e]
         exact kk _ (s1.trans (s2.trans (Same.new hp _)))
   | _ => cases c
noncomputable def mFrame (t : T) : Bool := match t with | .tup [b, w, f, s] => mWithin b 0 99 && (mWithin w 0 6 && (mTupW f 1 40 && mTupW s 1 20)) | _ => false
theorem tup4 {t : L2.T} (h : mTupW t 4 4 = true) : ∃ x y z u, t = .tup [x, y, z, u] := by
 cases t with
 | tup ts =>
   have h : (decide ((4 : Int) ≤ (ts.length : Int)) && decide ((ts.length : Int) ≤ 4)) = true := h
   simp only [Bool.and_eq_true, decide_eq_true_eq] at h
   have : ts.length = 4 := by omega
   match ts, this with
   | [x, y, z, u], _ => exact ⟨x, y, z, u, rfl⟩
 | _ => cases h
theorem tup4' {x y z u : L2.T} : mTupW (.tup [x, y, z, u]) 4 4 = true := by simp [mTupW]
theorem sc_frame : FnScope ["thing"] ["thing"] (defScope s_is_frame) := ⟨rfl, rfl, rfl, by decide +kernel, rfl, by decide +kernel, by decide +kernel⟩
theorem ok_is_frame (D : Def K mg "is_frame" s_is_frame) (T : Txt K mg) (o1 : Ok P w K mg base "is_tuple_within" 1 ["thing", "least", "most"] spTw) (o2 : Ok P w K mg base "is_within" 2 ["thing", "least", "most"] spWi) :
  Ok P w K mg base "is_frame" 3 ["thing"] (spB1 (fun _ => True) mFrame) := by
 refine mkOk D sc_frame (fun _ _ _ _ _ _ us hl => (match us, hl with | [_], _ => rfl)) (fun vs H Q E ⟨t, v, e, _⟩ => by rw [e]; rfl) fun f cdv A outer s H vs Q E hr h => ?_
 obtain ⟨t, v, rfl, ht, _, k⟩ := h
 have r1 := hr.mono (show 1 ≤ 2 by decide)
 refine ⟨_, pss_cons (ps_if (pt_not (pt_val (pe_fn o1 r1 (pa_cons (pv 0) (pa_cons pe_int (pa_cons pe_int pa_nil)))))) (pss_one (ps_ret pe_bl)) pss_nil)
  (pss_cons (ps_if (PW.pt (pw_or (pt_not (pt_val (pe_fn o2 hr (pa_cons (pe_ix ix_tup (pv 0) (pe_cst T.BOXES) (fun _ _ => rfl)) (pa_cons pe_int (pa_cons (pe_cst T.MOST_BOXES) pa_nil)))))) (pw_or1 (pt_not (pt_val (pe_fn o2 hr (pa_cons (pe_ix ix_tup (pv 0) (pe_cst T.WALLS) (fun _ _ => rfl)) (pa_cons pe_int (pa_cons (pe_cst T.MOST_WALLS) pa_nil)))))))))
   (pss_one (ps_ret pe_bl)) pss_nil)
  (pss_one (ps_ret (pe_and (pe_fn o1 r1 (pa_cons (pe_ix ix_tup (pv 0) (pe_cst T.FIRSTS) (fun _ _ => rfl)) (pa_cons pe_int (pa_cons (pe_cst T.MOST_FIRSTS) pa_nil)))) (pe_one (pe_fn o1 r1 (pa_cons (pe_ix ix_tup (pv 0) (pe_cst T.SCRIPTS) (fun _ _ => rfl)) (pa_cons pe_int (pa_cons (pe_cst T.MOST_SCRIPTS) pa_nil))))))))), ?_⟩
 refine ⟨_, rfl, t, v, 4, 4, rfl, ht, fun H1 s1 => ⟨_, rfl, ?_⟩⟩
 cases c : mTupW t 4 4 with
 | false =>
   refine iteT ?_
   have e : mFrame t = false := by
    unfold mFrame
    split
    · rw [tup4'] at c; cases c
    · rfl
   have kk := k H1 s1
   rw [e] at kk
   exact kk
 | true =>
   obtain ⟨x, y, z, u, rfl⟩ := tup4 c
   refine iteF ?_
   have kk : ∀ H', Same H H' → Q (.bl (mWithin x 0 99 && (mWithin y 0 6 && (mTupW z 1 40 && mTupW u 1 20)))) H' := k
   obtain ⟨a, xs, u0, rfl, sq, ea, hu0⟩ := Is.at (K := K) (i := 0) (ht.mono s1) rfl
   refine ⟨_, rfl, a, xs, _, _, rfl, rfl, sq, ea, x, u0, 0, 99, rfl, hu0, fun H2 s2 => ⟨_, rfl, ?_⟩⟩
   cases d1 : mWithin x 0 99 with
   | false =>
     rw [d1] at kk
     exact iteT (iteT (kk H2 (s1.trans s2)))
   | true =>
     rw [d1, Bool.true_and] at kk
     refine iteF ?_
     obtain ⟨a', xs, u1, e', sq, ea, hu1⟩ := Is.at (K := K) (i := 1) (ht.mono (s1.trans s2)) rfl
     cases e'
     refine ⟨_, rfl, a, xs, _, _, rfl, rfl, sq, ea, y, u1, 0, 6, rfl, hu1, fun H3 s3 => ⟨_, rfl, ?_⟩⟩
     have s123 := (s1.trans s2).trans s3
     cases d2 : mWithin y 0 6 with
     | false =>
       rw [d2] at kk
       exact iteT (kk H3 s123)
     | true =>
       rw [d2, Bool.true_and] at kk
       refine iteF ?_
       obtain ⟨a', xs, u2, e', sq, ea, hu2⟩ := Is.at (K := K) (i := 2) (ht.mono s123) rfl
       cases e'
       refine ⟨_, rfl, a, xs, _, _, rfl, rfl, sq, ea, z, u2, 1, 40, rfl, hu2, fun H4 s4 => ⟨_, rfl, ?_⟩⟩
       have s1234 := s123.trans s4
       cases d3 : mTupW z 1 40 with
       | false =>
         rw [d3] at kk
         exact iteF (kk H4 s1234)
       | true =>
         rw [d3, Bool.true_and] at kk
         refine iteT ?_
         obtain ⟨a', xs, u3, e', sq, ea, hu3⟩ := Is.at (K := K) (i := 3) (ht.mono s1234) rfl
         cases e'
         exact ⟨_, rfl, a, xs, _, _, rfl, rfl, sq, ea, u, u3, 1, 20, rfl, hu3, fun H5 s5 => kk H5 (s1234.trans s5)⟩
noncomputable def goS (b w : Int) (n : Nat) : Int → List T → Bool
 | _, [] => true
 | i, s :: r => mScript s i b w n && goS b w n (i + 1) r
noncomputable def mWf (t : T) : Bool := mFrame t && (match t with | .tup [.int b, .int w, .tup fs, .tup ss] => goS b w ss.length 0 ss && fs.all (fun c => mCalling c 0 ss.length w) | _ => false)
noncomputable def Wh (t : T) : Prop := ∀ b w f ss, t = .tup [b, w, f, .tup ss] → ∀ s ∈ ss, Ws s
theorem mFrame_inv {t : T} (h : mFrame t = true) : ∃ b w fs ss, t = .tup [.int b, .int w, .tup fs, .tup ss] ∧ fs.length ≤ 40 ∧ ss.length ≤ 20 := by
 unfold mFrame at h
 split at h
 · rename_i x y z u
   simp only [Bool.and_eq_true] at h
   obtain ⟨h1, h2, h3, h4⟩ := h
   cases x with
   | int b =>
     cases y with
     | int w =>
       cases z with
       | tup fs =>
         cases u with
         | tup ss =>
           simp only [mTupW, Bool.and_eq_true, decide_eq_true_eq] at h3 h4
           exact ⟨b, w, fs, ss, rfl, by omega, by omega⟩
         | _ => simp [mTupW] at h4
       | _ => simp [mTupW] at h3
     | _ => simp [mWithin] at h2
   | _ => simp [mWithin] at h1
 · cases h
theorem sc_wf : FnScope ["thing", "number", "script"] ["thing"] (defScope s_is_well_formed) := ⟨rfl, rfl, rfl, by decide +kernel, rfl, by decide +kernel, by decide +kernel⟩
theorem ok_is_well_formed (D : Def K mg "is_well_formed" s_is_well_formed) (T : Txt K mg) (o1 : Ok P w K mg base "is_frame" 3 ["thing"] (spB1 (fun _ => True) mFrame)) (o2 : Ok P w K mg base "is_script" 8 ["thing", "number", "house"] spSc)
  (o3 : Ok P w K mg base "is_calling" 6 ["thing", "least", "house"] spCl) : Ok P w K mg base "is_well_formed" 9 ["thing"] (spB1 Wh mWf) := by
 refine mkOk D sc_wf (fun _ _ _ _ _ _ us hl => (match us, hl with | [_], _ => rfl)) (fun vs H Q E ⟨t, v, e, _⟩ => by rw [e]; rfl) fun f cdv A outer s H vs Q E hr h => ?_
 obtain ⟨t, v, rfl, ht, hW, k⟩ := h
 refine ⟨_, pss_cons (ps_if (pt_not (pt_val (pe_fn o1 (hr.mono (by decide)) (pa_cons (pv 0) pa_nil)))) (pss_one (ps_ret pe_bl)) pss_nil)
  (pss_cons (ps_for PassesOwn.never rfl (pi_enum rfl T.enumerate (pa_cons (pe_ix ix_tup (pv 0) (pe_cst T.SCRIPTS) (fun _ _ => rfl)) pa_nil)) (pg_tup rfl (pgs_cons (pg_name (i := 1) sc_wf.nd rfl (Or.inl rfl)) (pgs_cons (pg_name (i := 2) sc_wf.nd rfl (Or.inl rfl)) pgs_nil)))
   (pss_one (ps_if (pt_not (pt_val (pe_fn o2 hr (pa_cons (pv 2) (pa_cons (pv 1) (pa_cons (pv 0) pa_nil)))))) (pss_one (ps_ret pe_bl)) pss_nil)))
  (pss_one (ps_ret (pe_callB (call_all rfl) rfl T.all bt_all (pa_cons (pe_lc (own := ["calling"]) (cap := [0]) rfl (lcScope (defScope s_is_well_formed) rfl rfl (by decide +kernel) (by decide +kernel) (by decide +kernel) ⟨⟨_, rfl, .inl rfl, noLoc rfl⟩, trivial⟩) (pi_tup (pe_ix ix_tup (pv 0) (pe_cst T.FIRSTS) (fun _ _ => rfl)))
   (fun _ _ _ _ => pg_name (i := 0) (by show (["calling", "thing"] : List Str).Nodup; decide +kernel) rfl (Or.inl rfl)) (fun _ _ _ _ => pif_nil)
   (fun _ _ _ _ => pe_fn o3 (hr.mono (by decide)) (pa_cons (pv 0) (pa_cons pe_int (pa_cons (pv 1) pa_nil))))) pa_nil))))), ?_⟩
 refine ⟨_, rfl, t, v, rfl, ht, trivial, fun H1 s1 => ⟨_, rfl, ?_⟩⟩
 cases c : mFrame t with
 | false =>
   refine iteT ?_
   have e : mWf t = false := by unfold mWf; rw [c, Bool.false_and]
   have kk := k H1 s1
   rw [e] at kk
   exact kk
 | true =>
   refine iteF ?_
   obtain ⟨b, ww, fs, ss, rfl, hf40, hs20⟩ := mFrame_inv c
   have kk : ∀ H', Same H H' → Q (.bl (goS b ww ss.length 0 ss && fs.all fun c => mCalling c 0 ss.length ww)) H' := fun H' s' => by
    have q := k H' s'
    unfold mWf at q
    rw [c, Bool.true_and] at q
    exact q
   have hHI : ∀ {H'}, Same H H' → HIs H' b ww ss.length v := fun s' => ⟨_, ss, ht.mono s', rfl, rfl, rfl, rfl⟩
   obtain ⟨a, xs, us, rfl, sq, ea, hus⟩ := Is.at (K := K) (i := 3) (ht.mono s1) rfl
   obtain ⟨as, xss, rfl, has, hls⟩ := hus
   have hxl := hls.length
   refine ⟨_, rfl, a, xs, _, _, rfl, rfl, sq, ea, as, xss, rfl, SqT.of has, ?_⟩
   refine for_enum (K := K) (a := as) (xs := xss) (fun i σ H' => ∃ nv sv, σ = [some (.ref a), nv, sv] ∧ Same H1 H' ∧ goS b ww ss.length 0 ss = goS b ww ss.length (i : Int) (ss.drop i)) ⟨none, none, rfl, Same.refl H1, rfl⟩ (fun i σ H' _ ⟨_, _, _, s2, _⟩ => SqT.of (s2 _ _ has)) ?_ ?_
   · rintro i x σ H' p hx ⟨nv, sv, rfl, s2, hg⟩ hp
     obtain ⟨sc, hsc, hxs⟩ := hls.get' hx
     have hdrop : ss.drop i = sc :: ss.drop (i + 1) := by
      obtain ⟨h1, h2⟩ := List.getElem?_eq_some_iff.mp hsc
      rw [List.drop_eq_getElem_cons h1, h2]
     have s3 := s2.trans (Same.new hp (.tup [.int i, x]))
     refine ⟨p, _, rfl, SqT.of upd_same, rfl, _, _, rfl, _, _, rfl, rfl, ?_⟩
     refine ⟨_, rfl, _, rfl, _, rfl, sc, x, (i : Int), _, b, ww, ss.length, rfl, hxs.mono s3, hHI (s1.trans s3), hW _ _ _ _ rfl sc (List.mem_of_getElem? hsc), fun H4 s4 => ⟨_, rfl, ?_⟩⟩
     have hg2 : goS b ww ss.length 0 ss = (mScript sc (i : Int) b ww ss.length && goS b ww ss.length ((i : Int) + 1) (ss.drop (i + 1))) := by rw [hg, hdrop]; rfl
     cases d : mScript sc (i : Int) b ww ss.length with
     | false =>
       refine iteT ?_
       have q := kk H4 (s1.trans (s3.trans s4))
       rw [hg2, d] at q
       exact q
     | true =>
       refine iteF ?_
       refine ⟨_, _, rfl, s3.trans s4, ?_⟩
       rw [hg2, d, Bool.true_and]
       rfl
   · rintro σ H' ⟨nv, sv, rfl, s2, hg⟩
     rw [hxl, List.drop_length] at hg
     have hg : goS b ww ss.length 0 ss = true := hg
     rw [hg] at kk
     have s12 := s1.trans s2
     obtain ⟨a', xs', uf, e', sq', ea', huf⟩ := Is.at (K := K) (i := 2) (ht.mono s12) rfl
     cases e'
     obtain ⟨af, xf, rfl, haf, hlf⟩ := huf
     have hfl := hlf.length
     refine ⟨_, rfl, a, xs', _, _, rfl, rfl, sq', ea', af, rfl, ⟨xf, SqT.of haf⟩, ?_⟩
     refine lc_tup (xs := xf) (fun i ys H3 => Same H' H3 ∧ ys = (fs.take i).map fun d => V.bl (mCalling d 0 ss.length ww)) ⟨Same.refl H', rfl⟩ (fun i ys H3 hi ⟨s3, e⟩ => ⟨SqT.of (s3 _ _ haf), by rw [e, List.length_map, List.length_take]; exact small80 (by omega)⟩) ?_ ?_
     · rintro i x ys H3 hx ⟨s3, rfl⟩
       refine gIf0 ?_
       obtain ⟨d, hd, hxd⟩ := hlf.get' hx
       refine ⟨_, rfl, _, rfl, d, x, 0, _, b, ww, ss.length, rfl, hxd.mono s3, hHI (s12.trans s3), fun H4 s4 => ⟨s3.trans s4, ?_⟩⟩
       rw [List.take_add_one, hd, List.map_append]
       rfl
     · rintro ys H3 ⟨s3, rfl⟩ p hp
       refine ⟨p, fs.map fun d => mCalling d 0 ss.length ww, rfl, SqL.of ?_, ?_⟩
       · rw [upd_same, List.map_map, hfl, List.take_length]
         rfl
       · have e : (fs.map fun d => mCalling d 0 ss.length ww).all id = fs.all fun d => mCalling d 0 ss.length ww := by rw [List.all_map]; rfl
         rw [e]
         exact kk _ (s12.trans (s3.trans (Same.new hp _)))
abbrev Mem := Int × Str
inductive Deed where
 | rai (b k : Int) | awa (b m : Int) | com (w : Int) | goo (w : Int) | lea (w : Int) | beg (s : Nat) (ms : List Mem) | wor (d : Int) | say (x : Str)
abbrev Script := List Deed
abbrev Calling := Nat × List Mem
structure House where
 b : Int
 w : Int
 fs : List Calling
 ss : List Script
noncomputable def eMem (m : Mem) : T := .tup [.int m.1, .str m.2]
noncomputable def eMs (ms : List Mem) : T := .tup (ms.map eMem)
noncomputable def eD : Deed → T
 | .rai b k => .tup [.str "raise", .int b, .int k]
 | .awa b m => .tup [.str "await", .int b, .int m]
 | .com w => .tup [.str "come", .int w]
 | .goo w => .tup [.str "go", .int w]
 | .lea w => .tup [.str "leave", .int w]
 | .beg s ms => .tup [.str "begin", .int s, eMs ms]
 | .wor d => .tup [.str "work", .int d]
 | .say x => .tup [.str "say", .str x]
noncomputable def eS (s : Script) : T := .tup (s.map eD)
noncomputable def eC (c : Calling) : T := .tup [.int c.1, eMs c.2]
noncomputable def eH (h : House) : T := .tup [.int h.b, .int h.w, .tup (h.fs.map eC), .tup (h.ss.map eS)]
noncomputable def dw : Deed → Str
 | .rai _ _ => "raise" | .awa _ _ => "await" | .com _ => "come" | .goo _ => "go" | .lea _ => "leave" | .beg _ _ => "begin" | .wor _ => "work" | .say _ => "say"
theorem eD_at (d : Deed) : ∃ r, eD d = .tup (.str (dw d) :: r) := by cases d <;> exact ⟨_, rfl⟩
noncomputable def stp (g : Nat → Nat × Nat) (a : Nat × Nat) : Deed → Nat × Nat
 | .beg j _ => (a.1 + (g j).1, a.2 + (g j).2)
 | _ => a
noncomputable def cntF (ss : List Script) : Nat → Nat → Nat × Nat
 | 0, _ => (0, 0)
 | f + 1, i => (ss.getD i []).foldl (stp (cntF ss f)) (1, (ss.getD i []).length)
noncomputable def cnt (ss : List Script) (i : Nat) : Nat × Nat := cntF ss (ss.length - i) i
noncomputable def Later (ss : List Script) : Prop := ∀ (i : Nat) s, ss[i]? = some s → ∀ j ms, Deed.beg j ms ∈ s → i < j ∧ j < ss.length
theorem fold_congr {g g' : Nat → Nat × Nat} : ∀ (l : List Deed) (a : Nat × Nat), (∀ j ms, Deed.beg j ms ∈ l → g j = g' j) → l.foldl (stp g) a = l.foldl (stp g') a
 | [], _, _ => rfl
 | d :: r, a, h => by
   rw [List.foldl_cons, List.foldl_cons]
   have e : stp g a d = stp g' a d := by
    cases d with
    | beg j ms => simp only [stp]; rw [h j ms List.mem_cons_self]
    | _ => rfl
   rw [e]
   exact fold_congr r _ fun j ms hm => h j ms (List.mem_cons_of_mem _ hm)
theorem cntF_eq {ss : List Script} (L : Later ss) : ∀ (m i f : Nat), ss.length - i = m → i < ss.length → m ≤ f → cntF ss f i = cntF ss m i := by
 intro m
 induction m using Nat.strongRecOn with
 | ind m ih =>
   intro i f hm hi hf
   obtain ⟨m', rfl⟩ : ∃ m', m = m' + 1 := ⟨m - 1, by omega⟩
   obtain ⟨f', rfl⟩ : ∃ f', f = f' + 1 := ⟨f - 1, by omega⟩
   have hs : ss[i]? = some ss[i] := List.getElem?_eq_getElem hi
   have hg : ss.getD i [] = ss[i] := by rw [List.getD_eq_getElem?_getD, hs]; rfl
   simp only [cntF]
   rw [hg]
   refine fold_congr _ _ fun j ms hj => ?_
   obtain ⟨h1, h2⟩ := L i _ hs j ms hj
   rw [ih (ss.length - j) (by omega) j f' rfl h2 (by omega), ih (ss.length - j) (by omega) j m' rfl h2 (by omega)]
theorem cnt_eq {ss : List Script} (L : Later ss) {i : Nat} {s : Script} (hs : ss[i]? = some s) : cnt ss i = s.foldl (stp (cnt ss)) (1, s.length) := by
 obtain ⟨hi, he⟩ := List.getElem?_eq_some_iff.mp hs
 have hg : ss.getD i [] = s := by rw [List.getD_eq_getElem?_getD, hs]; rfl
 unfold cnt
 obtain ⟨m, hm⟩ : ∃ m, ss.length - i = m + 1 := ⟨ss.length - i - 1, by omega⟩
 rw [hm]
 simp only [cntF]
 rw [hg]
 refine fold_congr _ _ fun j ms hj => ?_
 obtain ⟨h1, h2⟩ := L i _ hs j ms hj
 exact cntF_eq L (ss.length - j) j m rfl h2 (by omega)
noncomputable def eCnt (c : Nat × Nat) : HO := .tup [.int (c.1 : Int), .int (c.2 : Int)]
noncomputable def Bro (ss : List Script) (lo : Nat) (H : Hp) (d : Addr) : Prop := ∃ kvs : List (Key × V), H d = some (.dK kvs) ∧ kvs.length ≤ ss.length - lo ∧ ∀ j, lo ≤ j → j < ss.length → ∃ p, valV kvs (Sum.inl (j : Int) : Key) = some (.ref p) ∧ H p = some (eCnt (cnt ss j))
noncomputable def spBr : Sp := fun vs H Q _ => ∃ (ss : List Script) (v : V), vs = [v] ∧ Is H (.tup (ss.map eS)) v ∧ Later ss ∧ ss.length ≤ 20 ∧ ∀ d H', Same H H' → Bro ss 0 H' d → Q (.ref d) H'
theorem sc_brought : FnScope ["scripts", "brought", "number", "hands", "deeds", "deed"] ["scripts"] (defScope s_brought) := ⟨rfl, rfl, rfl, by decide +kernel, rfl, by decide +kernel, by decide +kernel⟩
theorem ok_brought (D : Def K mg "brought_by_scripts" s_brought) (T : Txt K mg) : Ok P w K mg base "brought_by_scripts" 1 ["scripts"] spBr := by
 refine mkOk D sc_brought (fun _ _ _ _ _ _ us hl => (match us, hl with | [_], _ => rfl)) (fun vs H Q E ⟨t, v, e, _⟩ => by rw [e]; rfl) fun f cdv A outer s H vs Q E hr h => ?_
 obtain ⟨ss, v, rfl, ht, hL, h20, k⟩ := h
 have hu := hu_of hr
 refine ⟨_, pss_cons (ps_set (i := 1) sc_brought.nd rfl (Or.inl rfl) pe_dnewK)
  (pss_cons (ps_for PassesOwn.never rfl (pi_down rfl T.range (pa_cons (pe_op op_sub (pe_callB call_len_seq (by rfl) T.len bt_len (pa_cons (pv 0) pa_nil)) pe_int) (pa_cons (pe_un un_neg pe_int) (pa_cons (pe_un un_neg pe_int) pa_nil)))) (pg_name (i := 2) sc_brought.nd rfl (Or.inl rfl))
   (pss_cons (ps_set (i := 3) sc_brought.nd rfl (Or.inl rfl) pe_int)
   (pss_cons (ps_set (i := 4) sc_brought.nd rfl (Or.inl rfl) (pe_callB call_len_seq (by rfl) T.len bt_len (pa_cons (pe_ix ix_tup (pv 0) (pv 2) (fun _ _ => rfl)) pa_nil)))
   (pss_cons (ps_for PassesOwn.never rfl (pi_tup (pe_ix ix_tup (pv 0) (pv 2) (fun _ _ => rfl))) (pg_name (i := 5) sc_brought.nd rfl (Or.inl rfl))
    (pss_one (ps_if (pt_cmpR op_eq (pe_ix ix_tup (pv 5) pe_int (fun _ _ => rfl)) pe_str (nomark _))
     (pss_cons (ps_aug (i := 3) sc_brought.nd rfl (Or.inl rfl) (pe_ix ix_tup (pe_dget hu (pv 1) (pe_ix ix_tup (pv 5) pe_int (fun _ _ => rfl)) (fun _ _ => rfl)) pe_int (fun _ _ => rfl)) ip_add)
     (pss_one (ps_aug (i := 4) sc_brought.nd rfl (Or.inl rfl) (pe_ix ix_tup (pe_dget hu (pv 1) (pe_ix ix_tup (pv 5) pe_int (fun _ _ => rfl)) (fun _ _ => rfl)) pe_int (fun _ _ => rfl)) ip_add))) pss_nil)))
   (pss_one (ps_dput hu (pv 1) (pv 2) (pe_tup (pa_cons (pv 3) (pa_cons (pv 4) pa_nil))) rfl))))))
  (pss_one (ps_ret (pv 1)))), ?_⟩
 obtain ⟨a, xs, rfl, ha, hl⟩ := ht
 have hxl := hl.length
 rw [List.length_map] at hxl
 intro d hd
 have s0 := Same.new hd (.dK [])
 refine ⟨_, rfl, a, xs, rfl, .inr (SqT.of (s0 _ _ ha)), _, _, rfl, rfl, _, rfl, _, rfl, xs.length, rfl, (by omega), ?_⟩
 refine for_down (lo := (xs.length : Int) - 1) (n := xs.length) (fun i σ H' => (∃ x2 x3 x4 x5, σ = [some (.ref a), some (.ref d), x2, x3, x4, x5]) ∧ Same H H' ∧ Bro ss (ss.length - i) H' d) ⟨⟨none, none, none, none, rfl⟩, s0, [], upd_same, Nat.zero_le _, fun j h1 h2 => absurd h2 (by omega)⟩ ?_ ?_
 · rintro i σ H' hi ⟨⟨x2, x3, x4, x5, rfl⟩, sH, kvs, hkd, hkl, hkv⟩
   obtain ⟨m, hm⟩ : ∃ m : Nat, m + i + 1 = ss.length := ⟨ss.length - i - 1, by omega⟩
   have em : (xs.length : Int) - 1 - (i : Int) = ((m : Nat) : Int) := by omega
   rw [em]
   have hms : ss[m]? = some ss[m] := List.getElem?_eq_getElem (by omega)
   obtain ⟨u, eu, hu1⟩ := hl.get (i := m) (t := eS ss[m]) (by rw [List.getElem?_map, hms]; rfl)
   have hat : atI xs ((m : Nat) : Int) = some u := atI_nat eu
   obtain ⟨as, ys, rfl, has, hly⟩ := hu1.mono sH
   have hyl := hly.length
   rw [List.length_map] at hyl
   refine ⟨_, rfl, _, rfl, a, xs, _, _, rfl, rfl, SqT.of (sH _ _ ha), hat, as, ys, rfl, .inr (SqT.of has), ?_⟩
   refine ⟨_, rfl, _, rfl, a, xs, _, _, rfl, rfl, SqT.of (sH _ _ ha), hat, as, rfl, ⟨ys, SqT.of has⟩, ?_⟩
   refine for_tup (K := K) (a := as) (xs := ys) (fun j σ' H2 => H2 = H' ∧ ∃ x5, σ' = [some (.ref a), some (.ref d), some (.int (m : Int)), some (.int (((ss[m].take j).foldl (stp (cnt ss)) (1, ss[m].length)).1 : Int)), some (.int (((ss[m].take j).foldl (stp (cnt ss)) (1, ss[m].length)).2 : Int)), x5]) ⟨rfl, _, by rw [hyl]; rfl⟩
    (fun j σ' H2 _ ⟨e, _⟩ => by rw [e]; exact SqT.of has) ?_ ?_
   · rintro j x σ' H2 hx ⟨rfl, x5, rfl⟩
     obtain ⟨tt, htt, hxt⟩ := hly.get' hx
     rw [List.getElem?_map] at htt
     obtain ⟨dd, hdd, rfl⟩ : ∃ dd, ss[m][j]? = some dd ∧ eD dd = tt := by
      cases e : ss[m][j]? with
      | none => rw [e] at htt; cases htt
      | some z => rw [e] at htt; exact ⟨z, rfl, Option.some.inj htt⟩
     have hstep : (ss[m].take (j + 1)).foldl (stp (cnt ss)) (1, ss[m].length) = stp (cnt ss) ((ss[m].take j).foldl (stp (cnt ss)) (1, ss[m].length)) dd := by
      rw [List.take_add_one, hdd, List.foldl_append]
      rfl
     obtain ⟨r, hr0⟩ := eD_at dd
     obtain ⟨a5, x5s, u5, rfl, sq5, ea5, hu5⟩ := Is.at (K := K) (i := 0) (t := .str (dw dd)) (hr0 ▸ hxt) rfl
     cases (show u5 = .str (dw dd) from hu5)
     refine ⟨_, rfl, a5, x5s, _, _, rfl, rfl, sq5, ea5, rfl, _, rfl, ?_⟩
     rw [hstep]
     cases dd with
     | beg jj ms =>
       refine iteT ?_
       obtain ⟨h1, h2⟩ := hL m _ hms jj ms (List.mem_of_getElem? hdd)
       obtain ⟨p, hval, hp⟩ := hkv jj (by omega) h2
       obtain ⟨a6, x6s, u6, e6, sq6, ea6, hu6⟩ := Is.at (K := K) (i := 1) (t := .int (jj : Int)) hxt rfl
       cases e6
       cases (show u6 = .int (jj : Int) from hu6)
       have hget : DGet H2 d (.int (jj : Int)) (some (.ref p)) := by
        have q := DGet.k (k := (Sum.inl (jj : Int) : Key)) hkd
        rw [hval] at q
        exact q
       refine ⟨_, rfl, _, rfl, _, rfl, a5, x6s, _, _, rfl, rfl, sq6, ea6, d, _, rfl, hget, p, _, _, _, rfl, rfl, SqT.of hp, rfl, _, _, rfl, rfl, ?_⟩
       refine ⟨_, rfl, _, rfl, _, rfl, a5, x6s, _, _, rfl, rfl, sq6, ea6, d, _, rfl, hget, p, _, _, _, rfl, rfl, SqT.of hp, rfl, _, _, rfl, rfl, ?_⟩
       exact ⟨rfl, _, rfl⟩
     | _ => exact iteF ⟨rfl, _, rfl⟩
   · rintro σ' H2 ⟨rfl, x5, rfl⟩
     have efull : (ss[m].take ys.length).foldl (stp (cnt ss)) (1, ss[m].length) = cnt ss m := by
      rw [hyl, List.take_length, cnt_eq hL hms]
     rw [efull]
     refine ⟨_, rfl, _, rfl, (by show 2 ≤ sizeLine; decide), fun p hp => ?_⟩
     have sp := Same.new hp (.tup [.int ((cnt ss m).1 : Int), .int ((cnt ss m).2 : Int)])
     have hkd' := sp _ _ hkd
     have npd : p ≠ d := fun z => by rw [z, hkd] at hp; cases hp
     refine ⟨_, rfl, _, rfl, d, _, rfl, DPut.k (k := (Sum.inl (m : Int) : Key)) hkd' (small1000 (by omega)), ?_⟩
     refine ⟨⟨_, _, _, _, rfl⟩, fun b o e => ?_, _, upd_same, ?_, fun j h1 h2 => ?_⟩
     · have nb : b ≠ d := ne_of_none e hd
       rw [upd_ne nb]
       exact sp _ _ (sH _ _ e)
     · have := length_putK kvs (Sum.inl (m : Int) : Key) (.ref p)
       omega
     · rw [valV_put]
       by_cases ej : j = m
       · subst ej
         refine ⟨p, by rw [if_pos rfl], ?_⟩
         rw [upd_ne npd, upd_same]
         rfl
       · have nj : ¬ ((Sum.inl (j : Int) : Key) = Sum.inl (m : Int)) := fun z => ej (by have := Sum.inl.inj z; omega)
         obtain ⟨q, hq1, hq2⟩ := hkv j (by omega) h2
         refine ⟨q, by rw [if_neg nj]; exact hq1, ?_⟩
         have nq : q ≠ d := ne_of hq2 hkd (by intro z; cases z)
         rw [upd_ne nq]
         exact sp _ _ hq2
 · rintro σ H' ⟨⟨x2, x3, x4, x5, rfl⟩, sH, hB⟩
   refine ⟨_, rfl, k d H' sH ?_⟩
   rw [hxl, Nat.sub_self] at hB
   exact hB
noncomputable def hsum (h : House) : Int := (h.fs.map fun (c : Calling) => ((cnt h.ss c.1).1 : Int)).sum
noncomputable def dsum (h : House) : Int := (h.fs.map fun (c : Calling) => ((cnt h.ss c.1).2 : Int)).sum
noncomputable def mSmall (h : House) : Bool := decide (hsum h ≤ 60) && decide (dsum h ≤ 1200)
structure Cnt (h : House) : Prop where
 later : Later h.ss
 ss20 : h.ss.length ≤ 20
 fs40 : h.fs.length ≤ 40
 call : ∀ c ∈ h.fs, c.1 < h.ss.length
 hs : hsum h < 2 ^ 63
 ds : dsum h < 2 ^ 63
noncomputable def spSm : Sp := fun vs H Q _ => ∃ (h : House) (v : V), vs = [v] ∧ Is H (eH h) v ∧ Cnt h ∧ ∀ H', Same H H' → Q (.bl (mSmall h)) H'
theorem sc_small : FnScope ["house", "brought", "hands", "deeds"] ["house"] (defScope s_is_small) := ⟨rfl, rfl, rfl, by decide +kernel, rfl, by decide +kernel, by decide +kernel⟩
theorem ok_is_small (D : Def K mg "is_small_enough" s_is_small) (T : Txt K mg) (o1 : Ok P w K mg base "brought_by_scripts" 1 ["scripts"] spBr) : Ok P w K mg base "is_small_enough" 2 ["house"] spSm := by
 refine mkOk D sc_small (fun _ _ _ _ _ _ us hl => (match us, hl with | [_], _ => rfl)) (fun vs H Q E ⟨t, v, e, _⟩ => by rw [e]; rfl) fun f cdv A outer s H vs Q E hr h => ?_
 obtain ⟨h, v, rfl, ht, hC, k⟩ := h
 have hu := hu_of hr
 refine ⟨_, pss_cons (ps_set (i := 1) sc_small.nd rfl (Or.inr rfl) (pe_fn o1 hr (pa_cons (pe_ix ix_tup (pv 0) (pe_cst T.SCRIPTS) (fun _ _ => rfl)) pa_nil)))
  (pss_cons (ps_set (i := 2) sc_small.nd rfl (Or.inl rfl) (pe_callB (call_sumL rfl) rfl T.sum bt_sum (pa_cons (pe_lc (own := ["calling"]) (cap := [1]) rfl (lcScope (defScope s_is_small) rfl rfl (by decide +kernel) (by decide +kernel) (by decide +kernel) ⟨⟨_, rfl, .inl rfl, noLoc rfl⟩, trivial⟩) (pi_tup (pe_ix ix_tup (pv 0) (pe_cst T.FIRSTS) (fun _ _ => rfl)))
   (fun _ _ _ _ => pg_name (i := 0) (by show (["calling", "brought"] : List Str).Nodup; decide +kernel) rfl (Or.inl rfl)) (fun _ _ _ _ => pif_nil)
   (fun _ _ _ _ => pe_ix (r := rIxT K) ix_tup (pe_dget hu (pv 1) (pe_ix (r := rIxT K) ix_tup (pv 0) pe_int (fun _ _ => rfl)) (fun _ _ => rfl)) pe_int (fun _ _ => rfl))) pa_nil)))
  (pss_cons (ps_set (i := 3) sc_small.nd rfl (Or.inl rfl) (pe_callB (call_sumL rfl) rfl T.sum bt_sum (pa_cons (pe_lc (own := ["calling"]) (cap := [1]) rfl (lcScope (defScope s_is_small) rfl rfl (by decide +kernel) (by decide +kernel) (by decide +kernel) ⟨⟨_, rfl, .inl rfl, noLoc rfl⟩, trivial⟩) (pi_tup (pe_ix ix_tup (pv 0) (pe_cst T.FIRSTS) (fun _ _ => rfl)))
   (fun _ _ _ _ => pg_name (i := 0) (by show (["calling", "brought"] : List Str).Nodup; decide +kernel) rfl (Or.inl rfl)) (fun _ _ _ _ => pif_nil)
   (fun _ _ _ _ => pe_ix (r := rIxT K) ix_tup (pe_dget hu (pv 1) (pe_ix (r := rIxT K) ix_tup (pv 0) pe_int (fun _ _ => rfl)) (fun _ _ => rfl)) pe_int (fun _ _ => rfl))) pa_nil)))
  (pss_one (ps_ret (pe_and (pe_cmpR op_le (pv 2) (pe_cst T.MOST_HANDS) (nomark _)) (pe_one (pe_cmpR op_le (pv 3) (pe_cst T.MOST_DEEDS) (nomark _)))))))), ?_⟩
 obtain ⟨a, xs, us, rfl, sq, ea, hus⟩ := Is.at (K := K) (i := 3) ht rfl
 refine ⟨_, rfl, a, xs, _, _, rfl, rfl, sq, ea, h.ss, us, rfl, hus, hC.later, hC.ss20, fun d H1 s1 hB => ?_⟩
 obtain ⟨kvs, hkd, hkl, hkv⟩ := hB
 obtain ⟨a', xf0, uf, e', sq', ea', huf⟩ := Is.at (K := K) (i := 2) (ht.mono s1) rfl
 cases e'
 obtain ⟨af, xs0, rfl, haf, hlf⟩ := huf
 have hfl := hlf.length
 rw [List.length_map] at hfl
 refine ⟨_, rfl, a, xf0, _, _, rfl, rfl, sq', ea', af, rfl, ⟨xs0, SqT.of haf⟩, ?_⟩
 refine lc_tup (xs := xs0) (fun i ys H3 => H3 = H1 ∧ ys = (h.fs.take i).map fun (c : Calling) => V.int ((cnt h.ss c.1).1 : Int)) ⟨rfl, rfl⟩ (fun i ys H3 hi ⟨e1, e2⟩ => ⟨by rw [e1]; exact SqT.of haf, by rw [e2, List.length_map, List.length_take]; exact small80 (by have := hC.fs40; omega)⟩) ?_ ?_
 · rintro i x ys H3 hx ⟨rfl, rfl⟩
   refine gIf0 ?_
   obtain ⟨tt, htt, hxt⟩ := hlf.get' hx
   rw [List.getElem?_map] at htt
   obtain ⟨c, hc, rfl⟩ : ∃ c, h.fs[i]? = some c ∧ eC c = tt := by
    cases e : h.fs[i]? with
    | none => rw [e] at htt; cases htt
    | some z => rw [e] at htt; exact ⟨z, rfl, Option.some.inj htt⟩
   obtain ⟨p, hval, hp⟩ := hkv c.1 (Nat.zero_le _) (hC.call c (List.mem_of_getElem? hc))
   obtain ⟨a6, x6s, u6, rfl, sq6, ea6, hu6⟩ := Is.at (K := K) (i := 0) (t := .int (c.1 : Int)) hxt rfl
   cases (show u6 = .int (c.1 : Int) from hu6)
   have hget : DGet H3 d (.int (c.1 : Int)) (some (.ref p)) := by
    have q := DGet.k (k := (Sum.inl (c.1 : Int) : Key)) hkd
    rw [hval] at q
    exact q
   refine ⟨_, rfl, _, rfl, a6, x6s, _, _, rfl, rfl, sq6, ea6, d, _, rfl, hget, p, _, _, _, rfl, rfl, SqT.of hp, rfl, rfl, ?_⟩
   rw [List.take_add_one, hc, List.map_append]
   rfl
 rintro ys H3 ⟨rfl, rfl⟩ p0 hp0
 have sn0 := Same.new hp0 (.lst ((h.fs.take xs0.length).map fun (c : Calling) => V.int ((cnt h.ss c.1).1 : Int)))
 refine ⟨p0, h.fs.map fun (c : Calling) => ((cnt h.ss c.1).1 : Int), rfl, SqL.of (by rw [upd_same, List.map_map, hfl, List.take_length]; rfl), fun n hn => ?_, hC.hs, ?_⟩
 · obtain ⟨c, _, rfl⟩ := List.mem_map.mp hn
   exact Int.ofNat_nonneg _
 generalize upd H3 p0 (.lst ((h.fs.take xs0.length).map fun (c : Calling) => V.int ((cnt h.ss c.1).1 : Int))) = H2 at sn0 ⊢
 have hkd0 : H2 d = some (.dK kvs) := sn0 _ _ hkd
 have hkv0 : ∀ j : Nat, 0 ≤ j → j < h.ss.length → ∃ p, valV kvs (Sum.inl (j : Int) : Key) = some (V.ref p) ∧ H2 p = some (eCnt (cnt h.ss j)) := fun j h1 h2 => by
  obtain ⟨p, e1, e2⟩ := hkv j h1 h2
  exact ⟨p, e1, sn0 _ _ e2⟩
 obtain ⟨a', xf1, uf, e', sq', ea', huf⟩ := Is.at (K := K) (i := 2) (ht.mono (s1.trans sn0)) rfl
 cases e'
 obtain ⟨af, xs1, rfl, haf, hlf⟩ := huf
 have hfl := hlf.length
 rw [List.length_map] at hfl
 refine ⟨_, rfl, a, xf1, _, _, rfl, rfl, sq', ea', af, rfl, ⟨xs1, SqT.of haf⟩, ?_⟩
 refine lc_tup (xs := xs1) (fun i ys H3 => H3 = H2 ∧ ys = (h.fs.take i).map fun (c : Calling) => V.int ((cnt h.ss c.1).2 : Int)) ⟨rfl, rfl⟩ (fun i ys H3 hi ⟨e1, e2⟩ => ⟨by rw [e1]; exact SqT.of haf, by rw [e2, List.length_map, List.length_take]; exact small80 (by have := hC.fs40; omega)⟩) ?_ ?_
 · rintro i x ys H3 hx ⟨rfl, rfl⟩
   refine gIf0 ?_
   obtain ⟨tt, htt, hxt⟩ := hlf.get' hx
   rw [List.getElem?_map] at htt
   obtain ⟨c, hc, rfl⟩ : ∃ c, h.fs[i]? = some c ∧ eC c = tt := by
    cases e : h.fs[i]? with
    | none => rw [e] at htt; cases htt
    | some z => rw [e] at htt; exact ⟨z, rfl, Option.some.inj htt⟩
   obtain ⟨p, hval, hp⟩ := hkv0 c.1 (Nat.zero_le _) (hC.call c (List.mem_of_getElem? hc))
   obtain ⟨a6, x6s, u6, rfl, sq6, ea6, hu6⟩ := Is.at (K := K) (i := 0) (t := .int (c.1 : Int)) hxt rfl
   cases (show u6 = .int (c.1 : Int) from hu6)
   have hget : DGet H3 d (.int (c.1 : Int)) (some (.ref p)) := by
    have q := DGet.k (k := (Sum.inl (c.1 : Int) : Key)) hkd0
    rw [hval] at q
    exact q
   refine ⟨_, rfl, _, rfl, a6, x6s, _, _, rfl, rfl, sq6, ea6, d, _, rfl, hget, p, _, _, _, rfl, rfl, SqT.of hp, rfl, rfl, ?_⟩
   rw [List.take_add_one, hc, List.map_append]
   rfl
 rintro ys H3 ⟨rfl, rfl⟩ p1 hp1
 have sn1 := Same.new hp1 (.lst ((h.fs.take xs1.length).map fun (c : Calling) => V.int ((cnt h.ss c.1).2 : Int)))
 refine ⟨p1, h.fs.map fun (c : Calling) => ((cnt h.ss c.1).2 : Int), rfl, SqL.of (by rw [upd_same, List.map_map, hfl, List.take_length]; rfl), fun n hn => ?_, hC.ds, ?_⟩
 · obtain ⟨c, _, rfl⟩ := List.mem_map.mp hn
   exact Int.ofNat_nonneg _
 generalize upd H3 p1 (.lst ((h.fs.take xs1.length).map fun (c : Calling) => V.int ((cnt h.ss c.1).2 : Int))) = H4 at sn1 ⊢
 have hkd1 : H4 d = some (.dK kvs) := sn1 _ _ hkd0
 have hkv1 : ∀ j : Nat, 0 ≤ j → j < h.ss.length → ∃ p, valV kvs (Sum.inl (j : Int) : Key) = some (V.ref p) ∧ H4 p = some (eCnt (cnt h.ss j)) := fun j h1 h2 => by
  obtain ⟨p, e1, e2⟩ := hkv0 j h1 h2
  exact ⟨p, e1, sn1 _ _ e2⟩
 have kk : Q (.bl (decide (hsum h ≤ 60) && decide (dsum h ≤ 1200))) _ := k _ ((s1.trans sn0).trans sn1)
 refine ⟨_, rfl, hsum h, 60, rfl, rfl, _, rfl, ?_⟩
 by_cases c1 : hsum h ≤ 60
 · rw [decide_eq_true c1] at kk ⊢
   exact iteT ⟨_, rfl, dsum h, 1200, rfl, rfl, kk⟩
 · rw [decide_eq_false c1] at kk ⊢
   exact iteF kk
noncomputable def eHad (had : List Mem) : List (Key × V) := had.map fun m => ((Sum.inl m.1 : Key), V.str m.2)
noncomputable def getM (had : List Mem) (w : Int) : Option Str := (had.find? fun m => decide (m.1 = w)).map (·.2)
theorem val_had (had : List Mem) (w : Int) : valV (eHad had) (Sum.inl w : Key) = (getM had w).map V.str := by
 induction had with
 | nil => rfl
 | cons m r ih =>
   by_cases e : m.1 = w
   · have e' : ((Sum.inl m.1 : Key), V.str m.2).1 = Sum.inl w := by show (Sum.inl m.1 : Key) = Sum.inl w; rw [e]
     show valV (((Sum.inl m.1 : Key), V.str m.2) :: eHad r) (Sum.inl w) = _
     rw [valV_pos e']
     simp [getM, List.find?_cons, e]
   · have e' : ¬ ((Sum.inl m.1 : Key), V.str m.2).1 = Sum.inl w := fun z => e (Sum.inl.inj z)
     show valV (((Sum.inl m.1 : Key), V.str m.2) :: eHad r) (Sum.inl w) = _
     rw [valV_neg e', ih]
     simp [getM, List.find?_cons, e]
noncomputable def okM (had : List Mem) (w : Int) (m : Str) : Bool := inV (((getM had w).map V.str).getD .non) [.str "both", .str m]
noncomputable def mAllowed (d : Deed) (had : List Mem) : Bool := match d with
 | .com w => okM had w "come"
 | .goo w => okM had w "go"
 | .lea w => (getM had w).isSome
 | .beg _ ms => ms.all fun m => okM had m.1 m.2
 | _ => true
theorem if0 {σ : L2.St} {H : Hp} {A B : Hp → Prop} (h : A H) : tIf0 σ H (fun b H3 => if b = true then A H3 else B H3) := by
 show if true = true then A H else B H
 exact iteT h
theorem flat_get (had : List Mem) (w : Int) : flatV (((getM had w).map V.str).getD .non) = true := by cases getM had w <;> rfl
noncomputable def spAl : Sp := fun vs H Q _ => ∃ (d : Deed) (dv : V) (had : List Mem) (a : Addr), vs = [dv, .ref a] ∧ Is H (eD d) dv ∧ H a = some (.dK (eHad had)) ∧ (∀ s ms, d = .beg s ms → ms.length ≤ 1000) ∧ ∀ H', Same H H' → Q (.bl (mAllowed d had)) H'
theorem sc_allowed : FnScope ["deed", "had", "word"] ["deed", "had"] (defScope s_is_allowed) := ⟨rfl, rfl, rfl, by decide +kernel, rfl, by decide +kernel, by decide +kernel⟩
theorem ok_is_allowed (D : Def K mg "is_allowed" s_is_allowed) (T : Txt K mg) : Ok P w K mg base "is_allowed" 1 ["deed", "had"] spAl := by
 refine mkOk D sc_allowed (fun _ _ _ _ _ _ us hl => (match us, hl with | [_, _], _ => rfl)) (fun vs H Q E ⟨t, v, _, _, e, _⟩ => by rw [e]; rfl) fun f cdv A outer s H vs Q E hr h => ?_
 obtain ⟨d, dv, had, ah, rfl, hd, hah, hms, k⟩ := h
 have hu := hu_of hr
 refine ⟨_, pss_cons (ps_set (i := 2) sc_allowed.nd rfl (Or.inl rfl) (pe_ix ix_tup (pv 0) pe_int (fun _ _ => rfl)))
  (pss_cons (ps_if (pt_cmpR op_in_seq (pv 2) (pe_tup (pa_cons pe_str (pa_cons pe_str pa_nil))) rfl) (pss_one (ps_ret (pe_cmpR op_in_seq (pe_dget1 hu (pv 1) (pe_ix ix_tup (pv 0) pe_int (fun _ _ => rfl)) ⟨rfl, rfl, rfl, rfl⟩) (pe_tup (pa_cons pe_str (pa_cons (pv 2) pa_nil))) rfl))) pss_nil)
  (pss_cons (ps_if (pt_cmpR op_eq (pv 2) pe_str (nomark _)) (pss_one (ps_ret (pe_cmp (pc_din hu (pe_ix ix_tup (pv 0) pe_int (fun _ _ => rfl)) (pv 1))))) pss_nil)
  (pss_cons (ps_if (pt_cmpR op_eq (pv 2) pe_str (nomark _)) (pss_one (ps_ret (pe_callB (call_all rfl) rfl T.all bt_all (pa_cons (pe_lc (own := ["wall", "mode"]) (cap := [1]) (g := gTup K 2 (gCons (gName 0) (gCons (gName 1) gNil))) rfl (lcScope (defScope s_is_allowed) rfl rfl (by decide +kernel) (by decide +kernel) (by decide +kernel) ⟨⟨_, rfl, .inl rfl, noLoc rfl⟩, trivial⟩) (pi_tup (pe_ix ix_tup (pv 0) pe_int (fun _ _ => rfl)))
   (fun _ _ _ _ => pg_tup rfl (pgs_cons (pg_name (i := 0) (by show (["wall", "mode", "had"] : List Str).Nodup; decide +kernel) rfl (Or.inl rfl)) (pgs_cons (pg_name (i := 1) (by show (["wall", "mode", "had"] : List Str).Nodup; decide +kernel) rfl (Or.inl rfl)) pgs_nil))) (fun _ _ _ _ => pif_nil)
   (fun _ _ _ _ => pe_cmpR (r := rIn K false) op_in_seq (pe_dget1 hu (pv 2) (pv 0) ⟨rfl, rfl, rfl, rfl⟩) (pe_tup (pa_cons pe_str (pa_cons (pv 1) pa_nil))) rfl)) pa_nil)))) pss_nil)
  (pss_one (ps_ret pe_bl))))), ?_⟩
 obtain ⟨r, hr0⟩ := eD_at d
 obtain ⟨a, xs, u0, rfl, sq, ea, hu0⟩ := Is.at (K := K) (i := 0) (t := .str (dw d)) (hr0 ▸ hd) rfl
 cases (show u0 = .str (dw d) from hu0)
 refine ⟨_, rfl, a, xs, _, _, rfl, rfl, sq, ea, ?_⟩
 refine ⟨_, rfl, (by show 2 ≤ sizeLine; decide), fun p hp => ⟨p, _, rfl, .inr (SqT.of upd_same), rfl, rfl, _, rfl, ?_⟩⟩
 have sp := Same.new hp (.tup [.str "come", .str "go"])
 have hah1 := sp _ _ hah
 generalize upd H p (.tup [.str "come", .str "go"]) = H1 at sp hah1 ⊢
 have isd : IsD H1 ah := .inl ⟨_, .inl hah1⟩
 have get : ∀ w : Int, DGet H1 ah (.int w) ((getM had w).map V.str) := fun w => by
  have q := DGet.k (k := (Sum.inl w : Key)) hah1
  rw [val_had] at q
  exact q
 have come : ∀ (w : Int) (m : Str) (t : List L2.T), eD d = .tup (.str m :: .int w :: t) → dw d = m → (∀ H', Same H H' → Q (.bl (okM had w m)) H') →
   tRet (tOp (rIn K false) (tDGet1 (tVar 1) (tOp (rIxT K) (tVar 0) (tC (.int 1)))) (tTup (tCons (tC (.str "both")) (tCons (tVar 2) tNil)))) { nx := fun _ H' => Q .non H', rt := Q } ((L2.start ["deed", "had", "word"] [.ref a, .ref ah]).set 2 (some (.str (dw d)))) H1 := fun w m t e1 e2 kk => by
  obtain ⟨a', xs', u1, e', sq', ea', hu1⟩ := Is.at (K := K) (i := 1) (t := .int w) ((e1 ▸ hd).mono sp) rfl
  cases e'
  cases (show u1 = .int w from hu1)
  refine ⟨_, rfl, ah, rfl, isd, _, rfl, a, xs', _, _, rfl, rfl, sq', ea', _, get w, _, rfl, (by show 2 ≤ sizeLine; decide), fun p2 hp2 => ⟨p2, _, rfl, .inr (SqT.of upd_same), flat_get had w, rfl, ?_⟩⟩
  rw [e2]
  exact kk _ (sp.trans (Same.new hp2 _))
 cases d with
 | com w => exact iteT (come w "come" [] rfl rfl k)
 | goo w => exact iteT (come w "go" [] rfl rfl k)
 | lea w =>
   refine iteF ⟨_, rfl, rfl, _, rfl, iteT ?_⟩
   obtain ⟨a', xs', u1, e', sq', ea', hu1⟩ := Is.at (K := K) (i := 1) (t := .int w) (hd.mono sp) rfl
   cases e'
   cases (show u1 = .int w from hu1)
   refine ⟨_, rfl, a, xs', _, _, rfl, rfl, sq', ea', _, rfl, ah, _, rfl, get w, ?_⟩
   have e : ((getM had w).map V.str).isSome = (getM had w).isSome := by cases getM had w <;> rfl
   rw [e]
   exact k H1 sp
 | beg jj ms =>
   refine iteF ⟨_, rfl, rfl, _, rfl, iteF ⟨_, rfl, rfl, _, rfl, iteT ?_⟩⟩
   obtain ⟨a', xs', u2, e', sq', ea', hu2⟩ := Is.at (K := K) (i := 2) (t := eMs ms) (hd.mono sp) rfl
   cases e'
   obtain ⟨am, xm, rfl, ham, hlm⟩ := hu2
   have hml := hlm.length
   rw [List.length_map] at hml
   have h1000 := hms jj ms rfl
   refine ⟨_, rfl, a, xs', _, _, rfl, rfl, sq', ea', am, rfl, ⟨xm, SqT.of ham⟩, ?_⟩
   refine lc_tup (xs := xm) (fun i ys H3 => Same H1 H3 ∧ ys = (ms.take i).map fun (m : Mem) => V.bl (okM had m.1 m.2)) ⟨Same.refl H1, rfl⟩ (fun i ys H3 hi ⟨s3, e2⟩ => ⟨SqT.of (s3 _ _ ham), by rw [e2, List.length_map, List.length_take]; exact small80 (by omega)⟩) ?_ ?_
   · rintro i x ys H3 hx ⟨s3, rfl⟩
     obtain ⟨tt, htt, hxt⟩ := hlm.get' hx
     rw [List.getElem?_map] at htt
     obtain ⟨m, hm, rfl⟩ : ∃ m, ms[i]? = some m ∧ eMem m = tt := by
      cases e : ms[i]? with
      | none => rw [e] at htt; cases htt
      | some z => rw [e] at htt; exact ⟨z, rfl, Option.some.inj htt⟩
     obtain ⟨a6, x6, rfl, ha6, hl6⟩ := hxt.mono s3
     obtain ⟨v1, r1, rfl, hv1, v2, r2, rfl, hv2, hr2⟩ := hl6
     cases (show r2 = [] from hr2)
     cases (show v1 = .int m.1 from hv1)
     cases (show v2 = .str m.2 from hv2)
     refine ⟨a6, _, rfl, SqT.of ha6, rfl, _, _, rfl, _, _, rfl, rfl, ?_⟩
     refine if0 ?_
     have hah3 := s3 _ _ hah1
     have get3 : DGet H3 ah (.int m.1) ((getM had m.1).map V.str) := by
      have q := DGet.k (k := (Sum.inl m.1 : Key)) hah3
      rw [val_had] at q
      exact q
     refine ⟨_, rfl, ah, rfl, .inl ⟨_, .inl hah3⟩, _, rfl, _, get3, _, rfl, (by show 2 ≤ sizeLine; decide), fun p2 hp2 => ⟨p2, _, rfl, .inr (SqT.of upd_same), flat_get had m.1, rfl, s3.trans (Same.new hp2 _), ?_⟩⟩
     rw [List.take_add_one, hm, List.map_append]
     rfl
   · rintro ys H3 ⟨s3, rfl⟩ p2 hp2
     refine ⟨p2, ms.map fun (m : Mem) => okM had m.1 m.2, rfl, SqL.of (by rw [upd_same, List.map_map, hml, List.take_length]; rfl), ?_⟩
     have e : (ms.map fun (m : Mem) => okM had m.1 m.2).all id = ms.all fun m => okM had m.1 m.2 := by rw [List.all_map]; rfl
     rw [e]
     exact k _ (sp.trans (s3.trans (Same.new hp2 _)))
 | _ => exact iteF ⟨_, rfl, rfl, _, rfl, iteF ⟨_, rfl, rfl, _, rfl, iteF (k H1 sp)⟩⟩
noncomputable def offW (had : List Mem) (w : Int) : List Mem := had.filter fun m => decide (m.1 ≠ w)
noncomputable def goF (rc : Nat → List Mem → Bool) : List Deed → List Mem → Bool
 | [], _ => true
 | d :: r, had => mAllowed d had && (match d with
   | .lea w => goF rc r (offW had w)
   | .beg j ms => rc j ms && goF rc r had
   | _ => goF rc r had)
noncomputable def mFits (ss : List Script) : Nat → Nat → List Mem → Bool
 | 0, _, _ => true
 | f + 1, i, had => goF (mFits ss f) (ss.getD i []) had
noncomputable def MsOk (ms : List Mem) : Prop := (ms.map (·.1)).Nodup ∧ ms.length ≤ 1000
noncomputable def BegOk (ss : List Script) : Prop := ∀ s ∈ ss, ∀ j ms, Deed.beg j ms ∈ s → MsOk ms
theorem members_at {H : Hp} : ∀ {ms : List Mem} {xs : List V}, IsL H (ms.map eMem) xs → ∃ bs : List Addr, xs = bs.map V.ref ∧ Paired (fun (b : Addr) (kv : Key × V) => H b = some (.tup [kV kv.1, kv.2])) bs (eHad ms)
 | [], xs, h => by cases (show xs = [] from h); exact ⟨[], rfl, .nil⟩
 | m :: r, xs, h => by
   obtain ⟨v, vs, rfl, hv, hvs⟩ := h
   obtain ⟨bs, rfl, hp⟩ := members_at hvs
   obtain ⟨a, ys, rfl, ha, hl⟩ := hv
   obtain ⟨v1, r1, rfl, hv1, v2, r2, rfl, hv2, hr2⟩ := hl
   cases (show r2 = [] from hr2)
   cases (show v1 = .int m.1 from hv1)
   cases (show v2 = .str m.2 from hv2)
   exact ⟨a :: bs, rfl, .cons ha hp⟩
theorem mergeK_nd : ∀ (kvs acc : List (Key × V)), ((acc ++ kvs).map (·.1)).Nodup → mergeK acc kvs = acc ++ kvs
 | [], acc, _ => by simp [mergeK]
 | kv :: r, acc, h => by
   have hn : valV acc kv.1 = none := by
    cases e : valV acc kv.1 with
    | none => rfl
    | some v =>
      have hm := valV_in e
      rw [List.map_append, List.map_cons] at h
      exact absurd rfl ((List.nodup_append.mp h).2.2 _ hm _ List.mem_cons_self)
   show mergeK (putK acc kv.1 kv.2) r = _
   rw [putK_new _ hn, mergeK_nd r (acc ++ [(kv.1, kv.2)]) (by simpa using h)]
   simp
theorem merge_had {ms : List Mem} (h : (ms.map (·.1)).Nodup) : mergeK [] (eHad ms) = eHad ms := by
 refine mergeK_nd (eHad ms) [] ?_
 show ((eHad ms).map (·.1)).Nodup
 have e : (eHad ms).map (·.1) = (ms.map (·.1)).map (Sum.inl : Int → Key) := by simp [eHad, Function.comp_def]
 rw [e]
 exact List.Pairwise.map _ (fun a b hab z => hab (Sum.inl.inj z)) h
theorem drop_had (had : List Mem) (w : Int) : dropK (eHad had) (Sum.inl w : Key) = eHad (offW had w) := by
 unfold dropK eHad offW
 rw [List.filter_map]
 congr 1
 apply List.filter_congr
 intro m _
 show decide ((Sum.inl m.1 : Key) ≠ Sum.inl w) = decide (m.1 ≠ w)
 by_cases e : m.1 = w
 · rw [e]; simp
 · have e' : ¬ (Sum.inl m.1 : Key) = Sum.inl w := fun z => e (Sum.inl.inj z)
   simp [e, e']
noncomputable def spFt (n : Nat) : Sp := fun vs H Q _ => ∃ (ss : List Script) (sv : V) (c : Calling) (cv : V), vs = [sv, cv] ∧ Is H (.tup (ss.map eS)) sv ∧ Is H (eC c) cv ∧ c.1 < ss.length ∧ ss.length ≤ c.1 + n ∧ Later ss ∧ BegOk ss ∧ MsOk c.2 ∧
 ∀ H', Same H H' → Q (.bl (mFits ss n c.1 c.2)) H'
theorem sc_fits : FnScope ["scripts", "calling", "had", "deed"] ["scripts", "calling"] (defScope s_fits) := ⟨rfl, rfl, rfl, by decide +kernel, rfl, by decide +kernel, by decide +kernel⟩
theorem fits0 (D : Def K mg "fits" s_fits) : Ok P w K mg base "fits" 1 ["scripts", "calling"] (spFt 0) := by
 obtain ⟨f, fd, F, hm⟩ := D
 have no : ∀ vs H Q E, ¬ spFt 0 vs H Q E := fun vs H Q E h => by
  obtain ⟨ss, sv, c, cv, _, _, _, h1, h2, _⟩ := h
  omega
 exact ⟨f, fd, ⟨fun vs H Q E h => absurd h (no vs H Q E), fun A outer s H args us vs Q E _ _ _ _ h => absurd h (no vs H Q E)⟩, F.binds fun _ _ _ _ _ _ us hl => (match us, hl with | [_, _], _ => rfl), F.kp, hm⟩
theorem fitsS (D : Def K mg "fits" s_fits) (T : Txt K mg) (o1 : Ok P w K mg base "is_allowed" 1 ["deed", "had"] spAl) {n : Nat} (o2 : Ok P w K mg base "fits" (n + 1) ["scripts", "calling"] (spFt n)) : Ok P w K mg base "fits" (n + 1 + 1) ["scripts", "calling"] (spFt (n + 1)) := by
 refine mkOk D sc_fits (fun _ _ _ _ _ _ us hl => (match us, hl with | [_, _], _ => rfl)) (fun vs H Q E ⟨_, _, _, _, e, _⟩ => by rw [e]; rfl) fun f cdv A outer s H vs Q E hr h => ?_
 obtain ⟨ss, sv, c, cv, rfl, hs, hcv, hc1, hc2, hL, hB, hM, k⟩ := h
 have hu := hu_of hr
 refine ⟨_, pss_cons (ps_set (i := 2) sc_fits.nd rfl (Or.inl rfl) (pe_callTy (call_dictP rfl) rfl T.dict bt_dict (pa_cons (pe_ix ix_tup (pv 1) pe_int (fun _ _ => rfl)) pa_nil)))
  (pss_cons (ps_for PassesOwn.never rfl (pi_tup (pe_ix ix_tup (pv 0) (pe_ix ix_tup (pv 1) pe_int (fun _ _ => rfl)) (fun _ _ => rfl))) (pg_name (i := 3) sc_fits.nd rfl (Or.inl rfl))
   (pss_cons (ps_if (pt_not (pt_val (pe_fn o1 (hr.mono (by omega)) (pa_cons (pv 3) (pa_cons (pv 2) pa_nil))))) (pss_one (ps_ret pe_bl)) pss_nil)
   (pss_cons (ps_if (pt_cmpR op_eq (pe_ix ix_tup (pv 3) pe_int (fun _ _ => rfl)) pe_str (nomark _)) (pss_one (ps_expr (pe_dpop1 (pv 2) (pe_ix ix_tup (pv 3) pe_int (fun _ _ => rfl)) ⟨rfl, rfl, rfl, rfl⟩))) pss_nil)
   (pss_one (ps_if (PW.pt (pw_and (pt_cmpR op_eq (pe_ix ix_tup (pv 3) pe_int (fun _ _ => rfl)) pe_str (nomark _)) (pw_and1 (pt_not (pt_val (pe_fn o2 hr (pa_cons (pv 0) (pa_cons (pe_slice sl_tup (pv 3) (po_some pe_int) po_none) pa_nil)))))))) (pss_one (ps_ret pe_bl)) pss_nil)))))
  (pss_one (ps_ret pe_bl))), ?_⟩
 obtain ⟨ac, xc, um, rfl, sqc, eac, hum⟩ := Is.at (K := K) (i := 1) (t := eMs c.2) hcv rfl
 obtain ⟨am, xm, rfl, ham, hlm⟩ := hum
 obtain ⟨bs, rfl, hbs⟩ := members_at hlm
 refine ⟨_, rfl, ac, xc, _, _, rfl, rfl, sqc, eac, am, bs, _, rfl, ham, hbs, fun dh hdh => ?_⟩
 rw [merge_had hM.1]
 have s0 := Same.new hdh (.dK (eHad c.2))
 obtain ⟨ac', xc', un, e', sqc', eac', hun⟩ := Is.at (K := K) (i := 0) (t := .int (c.1 : Int)) (hcv.mono s0) rfl
 cases e'
 cases (show un = .int (c.1 : Int) from hun)
 have hsc : ss[c.1]? = some ss[c.1] := List.getElem?_eq_getElem hc1
 have hgd : ss.getD c.1 [] = ss[c.1] := by rw [List.getD_eq_getElem?_getD, hsc]; rfl
 obtain ⟨as, xss, us, rfl, sqs, eas, hus⟩ := Is.at (K := K) (i := c.1) (t := eS ss[c.1]) (hs.mono s0) (by rw [List.getElem?_map, hsc]; rfl)
 obtain ⟨ad, xd, rfl, had0, hld⟩ := hus
 have hdl := hld.length
 rw [List.length_map] at hdl
 refine ⟨_, rfl, _, rfl, ac, xc', _, _, rfl, rfl, sqc', eac', as, xss, _, _, rfl, rfl, sqs, eas, ad, rfl, ⟨xd, SqT.of had0⟩, ?_⟩
 have hd0 : upd H dh (.dK (eHad c.2)) dh = some (.dK (eHad c.2)) := upd_same
 generalize upd H dh (.dK (eHad c.2)) = H0 at s0 had0 hld sqs sqc' hd0 ⊢
 have kk : ∀ H', Same H H' → Q (.bl (goF (mFits ss n) ss[c.1] c.2)) H' := fun H' s' => by
  have q : Q (.bl (goF (mFits ss n) (ss.getD c.1 []) c.2)) H' := k H' s'
  rw [hgd] at q
  exact q
 have kept : ∀ {H1 : Hp} {o : HO}, Same H H1 → Same H (upd H1 dh o) := fun {H1 o} s1 b u e => by
  rw [upd_ne (ne_of_none e hdh)]
  exact s1 b u e
 have tupK : ∀ {H1 : Hp} {kvs : List (Key × V)} {o : HO}, H1 dh = some (.dK kvs) → Tups H1 (upd H1 dh o) := fun {H1 kvs o} e => Tups.upd e (fun xs z => by cases z)
 refine for_tup (K := K) (a := ad) (xs := xd) (fun i σ H' => ∃ had x3, σ = [some (.ref as), some (.ref ac), some (.ref dh), x3] ∧ Same H H' ∧ Tups H0 H' ∧ H' dh = some (.dK (eHad had)) ∧ goF (mFits ss n) ss[c.1] c.2 = goF (mFits ss n) (ss[c.1].drop i) had)
  ⟨c.2, none, rfl, s0, Tups.refl H0, hd0, rfl⟩ (fun i σ H' _ ⟨_, _, _, _, tp, _⟩ => SqT.of (tp _ _ had0)) ?_ ?_
 · rintro i x σ H1 hx ⟨had, x3, rfl, s1, tp, hdh1, hg⟩
   obtain ⟨tt, htt, hxt⟩ := hld.get' hx
   rw [List.getElem?_map] at htt
   obtain ⟨dd, hdd, rfl⟩ : ∃ dd, ss[c.1][i]? = some dd ∧ eD dd = tt := by
    cases e : ss[c.1][i]? with
    | none => rw [e] at htt; cases htt
    | some z => rw [e] at htt; exact ⟨z, rfl, Option.some.inj htt⟩
   have hdrop : ss[c.1].drop i = dd :: ss[c.1].drop (i + 1) := by
    obtain ⟨h1, h2⟩ := List.getElem?_eq_some_iff.mp hdd
    rw [List.drop_eq_getElem_cons h1, h2]
   rw [hdrop] at hg
   have hmem : dd ∈ ss[c.1] := List.mem_of_getElem? hdd
   have hfro : Fro (eD dd) := by
    cases dd with
    | beg j ms =>
      show FroL [.str "begin", .int j, eMs ms]
      refine ⟨trivial, trivial, ?_, trivial⟩
      show FroL (ms.map eMem)
      rw [FroL.all]
      intro t ht
      obtain ⟨m, _, rfl⟩ := List.mem_map.mp ht
      exact ⟨trivial, trivial, trivial⟩
    | _ => first | exact ⟨trivial, trivial, trivial⟩ | exact ⟨trivial, trivial, trivial, trivial⟩
   have hx1 : Is H1 (eD dd) x := Is.tups tp hfro hxt
   refine ⟨_, rfl, _, rfl, dd, x, had, dh, rfl, hx1, hdh1, fun j ms e => (hB _ (List.getElem_mem hc1) j ms (e ▸ hmem)).2, fun H2 s2 => ⟨_, rfl, ?_⟩⟩
   have s12 := s1.trans s2
   have tp2 := tp.trans s2.tups
   have hdh2 := s2 _ _ hdh1
   have hx2 := hx1.mono s2
   cases ca : mAllowed dd had with
   | false =>
     refine iteT ?_
     have q := kk H2 s12
     rw [hg] at q
     unfold goF at q
     rw [ca, Bool.false_and] at q
     exact q
   | true =>
     refine iteF ?_
     obtain ⟨r, hr0⟩ := eD_at dd
     obtain ⟨a5, x5s, u5, rfl, sq5, ea5, hu5⟩ := Is.at (K := K) (i := 0) (t := .str (dw dd)) (hr0 ▸ hx2) rfl
     cases (show u5 = .str (dw dd) from hu5)
     refine ⟨_, rfl, a5, x5s, _, _, rfl, rfl, sq5, ea5, rfl, _, rfl, ?_⟩
     have plain : ∀ (hgo : goF (mFits ss n) ss[c.1] c.2 = goF (mFits ss n) (ss[c.1].drop (i + 1)) had), ∃ had' x3', [some (V.ref as), some (V.ref ac), some (V.ref dh), some (V.ref a5)] = [some (V.ref as), some (V.ref ac), some (V.ref dh), x3'] ∧ Same H H2 ∧ Tups H0 H2 ∧ H2 dh = some (.dK (eHad had')) ∧ goF (mFits ss n) ss[c.1] c.2 = goF (mFits ss n) (ss[c.1].drop (i + 1)) had' :=
      fun hgo => ⟨had, _, rfl, s12, tp2, hdh2, hgo⟩
     cases dd with
     | lea w =>
       refine iteT ?_
       have hgo : goF (mFits ss n) ss[c.1] c.2 = goF (mFits ss n) (ss[c.1].drop (i + 1)) (offW had w) := by
        rw [hg]
        show (mAllowed (.lea w) had && goF (mFits ss n) (ss[c.1].drop (i + 1)) (offW had w)) = _
        rw [ca, Bool.true_and]
       obtain ⟨a6, x6s, u6, e6, sq6, ea6, hu6⟩ := Is.at (K := K) (i := 1) (t := .int w) hx2 rfl
       cases e6
       cases (show u6 = .int w from hu6)
       obtain ⟨md, hmd⟩ : ∃ md, getM had w = some md := Option.isSome_iff_exists.mp ca
       refine ⟨_, rfl, dh, rfl, .inl ⟨_, .inl hdh2⟩, _, rfl, a5, x6s, _, _, rfl, rfl, sq6, ea6, eHad had, Sum.inl w, _, hdh2, rfl, (by rw [val_had, hmd]; rfl), ?_⟩
       have tp3 := tp2.trans (tupK (o := .dK (dropK (eHad had) (Sum.inl w : Key))) hdh2)
       have hx3 : Is (upd H2 dh (.dK (dropK (eHad had) (Sum.inl w : Key)))) (eD (.lea w)) (.ref a5) := Is.tups (tupK hdh2) hfro hx2
       obtain ⟨a7, x7s, u7, e7, sq7, ea7, hu7⟩ := Is.at (K := K) (i := 0) (t := .str "leave") hx3 rfl
       cases e7
       cases (show u7 = .str "leave" from hu7)
       refine ⟨_, rfl, a5, x7s, _, _, rfl, rfl, sq7, ea7, rfl, _, rfl, iteF (iteF ?_)⟩
       exact ⟨offW had w, _, rfl, kept s12, tp3, by rw [upd_same, drop_had], hgo⟩
     | beg j ms =>
       refine iteF ?_
       obtain ⟨h1, h2⟩ := hL c.1 _ hsc j ms hmem
       have hgo : goF (mFits ss n) ss[c.1] c.2 = (mFits ss n j ms && goF (mFits ss n) (ss[c.1].drop (i + 1)) had) := by
        rw [hg]
        show (mAllowed (.beg j ms) had && (mFits ss n j ms && goF (mFits ss n) (ss[c.1].drop (i + 1)) had)) = _
        rw [ca, Bool.true_and]
       refine ⟨_, rfl, a5, x5s, _, _, rfl, rfl, sq5, ea5, rfl, _, rfl, iteT ?_⟩
       obtain ⟨a6, ys, e6, hya, hyl⟩ := id hx2
       cases e6
       have hyn : ys.length = 3 := hyl.length
       refine ⟨_, rfl, _, rfl, 1, rfl, a5, ys, rfl, SqT.of hya, ?_, fun p hp => ?_⟩
       · intro hh
         have h2 : HT.sIx ys.length 0 (some ((1 : Nat) : Int)) = min 1 ys.length := HT.sIx_nat _ _ _
         have h3 : min 1 ys.length = 0 := h2.symm.trans hh.1
         omega
       · have ecut : cutV ys (some 1) none = ys.drop 1 := by
          have h2 : HT.sIx ys.length 0 (some ((1 : Nat) : Int)) = min 1 ys.length := HT.sIx_nat _ _ _
          have h2 : HT.sIx ys.length 0 (some 1) = 1 := h2.trans (by omega)
          unfold cutV
          rw [h2, HT.sIx_none, List.take_of_length_le (by rw [List.length_drop]; exact Nat.le_refl _)]
         rw [ecut]
         have sp := Same.new hp (.tup (ys.drop 1))
         have hnew : Is (upd H2 p (.tup (ys.drop 1))) (eC (j, ms)) (.ref p) := Is.newTup hp (hyl.drop 1)
         refine ⟨ss, .ref as, (j, ms), .ref p, rfl, hs.mono (s12.trans sp), hnew, h2, (by show ss.length ≤ j + n; omega), hL, hB, hB _ (List.getElem_mem hc1) j ms hmem, fun H3 s3 => ⟨_, rfl, ?_⟩⟩
         have s123 := (s12.trans sp).trans s3
         cases cf : mFits ss n j ms with
         | false =>
           refine iteT ?_
           have q := kk H3 s123
           rw [hgo, cf, Bool.false_and] at q
           exact q
         | true =>
           refine iteF ?_
           rw [cf, Bool.true_and] at hgo
           exact ⟨had, _, rfl, s123, tp2.trans (sp.tups.trans s3.tups), s3 _ _ (sp _ _ hdh2), hgo⟩
     | _ =>
       refine iteF ⟨_, rfl, a5, x5s, _, _, rfl, rfl, sq5, ea5, rfl, _, rfl, iteF (iteF (plain ?_))⟩
       exact hg.trans ((congrArg (fun z => z && goF (mFits ss n) (ss[c.1].drop (i + 1)) had) ca).trans (Bool.true_and _))
 · rintro σ H1 ⟨had, x3, rfl, s1, tp, hdh1, hg⟩
   have q := kk H1 s1
   rw [hg, hdl, List.drop_length] at q
   exact q
noncomputable def mHs (h : House) : Bool := mWf (eH h) && (mSmall h && h.fs.all fun c => mFits h.ss 20 c.1 c.2)
structure Good (h : House) : Prop where
 cnt : Cnt h
 beg : BegOk h.ss
 ms : ∀ c ∈ h.fs, MsOk c.2
noncomputable def spHo : Sp := fun vs H Q _ => ∃ t v, vs = [v] ∧ Is H t v ∧ Wh t ∧ ((∃ h, t = eH h ∧ Good h ∧ ∀ H', Same H H' → Q (.bl (mHs h)) H') ∨ (mWf t = false ∧ ∀ H', Same H H' → Q (.bl false) H'))
theorem ok_fits (D : Def K mg "fits" s_fits) (T : Txt K mg) (o1 : Ok P w K mg base "is_allowed" 1 ["deed", "had"] spAl) : ∀ n : Nat, Ok P w K mg base "fits" (n + 1) ["scripts", "calling"] (spFt n)
 | 0 => fits0 D
 | n + 1 => fitsS D T o1 (ok_fits D T o1 n)
theorem sc_house : FnScope ["thing"] ["thing"] (defScope s_is_house) := ⟨rfl, rfl, rfl, by decide +kernel, rfl, by decide +kernel, by decide +kernel⟩
theorem ok_is_house (D : Def K mg "is_house" s_is_house) (T : Txt K mg) (o1 : Ok P w K mg base "is_well_formed" 9 ["thing"] (spB1 Wh mWf)) (o2 : Ok P w K mg base "is_small_enough" 2 ["house"] spSm) (o3 : Ok P w K mg base "fits" 21 ["scripts", "calling"] (spFt 20)) :
  Ok P w K mg base "is_house" 22 ["thing"] spHo := by
 refine mkOk D sc_house (fun _ _ _ _ _ _ us hl => (match us, hl with | [_], _ => rfl)) (fun vs H Q E ⟨_, _, e, _⟩ => by rw [e]; rfl) fun f cdv A outer s H vs Q E hr h => ?_
 obtain ⟨t, v, rfl, ht, hW, hcase⟩ := h
 refine ⟨_, pss_cons (ps_if (PW.pt (pw_or (pt_not (pt_val (pe_fn o1 (hr.mono (by decide)) (pa_cons (pv 0) pa_nil)))) (pw_or1 (pt_not (pt_val (pe_fn o2 (hr.mono (by decide)) (pa_cons (pv 0) pa_nil))))))) (pss_one (ps_ret pe_bl)) pss_nil)
  (pss_one (ps_ret (pe_callB (call_all rfl) rfl T.all bt_all (pa_cons (pe_lc (own := ["calling"]) (cap := [0]) rfl (lcScope (defScope s_is_house) rfl rfl (by decide +kernel) (by decide +kernel) (by decide +kernel) ⟨⟨_, rfl, .inl rfl, noLoc rfl⟩, trivial⟩) (pi_tup (pe_ix ix_tup (pv 0) (pe_cst T.FIRSTS) (fun _ _ => rfl)))
   (fun _ _ _ _ => pg_name (i := 0) (by show (["calling", "thing"] : List Str).Nodup; decide +kernel) rfl (Or.inl rfl)) (fun _ _ _ _ => pif_nil)
   (fun _ _ _ _ => pe_fn o3 hr (pa_cons (pe_ix (r := rIxT K) ix_tup (pv 1) (pe_cst T.SCRIPTS) (fun _ _ => rfl)) (pa_cons (pv 0) pa_nil)))) pa_nil)))), ?_⟩
 refine ⟨_, rfl, t, v, rfl, ht, hW, fun H1 s1 => ⟨_, rfl, ?_⟩⟩
 rcases hcase with ⟨h, rfl, hG, k⟩ | ⟨hf, k⟩
 · cases cw : mWf (eH h) with
   | false =>
     refine iteT (iteT ?_)
     have q := k H1 s1
     unfold mHs at q
     rw [cw, Bool.false_and] at q
     exact q
   | true =>
     refine iteF ?_
     refine ⟨_, rfl, h, v, rfl, ht.mono s1, hG.cnt, fun H2 s2 => ⟨_, rfl, ?_⟩⟩
     have s12 := s1.trans s2
     have kk : ∀ H', Same H H' → Q (.bl (mSmall h && h.fs.all fun c => mFits h.ss 20 c.1 c.2)) H' := fun H' s' => by
      have q := k H' s'
      unfold mHs at q
      rw [cw, Bool.true_and] at q
      exact q
     cases cs : mSmall h with
     | false =>
       refine iteT ?_
       have q := kk H2 s12
       rw [cs, Bool.false_and] at q
       exact q
     | true =>
       refine iteF ?_
       rw [cs] at kk
       obtain ⟨a, xs, uf, rfl, sq, ea, huf⟩ := Is.at (K := K) (i := 2) (t := .tup (h.fs.map eC)) (ht.mono s12) rfl
       obtain ⟨af, xf, rfl, haf, hlf⟩ := huf
       have hfl := hlf.length
       rw [List.length_map] at hfl
       refine ⟨_, rfl, a, xs, _, _, rfl, rfl, sq, ea, af, rfl, ⟨xf, SqT.of haf⟩, ?_⟩
       refine lc_tup (xs := xf) (fun i ys H3 => Same H2 H3 ∧ ys = (h.fs.take i).map fun (c : Calling) => V.bl (mFits h.ss 20 c.1 c.2)) ⟨Same.refl H2, rfl⟩ (fun i ys H3 hi ⟨s3, e2⟩ => ⟨SqT.of (s3 _ _ haf), by rw [e2, List.length_map, List.length_take]; exact small80 (by have := hG.cnt.fs40; omega)⟩) ?_ ?_
       · rintro i x ys H3 hx ⟨s3, rfl⟩
         refine gIf0 ?_
         obtain ⟨tt, htt, hxt⟩ := hlf.get' hx
         rw [List.getElem?_map] at htt
         obtain ⟨c, hc, rfl⟩ : ∃ c, h.fs[i]? = some c ∧ eC c = tt := by
          cases e : h.fs[i]? with
          | none => rw [e] at htt; cases htt
          | some z => rw [e] at htt; exact ⟨z, rfl, Option.some.inj htt⟩
         have hcm := List.mem_of_getElem? hc
         obtain ⟨a', xs', us, e', sq', ea', hus⟩ := Is.at (K := K) (i := 3) (t := .tup (h.ss.map eS)) (ht.mono (s12.trans s3)) rfl
         cases e'
         refine ⟨_, rfl, a, xs', _, _, rfl, rfl, sq', ea', _, rfl, h.ss, us, c, x, rfl, hus, hxt.mono s3, hG.cnt.call c hcm, (by have := hG.cnt.ss20; omega), hG.cnt.later, hG.beg, hG.ms c hcm, fun H4 s4 => ⟨s3.trans s4, ?_⟩⟩
         rw [List.take_add_one, hc, List.map_append]
         rfl
       · rintro ys H3 ⟨s3, rfl⟩ p2 hp2
         refine ⟨p2, h.fs.map fun (c : Calling) => mFits h.ss 20 c.1 c.2, rfl, SqL.of (by rw [upd_same, List.map_map, hfl, List.take_length]; rfl), ?_⟩
         have e : (h.fs.map fun (c : Calling) => mFits h.ss 20 c.1 c.2).all id = h.fs.all fun c => mFits h.ss 20 c.1 c.2 := by rw [List.all_map]; rfl
         rw [e]
         exact kk _ (s12.trans (s3.trans (Same.new hp2 _)))
 · rw [hf]
   exact iteT (iteT (k H1 s1))
abbrev s_mixed : Stmt := top 60
abbrev s_pick : Stmt := top 61
noncomputable def spSp : Sp := fun vs H Q _ => ∃ c p : Int, vs = [.int c, .int p] ∧ 0 ≤ p ∧ ∀ r, 0 ≤ r → Q (.int r) H
noncomputable def But (a : Addr) (H H' : Hp) : Prop := ∀ b o, b ≠ a → H b = some o → H' b = some o
theorem But.refl (a : Addr) (H : Hp) : But a H H := fun _ _ _ e => e
theorem But.trans {a : Addr} {H H1 H2 : Hp} (x : But a H H1) (y : But a H1 H2) : But a H H2 := fun b o n e => y b o n (x b o n e)
theorem _root_.L2.Same.but {a : Addr} {H H' : Hp} (s : Same H H') : But a H H' := fun b o _ e => s b o e
theorem But.upd {a : Addr} {H : Hp} {o : HO} : But a H (upd H a o) := fun b u n e => by rw [upd_ne n]; exact e
theorem But.seq {K : PySem.W.Frag} {a s : Addr} {H H' : Hp} {xs : List V} (x : But a H H') (n : s ≠ a) (h : SqL K H s xs) : SqL K H' s xs := by
 rcases h with (h | ⟨o, h⟩) | h
 · exact .inl (.inl (x _ _ n h))
 · exact .inl (.inr ⟨o, x _ _ n h⟩)
 · exact .inr h
structure Tape (K : PySem.W.Frag) (H : Hp) (a s : Addr) (ns : List Int) : Prop where
 at' : ∃ p r : Int, H a = some (.lst [.ref s, .int p, .int r]) ∧ 0 ≤ p ∧ 0 ≤ r
 seq : SqL K H s (ns.map V.int)
 ne : s ≠ a
 len : ns.length ≤ 63
theorem Tape.same {K : PySem.W.Frag} {H H' : Hp} {a s : Addr} {ns : List Int} (t : Tape K H a s ns) (h : Same H H') : Tape K H' a s ns := by
 obtain ⟨⟨p, r, e, h1, h2⟩, q, n, l⟩ := t
 exact ⟨⟨p, r, h _ _ e, h1, h2⟩, h.seq q, n, l⟩
theorem Tape.tups {K : PySem.W.Frag} {H H' : Hp} {a s : Addr} {ns : List Int} (t : Tape K H a s ns) (b : But a H H') : Tups H H' := fun c xs e => by
 obtain ⟨⟨p, r, ea, _⟩, _⟩ := t
 exact b c _ (ne_of e ea (by intro z; cases z)) e
theorem log_small {j : Int} (h0 : 0 < j) (h : j < 2 ^ 70) : j.natAbs.log2 < 9000 := by
 have h1 : j.natAbs < 2 ^ 70 := by omega
 have h2 : j.natAbs ≠ 0 := by omega
 have h3 : j.natAbs.log2 < 70 := (Nat.log2_lt h2).mpr h1
 omega
theorem op_fdivW {X : Cx} : OpR X (binaryOp .FloorDiv) (rI (fun _ j => 0 < j ∧ j < 2 ^ 70) fun i j => .int (i / j)) := opI fun i j _ _ _ _ _ hc q => by
 have h1 : (0 : Int) < j := hc.1
 exact floordiv_int (by omega) (by rw [Int.fdiv_eq_ediv_of_nonneg i (by omega)]; exact q) (.inl (PyProof.noPylong_of_log2 (log_small hc.1 hc.2)))
noncomputable def spPk (K : PySem.W.Frag) : Sp := fun vs H Q _ => ∃ (a s : Addr) (ns : List Int) (many : Int), vs = [.ref a, .int many] ∧ Tape K H a s ns ∧ 0 < many ∧ many < 2 ^ 70 ∧ ∀ d H', 0 ≤ d → d < many → But a H H' → Tape K H' a s ns → Q (.int d) H'
theorem cm_r {i j : Int} (h : -(2 ^ 64) < j ∧ j < 2 ^ 64) : CMul i j := .inr h
theorem cm_l {i j : Int} (h : -(2 ^ 64) < i ∧ i < 2 ^ 64) : CMul i j := .inl h
theorem sc_mixed : FnScope ["cell", "place", "one", "two", "more"] ["cell", "place"] (defScope s_mixed) := ⟨rfl, rfl, rfl, by decide +kernel, rfl, by decide +kernel, by decide +kernel⟩
theorem ok_mixed (D : Def K mg "_law_e_mixed" s_mixed) : Ok P w K mg base "_law_e_mixed" 1 ["cell", "place"] spSp := by
 refine mkOk D sc_mixed (fun _ _ _ _ _ _ us hl => (match us, hl with | [_, _], _ => rfl)) (fun vs H Q E ⟨_, _, e, _⟩ => by rw [e]; rfl) fun f cdv A outer s H vs Q E hr h => ?_
 obtain ⟨c, p, rfl, hp, k⟩ := h
 have nd := sc_mixed.nd
 refine ⟨_, pss_cons (ps_if (pt_cmpR op_ge (pv 0) (pe_op op_pow pe_int pe_int) (nomark _)) (pss_one (ps_ret (pv 0))) pss_nil)
  (pss_cons (ps_set (i := 2) nd rfl (Or.inl rfl) (pe_op op_mod (pe_op op_add (pe_op op_add (pe_op op_mul (pe_op op_mod (pv 0) pe_int) pe_int) (pe_op op_mul (pv 1) pe_int)) pe_int) pe_int))
  (pss_cons (ps_set (i := 3) nd rfl (Or.inl rfl) (pe_op op_mod (pe_op op_add (pe_op op_add (pe_op op_add (pe_op op_mul (pv 2) (pv 2)) (pe_op op_mul pe_int (pv 2))) (pe_op op_mul pe_int (pv 1))) pe_int) pe_int))
  (pss_cons (ps_set (i := 4) nd rfl (Or.inl rfl) (pe_op op_mod (pe_op op_add (pe_op op_add (pe_op op_mul (pv 3) (pv 3)) (pe_op op_mul pe_int (pv 1))) (pv 2)) pe_int))
  (pss_one (ps_ret (pe_op op_add (pe_op op_mul (pv 3) pe_int) (pv 4))))))), ?_⟩
 refine ⟨_, rfl, 10, 18, rfl, rfl, ⟨by decide, by decide, by decide⟩, _, _, rfl, rfl, _, rfl, ?_⟩
 refine ite2 (fun d => ?_) (fun _ => ?_)
 · have d := of_decide_eq_true d
   refine ⟨_, rfl, k c ?_⟩
   have : (0 : Int) ≤ (10 : Int) ^ (18 : Int).toNat := by decide
   omega
 · refine ⟨_, rfl, _, _, rfl, rfl, (by show (0 : Int) < 1000000009; decide), _, _, rfl, rfl, cm_r (by decide), _, rfl, _, _, rfl, rfl, cm_r (by decide), _, _, rfl, rfl, _, _, rfl, rfl, _, _, rfl, rfl, (by show (0 : Int) < 1999999973; decide), ?_⟩
   have m1 := Int.emod_nonneg (c % 1000000009 * 75353 + p * 4099 + 17) (show (1999999973 : Int) ≠ 0 by decide)
   have m2 := Int.emod_lt_of_pos (c % 1000000009 * 75353 + p * 4099 + 17) (show (0 : Int) < 1999999973 by decide)
   generalize (c % 1000000009 * 75353 + p * 4099 + 17) % 1999999973 = x1 at m1 m2 ⊢
   refine ⟨_, rfl, _, rfl, _, _, rfl, rfl, cm_l (by omega), _, rfl, _, _, rfl, rfl, cm_l (by decide), _, _, rfl, rfl, _, rfl, _, _, rfl, rfl, cm_l (by decide), _, _, rfl, rfl, _, _, rfl, rfl, _, _, rfl, rfl, (by show (0 : Int) < 2147483549; decide), ?_⟩
   have m3 := Int.emod_nonneg (x1 * x1 + 8191 * x1 + 3 * p + 1) (show (2147483549 : Int) ≠ 0 by decide)
   have m4 := Int.emod_lt_of_pos (x1 * x1 + 8191 * x1 + 3 * p + 1) (show (0 : Int) < 2147483549 by decide)
   generalize (x1 * x1 + 8191 * x1 + 3 * p + 1) % 2147483549 = x2 at m3 m4 ⊢
   refine ⟨_, rfl, _, rfl, _, _, rfl, rfl, cm_l (by omega), _, rfl, _, _, rfl, rfl, cm_l (by decide), _, _, rfl, rfl, _, rfl, _, _, rfl, rfl, _, _, rfl, rfl, (by show (0 : Int) < 2147483497; decide), ?_⟩
   have m5 := Int.emod_nonneg (x2 * x2 + 127 * p + x1) (show (2147483497 : Int) ≠ 0 by decide)
   generalize (x2 * x2 + 127 * p + x1) % 2147483497 = x3 at m5 ⊢
   exact ⟨_, rfl, _, _, rfl, rfl, cm_r (by decide), _, rfl, _, _, rfl, rfl, k _ (by omega)⟩
theorem sc_pick : FnScope ["deck", "many", "place", "cell", "picked"] ["deck", "many"] (defScope s_pick) := ⟨rfl, rfl, rfl, by decide +kernel, rfl, by decide +kernel, by decide +kernel⟩
theorem ok_pick (D : Def K mg "_law_e_pick" s_pick) (T : Txt K mg) (o1 : Ok P w K mg base "_law_e_mixed" 1 ["cell", "place"] spSp) : Ok P w K mg base "_law_e_pick" 2 ["deck", "many"] (spPk K) := by
 refine mkOk D sc_pick (fun _ _ _ _ _ _ us hl => (match us, hl with | [_, _], _ => rfl)) (fun vs H Q E ⟨_, _, _, _, e, _⟩ => by rw [e]; rfl) fun f cdv A outer sh H vs Q E hr h => ?_
 obtain ⟨a, s, ns, many, rfl, hT, hm0, hm1, k⟩ := h
 obtain ⟨p, r, ha, hp0, hr0⟩ := hT.at'
 have nd := sc_pick.nd
 refine ⟨_, pss_cons (ps_if (pt_cmpR op_lt (pe_ix ix_list (pv 0) pe_int (fun _ _ => rfl)) (pv 1) (nomark _))
   (pss_cons (ps_set (i := 2) nd rfl (Or.inl rfl) (pe_ix ix_list (pv 0) pe_int (fun _ _ => rfl)))
   (pss_cons (ps_set (i := 3) nd rfl (Or.inl rfl) (pe_op op_mul pe_int (pv 2)))
   (pss_cons (ps_if (pt_cmpR op_lt (pv 2) (pe_callB call_len_seq (by rfl) T.len bt_len (pa_cons (pe_ix ix_list (pv 0) pe_int (fun _ _ => rfl)) pa_nil)) (nomark _))
    (pss_one (ps_set (i := 3) nd rfl (Or.inl rfl) (pe_ix ix_list (pe_ix ix_list (pv 0) pe_int (fun _ _ => rfl)) (pv 2) (fun _ _ => rfl))))
    (pss_one (ps_if (pt_cmpR op_gt (pe_callB call_len_seq (by rfl) T.len bt_len (pa_cons (pe_ix ix_list (pv 0) pe_int (fun _ _ => rfl)) pa_nil)) pe_int (nomark _))
     (pss_one (ps_set (i := 3) nd rfl (Or.inl rfl) (pe_op op_add (pe_op op_mod (pe_ix ix_list (pe_ix ix_list (pv 0) pe_int (fun _ _ => rfl)) (pe_op op_mod (pe_op op_mul (pv 2) pe_int) (pe_callB call_len_seq (by rfl) T.len bt_len (pa_cons (pe_ix ix_list (pv 0) pe_int (fun _ _ => rfl)) pa_nil))) (fun _ _ => rfl)) pe_int) (pe_op op_mul (pv 2) pe_int)))) pss_nil)))
   (pss_cons (ps_asg (pe_op op_add (pv 2) pe_int) (pg_sub (pv 0) pe_int set_list))
   (pss_one (ps_asg (pe_fn o1 hr (pa_cons (pv 3) (pa_cons (pv 2) pa_nil))) (pg_sub (pv 0) pe_int set_list))))))) pss_nil)
  (pss_cons (ps_set (i := 4) nd rfl (Or.inl rfl) (pe_op op_mod (pe_ix ix_list (pv 0) pe_int (fun _ _ => rfl)) (pv 1)))
  (pss_cons (ps_asg (pe_op op_fdivW (pe_ix ix_list (pv 0) pe_int (fun _ _ => rfl)) (pv 1)) (pg_sub (pv 0) pe_int set_list))
  (pss_one (ps_ret (pv 4))))), ?_⟩
 refine ⟨_, rfl, a, _, _, _, rfl, rfl, SqL.of ha, rfl, _, rfl, _, _, rfl, rfl, _, rfl, ?_⟩
 refine ite2 (fun _ => ?_) (fun _ => ?_)
 · have hl : (ns.map V.int).length = ns.length := List.length_map _
   refine ⟨_, rfl, a, _, _, _, rfl, rfl, SqL.of ha, rfl, _, rfl, _, _, rfl, rfl, cm_l (by decide), ?_⟩
   refine ⟨_, rfl, _, rfl, a, _, _, _, rfl, rfl, SqL.of ha, rfl, s, _, rfl, .inl hT.seq, _, _, rfl, rfl, _, rfl, ?_⟩
   refine ite2 (fun c1 => ?_) (fun c1 => ?_)
   · have c1 := of_decide_eq_true c1
     rw [hl] at c1
     have hi : p.toNat < ns.length := by omega
     have ep : p = ((p.toNat : Nat) : Int) := by omega
     have hat : atI (ns.map V.int) p = some (.int ns[p.toNat]) := by
      have q : atI (ns.map V.int) ((p.toNat : Nat) : Int) = some (.int ns[p.toNat]) := atI_nat (by rw [List.getElem?_map, List.getElem?_eq_getElem hi]; rfl)
      rw [← ep] at q
      exact q
     refine ⟨_, rfl, a, _, _, _, rfl, rfl, SqL.of ha, rfl, _, rfl, s, _, _, _, rfl, rfl, hT.seq, hat, ?_⟩
     refine ⟨_, rfl, _, _, rfl, rfl, _, rfl, a, _, _, _, rfl, rfl, ha, rfl, ?_⟩
     refine ⟨_, rfl, _, rfl, _, p, rfl, hp0, fun r2 hr2 => ⟨_, rfl, a, _, _, _, rfl, rfl, upd_same, rfl, ?_⟩⟩
     have e2 : (upd (upd H a (.lst (([.ref s, .int p, .int r] : List V).set 1 (.int (p + 1))))) a (.lst ((([.ref s, .int p, .int r] : List V).set 1 (.int (p + 1))).set 2 (.int r2)))) a = some (.lst [.ref s, .int (p + 1), .int r2]) := upd_same
     refine ⟨_, rfl, a, _, _, _, rfl, rfl, SqL.of e2, rfl, _, rfl, _, _, rfl, rfl, hm0, ?_⟩
     refine ⟨_, rfl, a, _, _, _, rfl, rfl, SqL.of e2, rfl, _, rfl, _, _, rfl, rfl, ⟨hm0, hm1⟩, _, rfl, a, _, _, _, rfl, rfl, e2, rfl, ?_⟩
     refine ⟨_, rfl, k _ _ (Int.emod_nonneg _ (by omega)) (Int.emod_lt_of_pos _ hm0) ((But.refl a H).trans (But.upd.trans (But.upd.trans But.upd))) ⟨⟨_, _, upd_same, (by omega), Int.ediv_nonneg hr2 (by omega)⟩, But.seq ((But.refl a H).trans (But.upd.trans (But.upd.trans But.upd))) hT.ne hT.seq, hT.ne, hT.len⟩⟩
   · refine ⟨_, rfl, a, _, _, _, rfl, rfl, SqL.of ha, rfl, s, _, rfl, .inl hT.seq, _, _, rfl, rfl, _, rfl, ?_⟩
     refine ite2 (fun c2 => ?_) (fun c2 => ?_)
     · have c2 := of_decide_eq_true c2
       rw [hl] at c2
       have hpos : (0 : Int) < (ns.length : Int) := c2
       have hj1 := Int.emod_nonneg (p * 11) (show (ns.length : Int) ≠ 0 by omega)
       have hj2 := Int.emod_lt_of_pos (p * 11) hpos
       have hi : (p * 11 % (ns.length : Int)).toNat < ns.length := by omega
       have ep : p * 11 % (ns.length : Int) = (((p * 11 % (ns.length : Int)).toNat : Nat) : Int) := by omega
       have hat : atI (ns.map V.int) (p * 11 % (ns.length : Int)) = some (.int ns[(p * 11 % (ns.length : Int)).toNat]) := by
        have q : atI (ns.map V.int) (((p * 11 % (ns.length : Int)).toNat : Nat) : Int) = some (.int ns[(p * 11 % (ns.length : Int)).toNat]) := atI_nat (by rw [List.getElem?_map, List.getElem?_eq_getElem hi]; rfl)
        rw [← ep] at q
        exact q
       refine ⟨_, rfl, a, _, _, _, rfl, rfl, SqL.of ha, rfl, _, rfl, _, _, rfl, rfl, cm_r (by decide), _, rfl, a, _, _, _, rfl, rfl, SqL.of ha, rfl, s, _, rfl, .inl hT.seq, _, _, rfl, rfl, ?_, s, _, _, _, rfl, rfl, hT.seq, (by rw [hl]; exact hat), _, _, rfl, rfl, (by show (0 : Int) < 999999937; decide), _, rfl, _, _, rfl, rfl, cm_r (by decide), _, _, rfl, rfl, ?_⟩
       · show (0 : Int) < (((ns.map V.int).length : Nat) : Int)
         rw [hl]; exact hpos
       refine ⟨_, rfl, _, _, rfl, rfl, _, rfl, a, _, _, _, rfl, rfl, ha, rfl, ?_⟩
       refine ⟨_, rfl, _, rfl, _, p, rfl, hp0, fun r2 hr2 => ⟨_, rfl, a, _, _, _, rfl, rfl, upd_same, rfl, ?_⟩⟩
       have e2 : (upd (upd H a (.lst (([.ref s, .int p, .int r] : List V).set 1 (.int (p + 1))))) a (.lst ((([.ref s, .int p, .int r] : List V).set 1 (.int (p + 1))).set 2 (.int r2)))) a = some (.lst [.ref s, .int (p + 1), .int r2]) := upd_same
       refine ⟨_, rfl, a, _, _, _, rfl, rfl, SqL.of e2, rfl, _, rfl, _, _, rfl, rfl, hm0, ?_⟩
       refine ⟨_, rfl, a, _, _, _, rfl, rfl, SqL.of e2, rfl, _, rfl, _, _, rfl, rfl, ⟨hm0, hm1⟩, _, rfl, a, _, _, _, rfl, rfl, e2, rfl, ?_⟩
       refine ⟨_, rfl, k _ _ (Int.emod_nonneg _ (by omega)) (Int.emod_lt_of_pos _ hm0) ((But.refl a H).trans (But.upd.trans (But.upd.trans But.upd))) ⟨⟨_, _, upd_same, (by omega), Int.ediv_nonneg hr2 (by omega)⟩, But.seq ((But.refl a H).trans (But.upd.trans (But.upd.trans But.upd))) hT.ne hT.seq, hT.ne, hT.len⟩⟩
     · skip
       refine ⟨_, rfl, _, _, rfl, rfl, _, rfl, a, _, _, _, rfl, rfl, ha, rfl, ?_⟩
       refine ⟨_, rfl, _, rfl, _, p, rfl, hp0, fun r2 hr2 => ⟨_, rfl, a, _, _, _, rfl, rfl, upd_same, rfl, ?_⟩⟩
       have e2 : (upd (upd H a (.lst (([.ref s, .int p, .int r] : List V).set 1 (.int (p + 1))))) a (.lst ((([.ref s, .int p, .int r] : List V).set 1 (.int (p + 1))).set 2 (.int r2)))) a = some (.lst [.ref s, .int (p + 1), .int r2]) := upd_same
       refine ⟨_, rfl, a, _, _, _, rfl, rfl, SqL.of e2, rfl, _, rfl, _, _, rfl, rfl, hm0, ?_⟩
       refine ⟨_, rfl, a, _, _, _, rfl, rfl, SqL.of e2, rfl, _, rfl, _, _, rfl, rfl, ⟨hm0, hm1⟩, _, rfl, a, _, _, _, rfl, rfl, e2, rfl, ?_⟩
       refine ⟨_, rfl, k _ _ (Int.emod_nonneg _ (by omega)) (Int.emod_lt_of_pos _ hm0) ((But.refl a H).trans (But.upd.trans (But.upd.trans But.upd))) ⟨⟨_, _, upd_same, (by omega), Int.ediv_nonneg hr2 (by omega)⟩, But.seq ((But.refl a H).trans (But.upd.trans (But.upd.trans But.upd))) hT.ne hT.seq, hT.ne, hT.len⟩⟩
 · refine ⟨_, rfl, a, _, _, _, rfl, rfl, SqL.of ha, rfl, _, rfl, _, _, rfl, rfl, hm0, ?_⟩
   refine ⟨_, rfl, a, _, _, _, rfl, rfl, SqL.of ha, rfl, _, rfl, _, _, rfl, rfl, ⟨hm0, hm1⟩, _, rfl, a, _, _, _, rfl, rfl, ha, rfl, ?_⟩
   refine ⟨_, rfl, k _ _ (Int.emod_nonneg _ (by omega)) (Int.emod_lt_of_pos _ hm0) But.upd ⟨⟨_, _, upd_same, hp0, Int.ediv_nonneg hr0 (by omega)⟩, But.seq But.upd hT.ne hT.seq, hT.ne, hT.len⟩⟩
theorem Tape.at2 {K : PySem.W.Frag} {H H' : Hp} {a s : Addr} {ns : List Int} (t : Tape K H a s ns) (b : But a H H') (h : ∃ p r : Int, H' a = some (.lst [.ref s, .int p, .int r]) ∧ 0 ≤ p ∧ 0 ≤ r) : Tape K H' a s ns := ⟨h, b.seq t.ne t.seq, t.ne, t.len⟩
noncomputable def TpAt (H : Hp) (a s : Addr) : Prop := ∃ p r : Int, H a = some (.lst [.ref s, .int p, .int r]) ∧ 0 ≤ p ∧ 0 ≤ r
end
end My
namespace My
open PySem
noncomputable def jn (c : Nat) : List (List Nat) → List Nat
 | [] => []
 | [x] => x
 | x :: y :: r => x ++ c :: jn c (y :: r)
theorem cut_eq {c : Nat} : ∀ {p q a b : List Nat}, c ∉ p → c ∉ q → p ++ c :: a = q ++ c :: b → p = q ∧ a = b
 | [], [], a, b, _, _, h => by
   simp at h
   exact ⟨rfl, h⟩
 | [], x :: q, a, b, _, hq, h => by
   simp at h
   exact absurd h.1 (fun z => hq (by rw [z]; exact List.mem_cons_self))
 | x :: p, [], a, b, hp, _, h => by
   simp at h
   exact absurd h.1.symm (fun z => hp (by rw [z]; exact List.mem_cons_self))
 | x :: p, y :: q, a, b, hp, hq, h => by
   simp only [List.cons_append, List.cons.injEq] at h
   obtain ⟨h1, h2⟩ := cut_eq (fun z => hp (List.mem_cons_of_mem _ z)) (fun z => hq (List.mem_cons_of_mem _ z)) h.2
   exact ⟨by rw [h.1, h1], h2⟩
theorem jn_inj {c : Nat} : ∀ {ps qs : List (List Nat)}, ps ≠ [] → qs ≠ [] → (∀ p ∈ ps, c ∉ p) → (∀ q ∈ qs, c ∉ q) → jn c ps = jn c qs → ps = qs
 | [], _, h, _, _, _, _ => absurd rfl h
 | _, [], _, h, _, _, _ => absurd rfl h
 | [p], [q], _, _, _, _, h => by
   have h : p = q := h
   rw [h]
 | [p], q :: q2 :: r, _, _, hp, _, h => by
   have h : p = q ++ c :: jn c (q2 :: r) := h
   exact absurd (by rw [h]; exact List.mem_append_right _ List.mem_cons_self) (hp p List.mem_cons_self)
 | p :: p2 :: r, [q], _, _, _, hq, h => by
   have h : p ++ c :: jn c (p2 :: r) = q := h
   exact absurd (by rw [← h]; exact List.mem_append_right _ List.mem_cons_self) (hq q List.mem_cons_self)
 | p :: p2 :: r, q :: q2 :: r', _, _, hp, hq, h => by
   have h : p ++ c :: jn c (p2 :: r) = q ++ c :: jn c (q2 :: r') := h
   obtain ⟨h1, h2⟩ := cut_eq (hp p List.mem_cons_self) (hq q List.mem_cons_self) h
   rw [h1, jn_inj (by simp) (by simp) (fun x hx => hp x (List.mem_cons_of_mem _ hx)) (fun x hx => hq x (List.mem_cons_of_mem _ hx)) h2]
noncomputable def one (c : Nat) : Str := ⟨#[c]⟩
theorem join_jn (c : Nat) : ∀ ps : List Str, ((one c).join ps).cps.toList = jn c (ps.map fun p => p.cps.toList)
 | [] => rfl
 | [p] => rfl
 | p :: q :: r => by
   have ih := join_jn c (q :: r)
   have e : (one c).join (p :: q :: r) = p ++ one c ++ (one c).join (q :: r) := rfl
   rw [e]
   show ((p ++ one c) ++ (one c).join (q :: r)).cps.toList = _
   have e2 : ∀ a b : Str, (a ++ b).cps.toList = a.cps.toList ++ b.cps.toList := fun a b => by
    show (a.cps ++ b.cps).toList = _
    simp
   rw [e2, e2, ih]
   show p.cps.toList ++ [c] ++ jn c _ = p.cps.toList ++ c :: jn c _
   simp
theorem split_ne (x : Str) (c : Nat) : Txt.split x (one c) ≠ [] := by
 unfold Txt.split
 split
 · simp
 · split
   · simp
   · intro h
     unfold Builtin.Str.partsBetween at h
     have := congrArg List.length h
     simp at this
theorem toList_inj {a b : Str} (h : a.cps.toList = b.cps.toList) : a = b := Str.ext' (Array.toList_inj.mp h)
theorem split_join {c : Nat} {ps : List Str} (h : ps ≠ []) (hf : ∀ p ∈ ps, c ∉ p.cps.toList) : Txt.split (Txt.join (one c) ps) (one c) = ps := by
 have e0 : Txt.join (one c) ps = (one c).join ps := StrLaws.glued_eq_join _ _
 rw [e0]
 have h1 := StrLaws.join_split ((one c).join ps) (one c)
 have h2 := congrArg (fun s : Str => s.cps.toList) h1
 rw [join_jn, join_jn] at h2
 have h3 := jn_inj (by intro z; exact split_ne _ c (List.map_eq_nil_iff.mp z)) (by intro z; exact h (List.map_eq_nil_iff.mp z)) (fun p hp => by
  obtain ⟨q, hq, rfl⟩ := List.mem_map.mp hp
  exact StrLaws.split_free _ c q hq) (fun p hp => by
  obtain ⟨q, hq, rfl⟩ := List.mem_map.mp hp
  exact hf q hq) h2
 exact (List.map_inj_right fun a b h => toList_inj h).mp h3
noncomputable def nS (n : Int) : Str := Str.ofString (toString n)
noncomputable def digs (m : Nat) : List Nat := (Nat.toDigits 10 m).map Char.toNat
theorem nS_digs (m : Nat) : (nS (m : Int)).cps.toList = digs m := PySem.W.KIN.signs_num m
noncomputable def numB (l : List Nat) : Bool := decide (1 ≤ l.length) && decide (l.length ≤ 30) && l.all (fun c => decide (48 ≤ c) && decide (c ≤ 57)) && (decide (l.head? ≠ some 48) || decide (l = [48]))
theorem num_all : ∀ m, m < 10000 → numB (digs m) = true := by
 have : (List.range 10000).all (fun m => numB (digs m)) = true := by decide +kernel
 intro m hm
 exact List.all_eq_true.mp this m (List.mem_range.mpr hm)
theorem num_free {n : Int} (h0 : 0 ≤ n) (h1 : n < 10000) {c : Nat} (hc : c < 48 ∨ 57 < c) : c ∉ (nS n).cps.toList := by
 obtain ⟨m, rfl⟩ := Int.eq_ofNat_of_zero_le h0
 rw [nS_digs]
 have := num_all m (by omega)
 unfold numB at this
 simp only [Bool.and_eq_true, List.all_eq_true, decide_eq_true_eq] at this
 intro hm
 have := this.1.2 c hm
 omega
theorem num_len {n : Int} (h0 : 0 ≤ n) (h1 : n < 10000) : 1 ≤ (nS n).length ∧ (nS n).length ≤ 30 := by
 obtain ⟨m, rfl⟩ := Int.eq_ofNat_of_zero_le h0
 have := num_all m (by omega)
 unfold numB at this
 simp only [Bool.and_eq_true, decide_eq_true_eq] at this
 have e : (nS (m : Int)).length = (digs m).length := by rw [← nS_digs]; rfl
 rw [e]
 exact ⟨this.1.1.1, this.1.1.2⟩
theorem num_dig {n : Int} (h0 : 0 ≤ n) (h1 : n < 10000) {c : Nat} (hc : c ∈ (nS n).cps.toList) : 48 ≤ c ∧ c ≤ 57 := by
 by_cases z : 48 ≤ c ∧ c ≤ 57
 · exact z
 · exact absurd hc (num_free h0 h1 (by omega))
theorem num_head {n : Int} (h0 : 0 ≤ n) (h1 : n < 10000) : (nS n).cps.toList.head? ≠ some 48 ∨ nS n = one 48 := by
 obtain ⟨m, rfl⟩ := Int.eq_ofNat_of_zero_le h0
 rw [nS_digs]
 have := num_all m (by omega)
 unfold numB at this
 simp only [Bool.and_eq_true, Bool.or_eq_true, decide_eq_true_eq] at this
 rcases this.2 with z | z
 · exact .inl z
 · exact .inr (toList_inj (by rw [nS_digs, z]; rfl))
end My
namespace My
open PySem PySem.Spec PyProof.Rows L2
noncomputable def sp : Str := one 32
noncomputable def nl : Str := one 10
noncomputable def memS (m : Mem) : Str := nS m.1 ++ ":" ++ m.2
noncomputable def cW (x : Str) (c : Calling) : List Str := x :: nS c.1 :: c.2.map memS
noncomputable def dW : Deed → List Str
 | .rai b k => ["raise", nS b, nS k]
 | .awa b m => ["await", nS b, nS m]
 | .com w => ["come", nS w]
 | .goo w => ["go", nS w]
 | .lea w => ["leave", nS w]
 | .beg s ms => cW "begin" (s, ms)
 | .wor d => ["work", nS d]
 | .say x => ["say", x]
noncomputable def headW (h : House) : List Str := ["BOXES", nS h.b, "WALLS", nS h.w]
noncomputable def rowsS (ss : List Script) : List (List Str) := ss.flatMap fun s => ["SCRIPT"] :: s.map dW
noncomputable def rowsW (h : House) : List (List Str) := headW h :: (rowsS h.ss ++ h.fs.map (cW "FIRST"))
noncomputable def lineW (ws : List Str) : Str := PySem.Txt.join sp ws
noncomputable def txtH (h : House) : Str := PySem.Txt.join nl ((rowsW h).map lineW)
noncomputable def Num (n : Int) : Prop := 0 ≤ n ∧ n < 10000
noncomputable def MemT (m : Mem) : Prop := Num m.1 ∧ (m.2 = "both" ∨ m.2 = "come" ∨ m.2 = "go")
noncomputable def CalT (c : Calling) : Prop := (c.1 : Int) < 10000 ∧ c.2.length ≤ 10 ∧ ∀ m ∈ c.2, MemT m
noncomputable def DedT : Deed → Prop
 | .rai b k => Num b ∧ Num k
 | .awa b m => Num b ∧ Num m
 | .com w => Num w
 | .goo w => Num w
 | .lea w => Num w
 | .beg s ms => CalT (s, ms)
 | .wor d => Num d
 | .say x => x = "a" ∨ x = "come" ∨ x = "go" ∨ x = "zzzzzzzz"
structure HouT (h : House) : Prop where
 b : Num h.b
 w : Num h.w
 fn : h.fs.length ≤ 10
 f1 : h.fs ≠ []
 f : ∀ c ∈ h.fs, CalT c
 sn : h.ss.length ≤ 10
 s1 : h.ss ≠ []
 s : ∀ s ∈ h.ss, s.length ≤ 10 ∧ ∀ d ∈ s, DedT d
theorem len_app (a b : Str) : (a ++ b).length = a.length + b.length := Str.length_append a b
theorem foldl_le (k B : Nat) : ∀ (xs : List Str) (a : Nat), (∀ x ∈ xs, x.length + k ≤ B) → xs.foldl (fun a x => a + x.length + k) a ≤ a + xs.length * B
 | [], a, _ => by simp
 | x :: r, a, h => by
   have h1 := foldl_le k B r (a + x.length + k) fun y hy => h y (List.mem_cons_of_mem _ hy)
   have h2 := h x List.mem_cons_self
   rw [List.foldl_cons, List.length_cons, Nat.succ_mul]
   omega
theorem joinOk {sep : Str} {xs : List Str} (B : Nat) (h : ∀ x ∈ xs, x.length + sep.length ≤ B) (hb : xs.length * B ≤ sizeLine) : JoinOk sep xs = true := by
 unfold JoinOk Builtin.Str.tooLong
 rw [List.foldl_toArray]
 have := foldl_le sep.length B xs 0 h
 rw [Bool.not_eq_true', decide_eq_false_iff_not]
 omega
theorem foldl_len (k B : Nat) (acc : Array Nat) : ∀ (xs : List Str) (a : Array Nat) (g : Array Nat), g.size = k → (∀ x ∈ xs, x.length + k ≤ B) → (xs.foldl (fun acc p => acc ++ g ++ p.cps) a).size ≤ a.size + xs.length * B
 | [], a, _, _, _ => by simp
 | x :: r, a, g, hg, h => by
   have h1 := foldl_len k B acc r (a ++ g ++ x.cps) g hg fun y hy => h y (List.mem_cons_of_mem _ hy)
   have h2 := h x List.mem_cons_self
   have h3 : x.length = x.cps.size := rfl
   rw [List.foldl_cons, List.length_cons, Nat.succ_mul]
   rw [Array.size_append, Array.size_append, hg] at h1
   omega
theorem join_len {sep : Str} {xs : List Str} (B : Nat) (h : ∀ x ∈ xs, x.length + sep.length ≤ B) : (PySem.Txt.join sep xs).length ≤ xs.length * B := by
 cases xs with
 | nil =>
   show (Str.empty).length ≤ _
   exact Nat.zero_le _
 | cons x r =>
   have h2 := h x List.mem_cons_self
   have h1 := foldl_len sep.length B #[] r x.cps sep.cps rfl fun y hy => h y (List.mem_cons_of_mem _ hy)
   show (List.foldl (fun acc p => acc ++ sep.cps ++ p.cps) x.cps r).size ≤ _
   have h3 : x.length = x.cps.size := rfl
   rw [List.length_cons, Nat.succ_mul]
   omega
theorem memS_len {m : Mem} (h : MemT m) : (memS m).length ≤ 40 := by
 unfold memS
 rw [len_app, len_app]
 have h1 := (num_len h.1.1 h.1.2).2
 have h2 : m.2.length ≤ 4 := by rcases h.2 with e | e | e <;> rw [e] <;> decide
 have h3 : (":" : Str).length = 1 := rfl
 omega
theorem cW_len {x : Str} {c : Calling} (hx : x.length ≤ 10) (h : CalT c) : (cW x c).length ≤ 12 ∧ ∀ t ∈ cW x c, t.length ≤ 40 := by
 unfold cW
 refine ⟨by simp only [List.length_cons, List.length_map]; have := h.2.1; omega, fun t ht => ?_⟩
 rcases List.mem_cons.mp ht with rfl | ht
 · omega
 rcases List.mem_cons.mp ht with rfl | ht
 · have := (num_len (n := (c.1 : Int)) (by omega) h.1).2; omega
 obtain ⟨m, hm, rfl⟩ := List.mem_map.mp ht
 exact memS_len (h.2.2 m hm)
theorem wl2 {a x : Str} (h1 : a.length ≤ 40) (h2 : x.length ≤ 40) : ([a, x] : List Str).length ≤ 12 ∧ ∀ t ∈ [a, x], t.length ≤ 40 := by
 refine ⟨by show 2 ≤ 12; decide, fun t ht => ?_⟩
 simp only [List.mem_cons, List.not_mem_nil, or_false] at ht
 rcases ht with rfl | rfl
 · exact h1
 · exact h2
theorem wl3 {a x y : Str} (h1 : a.length ≤ 40) (h2 : x.length ≤ 40) (h3 : y.length ≤ 40) : ([a, x, y] : List Str).length ≤ 12 ∧ ∀ t ∈ [a, x, y], t.length ≤ 40 := by
 refine ⟨by show 3 ≤ 12; decide, fun t ht => ?_⟩
 simp only [List.mem_cons, List.not_mem_nil, or_false] at ht
 rcases ht with rfl | rfl | rfl
 · exact h1
 · exact h2
 · exact h3
theorem dW_len {d : Deed} (h : DedT d) : (dW d).length ≤ 12 ∧ ∀ t ∈ dW d, t.length ≤ 40 := by
 have n : ∀ {i : Int}, Num i → (nS i).length ≤ 40 := fun h => by have := (num_len h.1 h.2).2; omega
 cases d with
 | rai b k => exact wl3 (by decide) (n h.1) (n h.2)
 | awa b k => exact wl3 (by decide) (n h.1) (n h.2)
 | com w => exact wl2 (by decide) (n h)
 | goo w => exact wl2 (by decide) (n h)
 | lea w => exact wl2 (by decide) (n h)
 | wor w => exact wl2 (by decide) (n h)
 | beg s ms => exact cW_len (by decide) h
 | say x => exact wl2 (by decide) (by rcases h with e | e | e | e <;> rw [e] <;> decide)
end My
set_option maxHeartbeats 1000000
namespace My
open PySem PySem.Spec PyProof.Rows L2
abbrev s_needHouse : Stmt := top 40
abbrev s_showCalling : Stmt := top 49
abbrev s_showDeed : Stmt := top 50
theorem call_strV {X : Cx} : CallR X (.type "str") (fun xs H Q => (∃ i : Int, xs = [.int i] ∧ i.natAbs.log2 < 1920 ∧ Q (.str (nS i)) H) ∨ ∃ x, xs = [.str x] ∧ Q (.str x) H) := by
 intro pins s σ H xs us Q I r h
 rcases h with ⟨i, rfl, hz, q⟩ | ⟨x, rfl, q⟩
 · obtain ⟨u, rfl, t, rfl⟩ := vals1 r
   exact PySem.P.str_of_int hz ⟨.str _, H, I.tok _, ⟨_, rfl⟩, q⟩
 · obtain ⟨u, rfl, t, rfl⟩ := vals1 r
   exact PySem.P.str_of_str ⟨.str x, H, I, ⟨_, rfl⟩, q⟩
theorem num_log {n : Int} (h : Num n) : n.natAbs.log2 < 1920 := by
 obtain ⟨h0, h1⟩ := h
 by_cases z : n.natAbs = 0
 · rw [z]; decide
 · have : n.natAbs.log2 < 14 := (Nat.log2_lt z).mpr (by omega)
   omega
theorem cal_num {c : Calling} (h : CalT c) : Num (c.1 : Int) := ⟨by omega, h.1⟩
noncomputable def spNh : Sp := fun vs H Q _ => ∃ h v, vs = [v] ∧ Is H (eH h) v ∧ Wh (eH h) ∧ Good h ∧ mHs h = true ∧ ∀ H', Same H H' → Q .non H'
noncomputable def spSc2 : Sp := fun vs H Q _ => ∃ x c v, vs = [.str x, v] ∧ x.length ≤ 10 ∧ CalT c ∧ Is H (eC c) v ∧ ∀ H', Same H H' → Q (.str (lineW (cW x c))) H'
noncomputable def spSd : Sp := fun vs H Q _ => ∃ d v, vs = [v] ∧ DedT d ∧ Is H (eD d) v ∧ ∀ H', Same H H' → Q (.str (lineW (dW d))) H'
theorem mem_open {H : Hp} {m : Mem} {v : V} (h : Is H (eMem m) v) : ∃ b, v = .ref b ∧ H b = some (.tup [.int m.1, .str m.2]) := by
 obtain ⟨a, ys, rfl, ha, v1, r1, rfl, hv1, v2, r2, rfl, hv2, hr2⟩ := h
 cases (show r2 = [] from hr2)
 cases (show v1 = .int m.1 from hv1)
 cases (show v2 = .str m.2 from hv2)
 exact ⟨a, rfl, ha⟩
theorem cal_open {H : Hp} {c : Calling} {v : V} (h : Is H (eC c) v) : ∃ b bm xs, v = .ref b ∧ H b = some (.tup [.int (c.1 : Int), .ref bm]) ∧ H bm = some (.tup xs) ∧ IsL H (c.2.map eMem) xs := by
 obtain ⟨a, ys, rfl, ha, v1, r1, rfl, hv1, v2, r2, rfl, hv2, hr2⟩ := h
 cases (show r2 = [] from hr2)
 cases (show v1 = .int (c.1 : Int) from hv1)
 obtain ⟨bm, xs, rfl, hbm, hl⟩ := hv2
 exact ⟨a, bm, xs, rfl, ha, hbm, hl⟩
theorem at0 {x : V} {r : List V} : atI (x :: r) 0 = some x := (show atI (x :: r) ((0 : Nat) : Int) = _ from atI_nat rfl)
theorem at1 {x y : V} {r : List V} : atI (x :: y :: r) 1 = some y := (show atI (x :: y :: r) ((1 : Nat) : Int) = _ from atI_nat rfl)
section
variable {P : Program} {w : World} {K : PySem.W.Frag} {mg : Str → Option Value} {base : Heap}
theorem sc_needHouse : FnScope ["thing"] ["thing"] (defScope s_needHouse) := ⟨rfl, rfl, rfl, by decide +kernel, rfl, by decide +kernel, by decide +kernel⟩
theorem ok_needHouse (D : Def K mg "need_house" s_needHouse) (T : Txt K mg) (o1 : Ok P w K mg base "is_house" 22 ["thing"] spHo) : Ok P w K mg base "need_house" 23 ["thing"] spNh := by
 refine mkOk D sc_needHouse (fun _ _ _ _ _ _ us hl => (match us, hl with | [_], _ => rfl)) (fun vs H Q E ⟨_, _, e, _⟩ => by rw [e]; rfl) fun f cdv A outer s H vs Q E hr h => ?_
 obtain ⟨h, v, rfl, hv, hW, hG, hm, kk⟩ := h
 refine ⟨_, pss_one (ps_if (pt_not (pt_val (pe_fn o1 hr (pa_cons (pv 0) pa_nil)))) (pss_one ps_never) pss_nil), ?_⟩
 refine ⟨_, rfl, eH h, v, rfl, hv, hW, .inl ⟨h, rfl, hG, fun H1 s1 => ⟨_, rfl, ?_⟩⟩⟩
 rw [hm]
 exact iteF (kk H1 s1)
theorem sc_showCalling : FnScope ["word", "calling", "members"] ["word", "calling"] (defScope s_showCalling) := ⟨rfl, rfl, rfl, by decide +kernel, rfl, by decide +kernel, by decide +kernel⟩
theorem ok_showCalling (D : Def K mg "show_calling" s_showCalling) (T : Txt K mg) : Ok P w K mg base "show_calling" 1 ["word", "calling"] spSc2 := by
 refine mkOk D sc_showCalling (fun _ _ _ _ _ _ us hl => (match us, hl with | [_, _], _ => rfl)) (fun vs H Q E ⟨_, _, _, e, _⟩ => by rw [e]; rfl) fun f cdv A outer s H vs Q E hr h => ?_
 obtain ⟨x, c, v, rfl, hx, hc, hv, kk⟩ := h
 have nd := sc_showCalling.nd
 have ndc : (["wall", "mode"] : List Str).Nodup := by decide +kernel
 refine ⟨_, pss_cons (ps_lc (i := 2) (own := ["wall", "mode"]) (cap := []) (g := gTup K 2 (gCons (gName 0) (gCons (gName 1) gNil))) rfl (lcScope (defScope s_showCalling) rfl rfl (by decide +kernel) (by decide +kernel) (by decide +kernel) trivial) (pi_tup (pe_ix ix_tup (pv 1) pe_int (fun _ _ => rfl)))
   (fun _ _ _ _ => pg_tup rfl (pgs_cons (pg_name (i := 0) ndc rfl (Or.inl rfl)) (pgs_cons (pg_name (i := 1) ndc rfl (Or.inl rfl)) pgs_nil))) (fun _ _ _ _ => pif_nil)
   (fun _ _ _ _ => pe_joined (pj_cons (pe_fmt (pv 0)) (pj_cons pe_str (pj_cons (pe_fmt (pv 1)) pj_nil)))) nd rfl rfl (by with_unfolding_all rfl))
  (pss_one (ps_ret (pe_bm PySem.F.plainAttrs_str PySem.F.slot_str_join PySem.F.type_str_join mt_join pe_str (pa_cons (pe_op op_cat (pe_lst (pa_cons (pv 0) (pa_cons (pe_callTy call_strV rfl T.str bt_str (pa_cons (pe_ix ix_tup (pv 1) pe_int (fun _ _ => rfl)) pa_nil)) pa_nil))) (pv 2)) pa_nil)))), ?_⟩
 obtain ⟨b, bm, xs, rfl, hb, hbm, hl⟩ := cal_open hv
 have hxl := hl.length
 rw [List.length_map] at hxl
 have hc10 := hc.2.1
 refine ⟨_, rfl, b, _, _, _, rfl, rfl, SqT.of hb, at1, bm, rfl, ⟨_, SqT.of hbm⟩, ?_⟩
 refine lc_tup (xs := xs) (fun i ys H' => Same H H' ∧ ys = ((c.2.take i).map memS).map V.str) ⟨Same.refl H, rfl⟩ (fun i ys H' hi ⟨s', e⟩ => ⟨SqT.of (s' _ _ hbm), by rw [e, List.length_map, List.length_map, List.length_take]; exact small_le (by omega)⟩) ?_ ?_
 · rintro i y ys H1 hy ⟨s1, rfl⟩
   obtain ⟨t, ht, it⟩ := (hl.mono s1).get' hy
   rw [List.getElem?_map] at ht
   cases em : c.2[i]? with
   | none => rw [em] at ht; cases ht
   | some m =>
   rw [em] at ht
   cases ht
   obtain ⟨bb, rfl, hbb⟩ := mem_open it
   have hm := hc.2.2 m (List.mem_of_getElem? em)
   have hml := memS_len hm
   have hnl := (num_len hm.1.1 hm.1.2).2
   refine ⟨bb, _, rfl, SqT.of hbb, rfl, _, _, rfl, _, _, rfl, rfl, ?_⟩
   refine if0 ?_
   have e1 : (Str.empty ++ nS m.1) = nS m.1 := Str.empty_append _
   have l2 : (":" : Str).length = 1 := rfl
   have l3 : m.2.length ≤ 4 := by rcases hm.2 with e | e | e <;> rw [e] <;> decide
   refine ⟨_, rfl, .inl ⟨m.1, rfl, num_log hm.1, nS m.1, rfl, ?_, ":", rfl, ?_, _, rfl, .inr ⟨m.2, rfl, small_le (by omega), m.2, rfl, ?_, ?_, s1, ?_⟩⟩⟩
   · rw [e1]; exact small_le (by omega)
   · rw [e1, len_app]; exact small_le (by omega)
   · rw [e1, len_app, len_app]; exact small_le (by omega)
   · rw [e1, len_app, len_app]; exact small_le (by omega)
   · rw [e1, List.take_add_one, em, List.map_append, List.map_append]
     rfl
 rintro ys H1 ⟨s1, rfl⟩ p hp
 rw [hxl, List.take_length]
 have s2 := Same.new hp (.lst ((c.2.map memS).map V.str))
 have g2 : upd H1 p (.lst ((c.2.map memS).map V.str)) p = some (.lst ((c.2.map memS).map V.str)) := upd_same
 generalize upd H1 p (.lst ((c.2.map memS).map V.str)) = H2 at s2 g2 ⊢
 have s02 := s1.trans s2
 refine ⟨rfl, _, rfl, _, rfl, b, _, _, _, rfl, rfl, SqT.of (s02 _ _ hb), at0, .inl ⟨_, rfl, num_log (cal_num hc), ?_⟩⟩
 refine ⟨by show 2 ≤ sizeLine; decide, fun p3 hp3 => ?_⟩
 have s3 := Same.new hp3 (.lst [.str x, .str (nS (c.1 : Int))])
 have g3 : upd H2 p3 (.lst [.str x, .str (nS (c.1 : Int))]) p3 = some (.lst [.str x, .str (nS (c.1 : Int))]) := upd_same
 generalize upd H2 p3 (.lst [.str x, .str (nS (c.1 : Int))]) = H3 at s3 g3 ⊢
 refine ⟨_, rfl, p3, p, _, _, rfl, rfl, g3, s3 _ _ g2, ?_, fun q hq => ?_⟩
 · rw [List.length_map, List.length_map]; exact small_le (by show 2 + _ ≤ 1000; omega)
 have hcw := cW_len hx hc
 refine ⟨sp, q, cW x c, rfl, rfl, ?_, joinOk 41 (fun t ht => ?_) ?_, kk _ (s02.trans (s3.trans (Same.new hq _)))⟩
 · rw [upd_same]
   rfl
 · have := hcw.2 t ht
   show t.length + 1 ≤ 41
   omega
 · have := hcw.1
   have : (cW x c).length * 41 ≤ 12 * 41 := Nat.mul_le_mul_right _ this
   exact Nat.le_trans this (by decide)
end
end My
set_option maxHeartbeats 1000000
namespace My
open PySem PySem.Spec PyProof.Rows L2
abbrev s_showHouse : Stmt := top 51
noncomputable def dv : Deed → List V
 | .rai b k => [.str "raise", .int b, .int k]
 | .awa b m => [.str "await", .int b, .int m]
 | .com w => [.str "come", .int w]
 | .goo w => [.str "go", .int w]
 | .lea w => [.str "leave", .int w]
 | .beg _ _ => []
 | .wor d => [.str "work", .int d]
 | .say x => [.str "say", .str x]
noncomputable def vS : V → Str
 | .int i => nS i
 | .str x => x
 | _ => Str.empty
noncomputable def isBg : Deed → Bool
 | .beg _ _ => true
 | _ => false
theorem dW_vS {d : Deed} (h : isBg d = false) : dW d = (dv d).map vS := by
 cases d with
 | beg => cases h
 | _ => rfl
theorem two_open {H : Hp} {x y : V} {t : T} {v : V} {X : Str} (hx : x = .str X) (h : Is H (.tup [.str X, t]) v) (ht : ∀ u, Is H t u → u = y) : ∃ a, v = .ref a ∧ H a = some (.tup [x, y]) := by
 obtain ⟨a, ys, rfl, ha, v1, r1, rfl, e1, v2, r2, rfl, e2, e3⟩ := h
 cases (show r2 = [] from e3)
 cases (show v1 = .str X from e1)
 exact ⟨a, rfl, by rw [ha, ht _ e2, hx]⟩
theorem three_open {H : Hp} {i j : Int} {v : V} {X : Str} (h : Is H (.tup [.str X, .int i, .int j]) v) : ∃ a, v = .ref a ∧ H a = some (.tup [.str X, .int i, .int j]) := by
 obtain ⟨a, ys, rfl, ha, v1, r1, rfl, e1, v2, r2, rfl, e2, v3, r3, rfl, e3, e4⟩ := h
 cases (show r3 = [] from e4)
 cases (show v1 = .str X from e1)
 cases (show v2 = .int i from e2)
 cases (show v3 = .int j from e3)
 exact ⟨a, rfl, ha⟩
theorem deed_open {H : Hp} {d : Deed} {v : V} (hb : isBg d = false) (h : Is H (eD d) v) : ∃ a, v = .ref a ∧ H a = some (.tup (dv d)) := by
 cases d with
 | beg => cases hb
 | rai b k => exact three_open h
 | awa b k => exact three_open h
 | com w => exact two_open rfl h fun u hu => hu
 | goo w => exact two_open rfl h fun u hu => hu
 | lea w => exact two_open rfl h fun u hu => hu
 | wor w => exact two_open rfl h fun u hu => hu
 | say x => exact two_open rfl h fun u hu => hu
theorem dv_each {d : Deed} (h : DedT d) : ∀ y ∈ dv d, (∃ i, y = .int i ∧ Num i) ∨ ∃ x, y = .str x := by
 intro y hy
 cases d with
 | rai b k =>
   simp only [dv, List.mem_cons, List.not_mem_nil, or_false] at hy
   rcases hy with rfl | rfl | rfl
   · exact .inr ⟨_, rfl⟩
   · exact .inl ⟨_, rfl, h.1⟩
   · exact .inl ⟨_, rfl, h.2⟩
 | awa b k =>
   simp only [dv, List.mem_cons, List.not_mem_nil, or_false] at hy
   rcases hy with rfl | rfl | rfl
   · exact .inr ⟨_, rfl⟩
   · exact .inl ⟨_, rfl, h.1⟩
   · exact .inl ⟨_, rfl, h.2⟩
 | beg => cases hy
 | say x =>
   simp only [dv, List.mem_cons, List.not_mem_nil, or_false] at hy
   rcases hy with rfl | rfl <;> exact .inr ⟨_, rfl⟩
 | _ =>
   simp only [dv, List.mem_cons, List.not_mem_nil, or_false] at hy
   rcases hy with rfl | rfl
   · exact .inr ⟨_, rfl⟩
   · exact .inl ⟨_, rfl, h⟩
theorem dv_head {d : Deed} (h : isBg d = false) : ∃ r, dv d = .str (dw d) :: r ∧ dw d ≠ "begin" := by
 cases d with
 | beg => cases h
 | _ => exact ⟨_, rfl, by dsimp only [dw]; decide⟩
theorem cut1 (x y z : V) : cutV [x, y, z] (some 1) none = [y, z] := by with_unfolding_all rfl
theorem dv_len (d : Deed) : (dv d).length ≤ 3 := by cases d <;> simp [dv]
section
variable {P : Program} {w : World} {K : PySem.W.Frag} {mg : Str → Option Value} {base : Heap}
theorem sc_showDeed : FnScope ["deed"] ["deed"] (defScope s_showDeed) := ⟨rfl, rfl, rfl, by decide +kernel, rfl, by decide +kernel, by decide +kernel⟩
theorem ok_showDeed (D : Def K mg "show_deed" s_showDeed) (T : Txt K mg) (o1 : Ok P w K mg base "show_calling" 1 ["word", "calling"] spSc2) : Ok P w K mg base "show_deed" 2 ["deed"] spSd := by
 refine mkOk D sc_showDeed (fun _ _ _ _ _ _ us hl => (match us, hl with | [_], _ => rfl)) (fun vs H Q E ⟨_, _, e, _⟩ => by rw [e]; rfl) fun f cdv A outer s H vs Q E hr h => ?_
 obtain ⟨d, v, rfl, hd, hv, kk⟩ := h
 refine ⟨_, pss_cons (ps_if (pt_cmpR op_eq (pe_ix ix_tup (pv 0) pe_int (fun _ _ => rfl)) pe_str (nomark _)) (pss_one (ps_ret (pe_fn o1 hr (pa_cons pe_str (pa_cons (pe_slice sl_tup (pv 0) (po_some pe_int) po_none) pa_nil))))) pss_nil)
  (pss_one (ps_ret (pe_bm PySem.F.plainAttrs_str PySem.F.slot_str_join PySem.F.type_str_join mt_join pe_str (pa_cons (pe_lc (own := ["part"]) (cap := []) rfl (lcScope (defScope s_showDeed) rfl rfl (by decide +kernel) (by decide +kernel) (by decide +kernel) trivial) (pi_tup (pv 0))
   (fun _ _ _ _ => pg_name (i := 0) (by show (["part"] : List Str).Nodup; decide +kernel) rfl (Or.inl rfl)) (fun _ _ _ _ => pif_nil) (fun _ _ _ _ => pe_callTy call_strV rfl T.str bt_str (pa_cons (pv 0) pa_nil))) pa_nil)))), ?_⟩
 cases hb : isBg d with
 | true =>
   obtain ⟨n, ms, rfl⟩ : ∃ n ms, d = .beg n ms := by
    cases d with
    | beg n ms => exact ⟨n, ms, rfl⟩
    | _ => cases hb
   obtain ⟨a, ys, rfl, ha, v1, r1, rfl, e1, v2, r2, rfl, e2, v3, r3, rfl, e3, e4⟩ := hv
   cases (show r3 = [] from e4)
   cases (show v1 = .str "begin" from e1)
   refine ⟨_, rfl, a, _, _, _, rfl, rfl, SqT.of ha, at0, rfl, _, rfl, ?_⟩
   rw [decide_eq_true rfl]
   refine iteT ⟨_, rfl, 1, rfl, a, _, rfl, SqT.of ha, ?_, fun p hp => ?_⟩
   · show ¬ (HT.sIx 3 0 (some 1) = 0 ∧ _)
     intro hh
     exact absurd hh.1 (by decide)
   rw [cut1]
   have s1 := Same.new hp (.tup [v2, v3])
   exact ⟨"begin", (n, ms), .ref p, rfl, by decide, hd, ⟨p, _, rfl, upd_same, IsL.two (e2.mono s1) (e3.mono s1)⟩, fun H2 s2 => kk H2 (s1.trans s2)⟩
 | false =>
   obtain ⟨a, rfl, ha⟩ := deed_open hb hv
   obtain ⟨r, er, hne⟩ := dv_head hb
   have ha' := ha
   rw [er] at ha'
   refine ⟨_, rfl, a, _, _, _, rfl, rfl, SqT.of ha', at0, rfl, _, rfl, ?_⟩
   rw [decide_eq_false (fun z => hne (by injection z))]
   refine iteF ⟨rfl, _, rfl, a, rfl, ⟨_, SqT.of ha⟩, ?_⟩
   have hl3 := dv_len d
   refine lc_tup (xs := dv d) (fun i ys H' => H' = H ∧ ys = (((dv d).take i).map vS).map V.str) ⟨rfl, rfl⟩ (fun i ys H' hi ⟨e, e2⟩ => ⟨by rw [e]; exact SqT.of ha, by rw [e2, List.length_map, List.length_map, List.length_take]; exact small_le (by omega)⟩) ?_ ?_
   · rintro i y ys H' hy ⟨rfl, rfl⟩
     refine gIf0 ?_
     rw [List.take_add_one, hy, List.map_append, List.map_append]
     rcases dv_each hd y (List.mem_of_getElem? hy) with ⟨n, rfl, hn⟩ | ⟨x, rfl⟩
     · exact ⟨_, rfl, .inl ⟨n, rfl, num_log hn, rfl, rfl⟩⟩
     · exact ⟨_, rfl, .inr ⟨x, rfl, rfl, rfl⟩⟩
   rintro ys H' ⟨rfl, rfl⟩ p hp
   rw [List.take_length, ← dW_vS hb]
   have hdw := dW_len hd
   refine ⟨sp, p, dW d, rfl, rfl, upd_same, joinOk 41 (fun t ht => ?_) ?_, kk _ (Same.new hp _)⟩
   · have := hdw.2 t ht
     show t.length + 1 ≤ 41
     omega
   · have := hdw.1
     have : (dW d).length * 41 ≤ 12 * 41 := Nat.mul_le_mul_right _ this
     exact Nat.le_trans this (by decide)
end
end My
set_option maxHeartbeats 1000000
namespace My
open PySem PySem.Spec PyProof.Rows L2
theorem head_line (h : House) : lineW (headW h) = "BOXES " ++ nS h.b ++ " WALLS " ++ nS h.w := by
 have e0 : ("BOXES " : Str) = ("BOXES" : Str) ++ sp := by decide
 have e1 : (" WALLS " : Str) = sp ++ ("WALLS" : Str) ++ sp := by decide
 rw [e0, e1]
 show (⟨(((("BOXES" : Str).cps ++ sp.cps ++ (nS h.b).cps) ++ sp.cps ++ ("WALLS" : Str).cps) ++ sp.cps ++ (nS h.w).cps)⟩ : Str) = _
 apply Str.ext'
 show _ = (((("BOXES" : Str).cps ++ sp.cps) ++ (nS h.b).cps) ++ ((sp.cps ++ ("WALLS" : Str).cps) ++ sp.cps)) ++ (nS h.w).cps
 simp only [Array.append_assoc]
structure HouO (H : Hp) (h : House) (a bf bs : Addr) (xf xs : List V) : Prop where
 at' : H a = some (.tup [.int h.b, .int h.w, .ref bf, .ref bs])
 f : H bf = some (.tup xf)
 fl : L2.IsL H (h.fs.map eC) xf
 s : H bs = some (.tup xs)
 sl : L2.IsL H (h.ss.map eS) xs
theorem hou_open {H : Hp} {h : House} {v : V} (i : Is H (eH h) v) : ∃ a bf bs xf xs, v = .ref a ∧ HouO H h a bf bs xf xs := by
 obtain ⟨a, ys, rfl, ha, v1, r1, rfl, e1, v2, r2, rfl, e2, v3, r3, rfl, e3, v4, r4, rfl, e4, e5⟩ := i
 cases (show r4 = [] from e5)
 cases (show v1 = .int h.b from e1)
 cases (show v2 = .int h.w from e2)
 obtain ⟨bf, xf, rfl, hf, lf⟩ := e3
 obtain ⟨bs, xs, rfl, hs, ls⟩ := e4
 exact ⟨a, bf, bs, xf, xs, rfl, ha, hf, lf, hs, ls⟩
theorem froC (cs : List Calling) : FroL (cs.map eC) := FroL.all.mpr fun t ht => by
 obtain ⟨c, _, rfl⟩ := List.mem_map.mp ht
 exact ⟨trivial, FroL.all.mpr fun u hu => by obtain ⟨m, _, rfl⟩ := List.mem_map.mp hu; exact ⟨trivial, trivial, trivial⟩, trivial⟩
theorem froMs (ms : List Mem) : Fro (eMs ms) := FroL.all.mpr fun u hu => by obtain ⟨m, _, rfl⟩ := List.mem_map.mp hu; exact ⟨trivial, trivial, trivial⟩
theorem froD (d : Deed) : Fro (eD d) := by
 cases d with
 | beg j ms =>
   show FroL [.str "begin", .int j, eMs ms]
   exact ⟨trivial, trivial, froMs ms, trivial⟩
 | _ => first | exact ⟨trivial, trivial, trivial⟩ | exact ⟨trivial, trivial, trivial, trivial⟩
theorem froDs (ds : List Deed) : FroL (ds.map eD) := FroL.all.mpr fun t ht => by obtain ⟨m, _, rfl⟩ := List.mem_map.mp ht; exact froD m
theorem froS (ss : List Script) : FroL (ss.map eS) := FroL.all.mpr fun t ht => by obtain ⟨m, _, rfl⟩ := List.mem_map.mp ht; exact froDs m
theorem HouO.tups {H H' : Hp} {h : House} {a bf bs : Addr} {xf xs : List V} (o : HouO H h a bf bs xf xs) (t : Tups H H') : HouO H' h a bf bs xf xs := ⟨t _ _ o.at', t _ _ o.f, o.fl.tups t (froC _), t _ _ o.s, o.sl.tups t (froS _)⟩
theorem at2 {x y z : V} {r : List V} : atI (x :: y :: z :: r) 2 = some z := (show atI (x :: y :: z :: r) ((2 : Nat) : Int) = _ from atI_nat rfl)
theorem at3 {x y z u : V} {r : List V} : atI (x :: y :: z :: u :: r) 3 = some u := (show atI (x :: y :: z :: u :: r) ((3 : Nat) : Int) = _ from atI_nat rfl)
noncomputable def spSh : Sp := fun vs H Q _ => ∃ h v, vs = [v] ∧ Is H (eH h) v ∧ Wh (eH h) ∧ Good h ∧ mHs h = true ∧ HouT h ∧ ∀ H', Same H H' → Q (.str (txtH h)) H'
theorem rows_take {ss : List Script} {i : Nat} {s : Script} (e : ss[i]? = some s) : rowsS (ss.take (i + 1)) = rowsS (ss.take i) ++ ([("SCRIPT" : Str)] :: s.map dW) := by
 unfold rowsS
 rw [List.take_add_one, e, List.flatMap_append]
 show _ = _ ++ _
 simp
theorem rowsS_key : ∀ (l : List Script), (∀ s ∈ l, s.length ≤ 10 ∧ ∀ d ∈ s, DedT d) → (rowsS l).length ≤ l.length * 11
 | [], _ => Nat.zero_le _
 | s :: r, hl => by
   have h1 := rowsS_key r fun x hx => hl x (List.mem_cons_of_mem _ hx)
   have h2 := (hl s List.mem_cons_self).1
   have e : rowsS (s :: r) = ([("SCRIPT" : Str)] :: s.map dW) ++ rowsS r := rfl
   rw [e, List.length_append, List.length_cons, List.length_map, List.length_cons, Nat.succ_mul]
   omega
theorem rowsS_len {ss : List Script} (hn : ss.length ≤ 10) (h : ∀ s ∈ ss, s.length ≤ 10 ∧ ∀ d ∈ s, DedT d) : (rowsS ss).length ≤ 110 ∧ ∀ ws ∈ rowsS ss, ws.length ≤ 12 ∧ ∀ t ∈ ws, t.length ≤ 40 := by
 refine ⟨by have := rowsS_key ss h; omega, fun ws hw => ?_⟩
 obtain ⟨s, hs, hm⟩ := List.mem_flatMap.mp hw
 rcases List.mem_cons.mp hm with rfl | hm
 · exact ⟨by decide, fun t ht => by rw [List.mem_singleton.mp ht]; decide⟩
 · obtain ⟨d, hd, rfl⟩ := List.mem_map.mp hm
   exact dW_len ((h s hs).2 d hd)
theorem line_len {ws : List Str} (h : ws.length ≤ 12 ∧ ∀ t ∈ ws, t.length ≤ 40) : (lineW ws).length ≤ 492 := by
 have h1 := join_len (sep := sp) (xs := ws) 41 fun t ht => by
  have := h.2 t ht
  show t.length + 1 ≤ 41
  omega
 have h2 : ws.length * 41 ≤ 12 * 41 := Nat.mul_le_mul_right _ h.1
 exact Nat.le_trans h1 (by omega)
theorem rowsW_len {h : House} (hh : HouT h) : (rowsW h).length ≤ 121 ∧ ∀ ws ∈ rowsW h, ws.length ≤ 12 ∧ ∀ t ∈ ws, t.length ≤ 40 := by
 obtain ⟨h1, h2⟩ := rowsS_len hh.sn hh.s
 have hf := hh.fn
 refine ⟨by unfold rowsW; rw [List.length_cons, List.length_append, List.length_map]; omega, fun ws hw => ?_⟩
 rcases List.mem_cons.mp hw with rfl | hw
 · refine ⟨by show 4 ≤ 12; decide, fun t ht => ?_⟩
   simp only [headW, List.mem_cons, List.not_mem_nil, or_false] at ht
   rcases ht with rfl | rfl | rfl | rfl
   · decide
   · have := (num_len hh.b.1 hh.b.2).2; omega
   · decide
   · have := (num_len hh.w.1 hh.w.2).2; omega
 rcases List.mem_append.mp hw with hw | hw
 · exact h2 ws hw
 · obtain ⟨c, hc, rfl⟩ := List.mem_map.mp hw
   exact cW_len (by decide) (hh.f c hc)
theorem txt_ok {h : House} (hh : HouT h) : JoinOk nl ((rowsW h).map lineW) = true := by
 obtain ⟨h1, h2⟩ := rowsW_len hh
 refine joinOk 500 (fun x hx => ?_) ?_
 · obtain ⟨ws, hw, rfl⟩ := List.mem_map.mp hx
   have := line_len (h2 ws hw)
   show _ + 1 ≤ 500
   omega
 · rw [List.length_map]
   have : (rowsW h).length * 500 ≤ 121 * 500 := Nat.mul_le_mul_right _ h1
   exact Nat.le_trans this (by decide)
section
variable {P : Program} {w : World} {K : PySem.W.Frag} {mg : Str → Option Value} {base : Heap}
theorem sc_showHouse : FnScope ["house", "boxes", "walls", "lines", "script"] ["house"] (defScope s_showHouse) := ⟨rfl, rfl, rfl, by decide +kernel, rfl, by decide +kernel, by decide +kernel⟩
theorem ok_showHouse (D : Def K mg "show_house" s_showHouse) (T : Txt K mg) (o1 : Ok P w K mg base "need_house" 23 ["thing"] spNh) (o2 : Ok P w K mg base "show_deed" 2 ["deed"] spSd) (o3 : Ok P w K mg base "show_calling" 1 ["word", "calling"] spSc2) : Ok P w K mg base "show_house" 24 ["house"] spSh := by
 refine mkOk D sc_showHouse (fun _ _ _ _ _ _ us hl => (match us, hl with | [_], _ => rfl)) (fun vs H Q E ⟨_, _, e, _⟩ => by rw [e]; rfl) fun f cdv A outer s H vs Q E hr h => ?_
 obtain ⟨h, v, rfl, hv, hW, hG, hm, hh, kk⟩ := h
 have nd := sc_showHouse.nd
 have r2 := hr.mono (show 2 ≤ 23 by decide)
 have r1 := hr.mono (show 1 ≤ 23 by decide)
 refine ⟨_, pss_cons (ps_expr (pe_fn o1 hr (pa_cons (pv 0) pa_nil)))
  (pss_cons (ps_set (i := 1) nd rfl (Or.inl rfl) (pe_ix ix_tup (pv 0) (pe_cst T.BOXES) (fun _ _ => rfl)))
  (pss_cons (ps_set (i := 2) nd rfl (Or.inl rfl) (pe_ix ix_tup (pv 0) (pe_cst T.WALLS) (fun _ _ => rfl)))
  (pss_cons (ps_set (i := 3) nd rfl (Or.inl rfl) (pe_lst (pa_cons (pe_joined (pj_cons pe_str (pj_cons (pe_fmt (pv 1)) (pj_cons pe_str (pj_cons (pe_fmt (pv 2)) pj_nil))))) pa_nil)))
  (pss_cons (ps_for PassesOwn.never rfl (pi_tup (pe_ix ix_tup (pv 0) (pe_cst T.SCRIPTS) (fun _ _ => rfl))) (pg_name (i := 4) nd rfl (Or.inl rfl))
   (pss_cons (ps_expr (pe_bm PySem.F.plainAttrs_list PySem.F.slot_list_append PySem.F.type_list_append mt_append (pv 3) (pa_cons pe_str pa_nil)))
   (pss_one (ps_expr (pe_bm PySem.F.plainAttrs_list PySem.F.slot_list_extend PySem.F.type_list_extend mt_extend (pv 3) (pa_cons (pe_lc (own := ["deed"]) (cap := []) rfl (lcScope (defScope s_showHouse) rfl rfl (by decide +kernel) (by decide +kernel) (by decide +kernel) trivial) (pi_tup (pv 4))
    (fun _ _ _ _ => pg_name (i := 0) (by show (["deed"] : List Str).Nodup; decide +kernel) rfl (Or.inl rfl)) (fun _ _ _ _ => pif_nil) (fun _ _ _ _ => pe_fn o2 r2 (pa_cons (pv 0) pa_nil))) pa_nil))))))
  (pss_cons (ps_expr (pe_bm PySem.F.plainAttrs_list PySem.F.slot_list_extend PySem.F.type_list_extend mt_extend (pv 3) (pa_cons (pe_lc (own := ["calling"]) (cap := []) rfl (lcScope (defScope s_showHouse) rfl rfl (by decide +kernel) (by decide +kernel) (by decide +kernel) trivial) (pi_tup (pe_ix ix_tup (pv 0) (pe_cst T.FIRSTS) (fun _ _ => rfl)))
   (fun _ _ _ _ => pg_name (i := 0) (by show (["calling"] : List Str).Nodup; decide +kernel) rfl (Or.inl rfl)) (fun _ _ _ _ => pif_nil) (fun _ _ _ _ => pe_fn o3 r1 (pa_cons pe_str (pa_cons (pv 0) pa_nil)))) pa_nil)))
  (pss_one (ps_ret (pe_bm PySem.F.plainAttrs_str PySem.F.slot_str_join PySem.F.type_str_join mt_join pe_str (pa_cons (pv 3) pa_nil))))))))), ?_⟩
 refine ⟨_, rfl, h, v, rfl, hv, hW, hG, hm, fun H1 s1 => ?_⟩
 obtain ⟨a, bf, bs, xf, xs, rfl, O1⟩ := hou_open (hv.mono s1)
 refine ⟨_, rfl, a, _, _, _, rfl, rfl, SqT.of O1.at', at0, ?_⟩
 refine ⟨_, rfl, a, _, _, _, rfl, rfl, SqT.of O1.at', at1, ?_⟩
 have hbl := (num_len hh.b.1 hh.b.2).2
 have hwl := (num_len hh.w.1 hh.w.2).2
 have l1 : ("BOXES " : Str).length = 6 := rfl
 have l2 : (" WALLS " : Str).length = 7 := rfl
 have e1 : (Str.empty ++ ("BOXES " : Str)) = "BOXES " := Str.empty_append _
 refine ⟨"BOXES ", rfl, ?_, _, rfl, .inl ⟨h.b, rfl, num_log hh.b, nS h.b, rfl, ?_, " WALLS ", rfl, ?_, _, rfl, .inl ⟨h.w, rfl, num_log hh.w, nS h.w, rfl, ?_, ?_, by show 1 ≤ sizeLine; decide, fun l hl => ?_⟩⟩⟩
 · rw [e1]; exact small_le (by omega)
 · rw [e1, len_app]; exact small_le (by omega)
 · rw [e1, len_app, len_app]; exact small_le (by omega)
 · rw [e1, len_app, len_app, len_app]; exact small_le (by omega)
 · rw [e1, len_app, len_app, len_app]; exact small_le (by omega)
 rw [e1, ← head_line]
 have s2 := Same.new hl (.lst [.str (lineW (headW h))])
 have g2 : upd H1 l (.lst [.str (lineW (headW h))]) l = some (.lst ([lineW (headW h)].map V.str)) := upd_same
 have O2 := O1.tups fun b ys e => s2 _ _ e
 have hlH : H l = none := by
  cases z : H l with
  | none => rfl
  | some o => rw [s1 _ _ z] at hl; cases hl
 have s02 := s1.trans s2
 generalize upd H1 l (.lst [.str (lineW (headW h))]) = H2 at s2 g2 O2 s02 ⊢
 have hrl := rowsS_len hh.sn hh.s
 have hsl := O2.sl.length
 rw [List.length_map] at hsl
 have hsn := hh.sn
 refine ⟨_, rfl, a, _, _, _, rfl, rfl, SqT.of O2.at', at3, bs, rfl, ⟨_, SqT.of O2.s⟩, ?_⟩
 refine for_tup (xs := xs) (fun i σ H' => Same H H' ∧ HouO H' h a bf bs xf xs ∧ H' l = some (.lst ((lineW (headW h) :: (rowsS (h.ss.take i)).map lineW).map V.str)) ∧ ∃ x4, σ = [some (.ref a), some (.int h.b), some (.int h.w), some (.ref l), x4]) ⟨s02, O2, g2, none, rfl⟩ (fun i σ H' _ ⟨_, o, _⟩ => SqT.of o.s) ?_ ?_
 · rintro i x σ H3 hx ⟨s3, O3, g3, x4, rfl⟩
   obtain ⟨t, ht, it⟩ := O3.sl.get' hx
   rw [List.getElem?_map] at ht
   cases es : h.ss[i]? with
   | none => rw [es] at ht; cases ht
   | some sc =>
   rw [es] at ht
   cases ht
   obtain ⟨asx, ys, rfl, has, hys⟩ := it
   have hyl := hys.length
   rw [List.length_map] at hyl
   have hsc := hh.s sc (List.mem_of_getElem? es)
   have hsc10 := hsc.1
   have hi : (rowsS (h.ss.take i)).length ≤ 110 := (rowsS_len (by rw [List.length_take]; omega) fun s hs => hh.s s (List.mem_of_mem_take hs)).1
   refine ⟨_, rfl, .inl ⟨rfl, _, SqL.of g3⟩, l, _, _, rfl, rfl, g3, ?_, ?_⟩
   · rw [List.length_map, List.length_cons, List.length_map]; exact small1000 (by omega)
   have tp4 : Tups H3 (upd H3 l (.lst ((lineW (headW h) :: (rowsS (h.ss.take i)).map lineW).map V.str ++ [.str "SCRIPT"]))) := Tups.upd g3 (fun zs z => by cases z)
   have g4 : upd H3 l (.lst ((lineW (headW h) :: (rowsS (h.ss.take i)).map lineW).map V.str ++ [.str "SCRIPT"])) l = some (.lst ((lineW (headW h) :: (rowsS (h.ss.take i)).map lineW).map V.str ++ [.str "SCRIPT"])) := upd_same
   have s4 : Same H (upd H3 l (.lst ((lineW (headW h) :: (rowsS (h.ss.take i)).map lineW).map V.str ++ [.str "SCRIPT"]))) := fun b o e => by rw [upd_ne (ne_of_none e hlH)]; exact s3 _ _ e
   have O4 := O3.tups tp4
   have has4 := tp4 _ _ has
   have hys4 := hys.tups tp4 (froDs sc)
   generalize upd H3 l (.lst ((lineW (headW h) :: (rowsS (h.ss.take i)).map lineW).map V.str ++ [.str "SCRIPT"])) = H4 at tp4 g4 s4 O4 has4 hys4 ⊢
   refine ⟨_, rfl, .inl ⟨rfl, _, SqL.of g4⟩, _, rfl, asx, rfl, ⟨_, SqT.of has4⟩, ?_⟩
   refine lc_tup (xs := ys) (fun j zs H' => Same H4 H' ∧ zs = (((sc.take j).map dW).map lineW).map V.str) ⟨Same.refl H4, rfl⟩ (fun j zs H' hj ⟨s', e⟩ => ⟨SqT.of (s' _ _ has4), by rw [e, List.length_map, List.length_map, List.length_map, List.length_take]; exact small_le (by omega)⟩) ?_ ?_
   · rintro j y zs H5 hy ⟨s5, rfl⟩
     refine gIf0 ?_
     obtain ⟨t, ht, it⟩ := (hys4.mono s5).get' hy
     rw [List.getElem?_map] at ht
     cases ed : sc[j]? with
     | none => rw [ed] at ht; cases ht
     | some d =>
     rw [ed] at ht
     cases ht
     refine ⟨_, rfl, d, y, rfl, hsc.2 d (List.mem_of_getElem? ed), it, fun H6 s6 => ⟨s5.trans s6, ?_⟩⟩
     rw [List.take_add_one, ed, List.map_append, List.map_append, List.map_append]
     rfl
   rintro zs H5 ⟨s5, rfl⟩ p hp
   rw [hyl, List.take_length]
   have s6 := s5.trans (Same.new hp (.lst (((sc.map dW).map lineW).map V.str)))
   have g6 : upd H5 p (.lst (((sc.map dW).map lineW).map V.str)) p = some (.lst (((sc.map dW).map lineW).map V.str)) := upd_same
   generalize upd H5 p (.lst (((sc.map dW).map lineW).map V.str)) = H6 at s6 g6 ⊢
   have g46 := s6 _ _ g4
   refine ⟨l, p, _, _, rfl, rfl, g46, g6, ?_, ?_⟩
   · simp only [List.length_map, List.length_append, List.length_cons, List.length_nil]
     exact small_le (by omega)
   have tp7 : Tups H6 (upd H6 l (.lst ((lineW (headW h) :: (rowsS (h.ss.take i)).map lineW).map V.str ++ [.str "SCRIPT"] ++ ((sc.map dW).map lineW).map V.str))) := Tups.upd g46 (fun zs z => by cases z)
   refine ⟨fun b o e => by rw [upd_ne (ne_of_none e hlH)]; exact s6 _ _ (s4 _ _ e), (O4.tups fun b ys e => s6 _ _ e).tups tp7, ?_, _, rfl⟩
   rw [upd_same, rows_take es]
   congr 2
   simp only [List.map_cons, List.map_append, List.append_assoc, List.cons_append, List.nil_append]
   rfl
 rintro σ H3 ⟨s3, O3, g3, x4, rfl⟩
 rw [hsl, List.take_length] at g3
 have hfl := O3.fl.length
 rw [List.length_map] at hfl
 have hfn := hh.fn
 have hr110 := hrl.1
 refine ⟨_, rfl, .inl ⟨rfl, _, SqL.of g3⟩, _, rfl, a, _, _, _, rfl, rfl, SqT.of O3.at', at2, bf, rfl, ⟨_, SqT.of O3.f⟩, ?_⟩
 refine lc_tup (xs := xf) (fun j zs H' => Same H3 H' ∧ zs = (((h.fs.take j).map (cW "FIRST")).map lineW).map V.str) ⟨Same.refl H3, rfl⟩ (fun j zs H' hj ⟨s', e⟩ => ⟨SqT.of (s' _ _ O3.f), by rw [e, List.length_map, List.length_map, List.length_map, List.length_take]; exact small_le (by omega)⟩) ?_ ?_
 · rintro j y zs H5 hy ⟨s5, rfl⟩
   refine gIf0 ?_
   obtain ⟨t, ht, it⟩ := (O3.fl.mono s5).get' hy
   rw [List.getElem?_map] at ht
   cases ec : h.fs[j]? with
   | none => rw [ec] at ht; cases ht
   | some c =>
   rw [ec] at ht
   cases ht
   refine ⟨_, rfl, "FIRST", c, y, rfl, by decide, hh.f c (List.mem_of_getElem? ec), it, fun H6 s6 => ⟨s5.trans s6, ?_⟩⟩
   rw [List.take_add_one, ec, List.map_append, List.map_append, List.map_append]
   rfl
 rintro zs H5 ⟨s5, rfl⟩ p hp
 rw [hfl, List.take_length]
 have s6 := s5.trans (Same.new hp (.lst (((h.fs.map (cW "FIRST")).map lineW).map V.str)))
 have g6 : upd H5 p (.lst (((h.fs.map (cW "FIRST")).map lineW).map V.str)) p = some (.lst (((h.fs.map (cW "FIRST")).map lineW).map V.str)) := upd_same
 generalize upd H5 p (.lst (((h.fs.map (cW "FIRST")).map lineW).map V.str)) = H6 at s6 g6 ⊢
 refine ⟨l, p, _, _, rfl, rfl, s6 _ _ g3, g6, ?_, ?_⟩
 · simp only [List.length_map, List.length_append, List.length_cons, List.length_nil]
   exact small_le (by omega)
 have s7 : Same H (upd H6 l (.lst ((lineW (headW h) :: (rowsS h.ss).map lineW).map V.str ++ ((h.fs.map (cW "FIRST")).map lineW).map V.str))) := fun b o e => by rw [upd_ne (ne_of_none e hlH)]; exact s6 _ _ (s3 _ _ e)
 refine ⟨rfl, _, rfl, nl, l, (rowsW h).map lineW, rfl, rfl, ?_, txt_ok hh, kk _ s7⟩
 rw [upd_same]
 unfold rowsW
 simp only [List.map_cons, List.map_append, List.cons_append]
end
end My
set_option maxHeartbeats 1000000
namespace My
open PySem PySem.Spec PyProof.Rows L2
abbrev s_memText : Stmt := top 65
abbrev s_deedText : Stmt := top 66
abbrev s_lawText : Stmt := top 67
theorem fold_cat (g : Array Nat) : ∀ (l : List Str) (a : Array Nat), (l.foldl (fun acc p => acc ++ g ++ p.cps) a).toList = a.toList ++ l.flatMap (fun p => g.toList ++ p.cps.toList)
 | [], a => by simp
 | x :: r, a => by
   show (r.foldl _ (a ++ g ++ x.cps)).toList = _
   rw [fold_cat g r]
   simp
noncomputable def memX (m : Mem) : Str := " " ++ nS m.1 ++ ":" ++ m.2
noncomputable def mtx (ms : List Mem) : Str := PySem.Txt.join "" (ms.map memX)
theorem join0 : ∀ l : List Str, (PySem.Txt.join "" l).cps.toList = l.flatMap (fun p => p.cps.toList)
 | [] => rfl
 | x :: r => by
   have := fold_cat ("" : Str).cps r x.cps
   exact this
theorem memX_list (m : Mem) : (memX m).cps.toList = 32 :: (memS m).cps.toList := by
 show ((((" " : Str).cps ++ (nS m.1).cps) ++ (":" : Str).cps) ++ m.2.cps).toList = 32 :: (((nS m.1).cps ++ (":" : Str).cps) ++ m.2.cps).toList
 simp only [Array.toList_append, List.append_assoc]
 rfl
theorem line_list (x : Str) (l : List Str) : (lineW (x :: l)).cps.toList = x.cps.toList ++ l.flatMap (fun p => 32 :: p.cps.toList) := fold_cat sp.cps l x.cps
theorem call_line (x : Str) (c : Calling) : x ++ " " ++ nS c.1 ++ mtx c.2 = lineW (cW x c) := by
 apply toList_inj
 rw [cW, line_list]
 show (((x.cps ++ (" " : Str).cps) ++ (nS c.1).cps) ++ (mtx c.2).cps).toList = _
 simp only [Array.toList_append, List.flatMap_cons, List.append_assoc]
 have e : (mtx c.2).cps.toList = (c.2.map memS).flatMap (fun p => 32 :: p.cps.toList) := by
  rw [mtx, join0]
  induction c.2 with
  | nil => rfl
  | cons m r ih =>
    simp only [List.map_cons, List.flatMap_cons, memX_list] at ih ⊢
    rw [ih]
 rw [e]
 rfl
theorem memX_len {m : Mem} (h : MemT m) : (memX m).length ≤ 41 := by
 have h1 := memS_len h
 have h2 : (memX m).cps.toList.length = (memS m).cps.toList.length + 1 := by rw [memX_list]; rfl
 have h3 : (memX m).cps.toList.length = (memX m).length := by simp; rfl
 have h4 : (memS m).cps.toList.length = (memS m).length := by simp; rfl
 omega
theorem mtx_len {ms : List Mem} (hl : ms.length ≤ 10) (h : ∀ m ∈ ms, MemT m) : (mtx ms).length ≤ 410 := by
 have h1 := join_len (sep := "") (xs := ms.map memX) 41 fun t ht => by
  obtain ⟨m, hm, rfl⟩ := List.mem_map.mp ht
  exact memX_len (h m hm)
 rw [List.length_map] at h1
 exact Nat.le_trans h1 (by omega)
noncomputable def spMt : Sp := fun vs H Q _ => ∃ ms v, vs = [v] ∧ ms.length ≤ 10 ∧ (∀ m ∈ ms, MemT m) ∧ Is H (eMs ms) v ∧ ∀ H', Same H H' → Q (.str (mtx ms)) H'
theorem mode_len {m : Mem} (h : MemT m) : m.2.length ≤ 4 := by rcases h.2 with e | e | e <;> rw [e] <;> decide
section
variable {P : Program} {w : World} {K : PySem.W.Frag} {mg : Str → Option Value} {base : Heap}
theorem sc_memText : FnScope ["called"] ["called"] (defScope s_memText) := ⟨rfl, rfl, rfl, by decide +kernel, rfl, by decide +kernel, by decide +kernel⟩
theorem ok_memText (D : Def K mg "_law_e_members_text" s_memText) (T : Txt K mg) : Ok P w K mg base "_law_e_members_text" 1 ["called"] spMt := by
 refine mkOk D sc_memText (fun _ _ _ _ _ _ us hl => (match us, hl with | [_], _ => rfl)) (fun vs H Q E ⟨_, _, e, _⟩ => by rw [e]; rfl) fun f cdv A outer s H vs Q E hr h => ?_
 obtain ⟨ms, v, rfl, h10, hm, hv, kk⟩ := h
 have ndc : (["place", "mode"] : List Str).Nodup := by decide +kernel
 refine ⟨_, pss_one (ps_ret (pe_bm PySem.F.plainAttrs_str PySem.F.slot_str_join PySem.F.type_str_join mt_join pe_str (pa_cons (pe_lc (own := ["place", "mode"]) (cap := []) (g := gTup K 2 (gCons (gName 0) (gCons (gName 1) gNil))) rfl (lcScope (defScope s_memText) rfl rfl (by decide +kernel) (by decide +kernel) (by decide +kernel) trivial) (pi_tup (pv 0))
  (fun _ _ _ _ => pg_tup rfl (pgs_cons (pg_name (i := 0) ndc rfl (Or.inl rfl)) (pgs_cons (pg_name (i := 1) ndc rfl (Or.inl rfl)) pgs_nil))) (fun _ _ _ _ => pif_nil)
  (fun _ _ _ _ => pe_op op_add_str (pe_op op_add_str (pe_op op_add_str pe_str (pe_callTy call_strV rfl T.str bt_str (pa_cons (pv 0) pa_nil))) pe_str) (pv 1))) pa_nil))), ?_⟩
 obtain ⟨bm, xs, rfl, hbm, hl⟩ := hv
 have hxl := hl.length
 rw [List.length_map] at hxl
 refine ⟨rfl, _, rfl, bm, rfl, ⟨_, SqT.of hbm⟩, ?_⟩
 refine lc_tup (xs := xs) (fun i ys H' => H' = H ∧ ys = ((ms.take i).map memX).map V.str) ⟨rfl, rfl⟩ (fun i ys H' hi ⟨s', e⟩ => ⟨by rw [s']; exact SqT.of hbm, by rw [e, List.length_map, List.length_map, List.length_take]; exact small_le (by omega)⟩) ?_ ?_
 · rintro i y ys H1 hy ⟨rfl, rfl⟩
   obtain ⟨t, ht, it⟩ := hl.get' hy
   rw [List.getElem?_map] at ht
   cases em : ms[i]? with
   | none => rw [em] at ht; cases ht
   | some m =>
   rw [em] at ht
   cases ht
   obtain ⟨bb, rfl, hbb⟩ := mem_open it
   have hm1 := hm m (List.mem_of_getElem? em)
   have hnl := (num_len hm1.1.1 hm1.1.2).2
   have l2 : (":" : Str).length = 1 := rfl
   have l4 : (" " : Str).length = 1 := rfl
   have l3 := mode_len hm1
   refine ⟨bb, _, rfl, SqT.of hbb, rfl, _, _, rfl, _, _, rfl, rfl, ?_⟩
   refine if0 ?_
   refine ⟨_, rfl, .inl ⟨m.1, rfl, num_log hm1.1, " ", nS m.1, rfl, rfl, small_le (by omega), _, _, rfl, rfl, ?_, _, rfl, _, _, rfl, rfl, ?_, rfl, ?_⟩⟩
   · rw [len_app]; exact small_le (by omega)
   · rw [len_app, len_app]; exact small_le (by omega)
   · rw [List.take_add_one, em, List.map_append, List.map_append]
     rfl
 rintro ys H1 ⟨rfl, rfl⟩ p hp
 rw [hxl, List.take_length]
 refine ⟨"", p, ms.map memX, rfl, rfl, upd_same, joinOk 41 (fun t ht => ?_) ?_, kk _ (Same.new hp _)⟩
 · obtain ⟨m, hm2, rfl⟩ := List.mem_map.mp ht
   exact memX_len (hm m hm2)
 · rw [List.length_map]
   have : ms.length * 41 ≤ 10 * 41 := Nat.mul_le_mul_right _ h10
   exact Nat.le_trans this (by decide)
end
end My
set_option maxHeartbeats 1000000
namespace My
open PySem PySem.Spec PyProof.Rows L2
theorem sp_eq : (" " : Str) = sp := by decide
theorem beg_line (c : Calling) : ("begin " : Str) ++ nS c.1 ++ mtx c.2 = lineW (cW "begin" c) := by
 rw [← call_line, show ("begin " : Str) = "begin" ++ " " by decide]
theorem say_line (x : Str) : ("say " : Str) ++ x = lineW ["say", x] := by
 rw [show ("say " : Str) = "say" ++ sp by decide]
 rfl
theorem first_line (c : Calling) : ("FIRST " : Str) ++ nS c.1 ++ mtx c.2 = lineW (cW "FIRST" c) := by
 rw [← call_line, show ("FIRST " : Str) = "FIRST" ++ " " by decide]
theorem line2 (x y : Str) : x ++ " " ++ y = lineW [x, y] := by rw [sp_eq]; rfl
theorem line3 (x y z : Str) : x ++ " " ++ y ++ " " ++ z = lineW [x, y, z] := by rw [sp_eq]; rfl
theorem ded_kinds {d : Deed} (h : DedT d) : (∃ n ms, d = .beg n ms) ∨ (isBg d = false ∧ ((∃ x : Str, dv d = [.str "say", .str x] ∧ dW d = [("say" : Str), x] ∧ x.length ≤ 8) ∨ (∃ (x : Str) (i j : Int), dv d = [.str x, .int i, .int j] ∧ dW d = [x, nS i, nS j] ∧ Num i ∧ Num j ∧ x.length ≤ 10 ∧ x ≠ "begin" ∧ x ≠ "say") ∨ ∃ (x : Str) (i : Int), dv d = [.str x, .int i] ∧ dW d = [x, nS i] ∧ Num i ∧ x.length ≤ 10 ∧ x ≠ "begin" ∧ x ≠ "say")) := by
 cases d with
 | beg n ms => exact .inl ⟨n, ms, rfl⟩
 | say x => exact .inr ⟨rfl, .inl ⟨x, rfl, rfl, by rcases h with e | e | e | e <;> rw [e] <;> decide⟩⟩
 | rai b k => exact .inr ⟨rfl, .inr (.inl ⟨_, _, _, rfl, rfl, h.1, h.2, by decide, by decide, by decide⟩)⟩
 | awa b k => exact .inr ⟨rfl, .inr (.inl ⟨_, _, _, rfl, rfl, h.1, h.2, by decide, by decide, by decide⟩)⟩
 | com b => exact .inr ⟨rfl, .inr (.inr ⟨_, _, rfl, rfl, h, by decide, by decide, by decide⟩)⟩
 | goo b => exact .inr ⟨rfl, .inr (.inr ⟨_, _, rfl, rfl, h, by decide, by decide, by decide⟩)⟩
 | lea b => exact .inr ⟨rfl, .inr (.inr ⟨_, _, rfl, rfl, h, by decide, by decide, by decide⟩)⟩
 | wor b => exact .inr ⟨rfl, .inr (.inr ⟨_, _, rfl, rfl, h, by decide, by decide, by decide⟩)⟩
theorem vs_ne {x y : Str} (h : x ≠ y) : decide (V.str x = V.str y) = false := decide_eq_false fun e => h (by injection e)
section
variable {P : Program} {w : World} {K : PySem.W.Frag} {mg : Str → Option Value} {base : Heap}
theorem sc_deedText : FnScope ["deed"] ["deed"] (defScope s_deedText) := ⟨rfl, rfl, rfl, by decide +kernel, rfl, by decide +kernel, by decide +kernel⟩
theorem ok_deedText (D : Def K mg "_law_e_deed_text" s_deedText) (T : Txt K mg) (o1 : Ok P w K mg base "_law_e_members_text" 1 ["called"] spMt) : Ok P w K mg base "_law_e_deed_text" 2 ["deed"] spSd := by
 refine mkOk D sc_deedText (fun _ _ _ _ _ _ us hl => (match us, hl with | [_], _ => rfl)) (fun vs H Q E ⟨_, _, e, _⟩ => by rw [e]; rfl) fun f cdv A outer s H vs Q E hr h => ?_
 obtain ⟨d, v, rfl, hd, hv, kk⟩ := h
 refine ⟨_, pss_cons (ps_if (pt_cmpR op_eq (pe_ix ix_tup (pv 0) pe_int (fun _ _ => rfl)) pe_str (nomark _)) (pss_one (ps_ret (pe_op op_add_str (pe_op op_add_str pe_str (pe_callTy call_strV rfl T.str bt_str (pa_cons (pe_ix ix_tup (pv 0) pe_int (fun _ _ => rfl)) pa_nil))) (pe_fn o1 hr (pa_cons (pe_ix ix_tup (pv 0) pe_int (fun _ _ => rfl)) pa_nil))))) pss_nil)
  (pss_cons (ps_if (pt_cmpR op_eq (pe_ix ix_tup (pv 0) pe_int (fun _ _ => rfl)) pe_str (nomark _)) (pss_one (ps_ret (pe_op op_add_str pe_str (pe_ix ix_tup (pv 0) pe_int (fun _ _ => rfl))))) pss_nil)
  (pss_cons (ps_if (pt_cmpR op_eq (pe_callB call_len_seq rfl T.len bt_len (pa_cons (pv 0) pa_nil)) pe_int (nomark _)) (pss_one (ps_ret (pe_op op_add_str (pe_op op_add_str (pe_op op_add_str (pe_op op_add_str (pe_ix ix_tup (pv 0) pe_int (fun _ _ => rfl)) pe_str) (pe_callTy call_strV rfl T.str bt_str (pa_cons (pe_ix ix_tup (pv 0) pe_int (fun _ _ => rfl)) pa_nil))) pe_str) (pe_callTy call_strV rfl T.str bt_str (pa_cons (pe_ix ix_tup (pv 0) pe_int (fun _ _ => rfl)) pa_nil))))) pss_nil)
  (pss_one (ps_ret (pe_op op_add_str (pe_op op_add_str (pe_ix ix_tup (pv 0) pe_int (fun _ _ => rfl)) pe_str) (pe_callTy call_strV rfl T.str bt_str (pa_cons (pe_ix ix_tup (pv 0) pe_int (fun _ _ => rfl)) pa_nil))))))), ?_⟩
 have l1 : (" " : Str).length = 1 := rfl
 rcases ded_kinds hd with ⟨n, ms, rfl⟩ | ⟨hb, hk⟩
 · obtain ⟨a, ys, rfl, ha, v1, r1, rfl, e1, v2, r2, rfl, e2, v3, r3, rfl, e3, e4⟩ := hv
   cases (show r3 = [] from e4)
   cases (show v1 = .str "begin" from e1)
   cases (show v2 = .int (n : Int) from e2)
   have hn : (nS (n : Int)).length ≤ 30 := (num_len (cal_num hd).1 (cal_num hd).2).2
   have hm : (mtx ms).length ≤ 410 := mtx_len hd.2.1 hd.2.2
   have lb : ("begin " : Str).length = 6 := rfl
   refine ⟨_, rfl, a, _, _, _, rfl, rfl, SqT.of ha, at0, rfl, _, rfl, ?_⟩
   rw [decide_eq_true rfl]
   refine iteT ⟨_, rfl, a, _, _, _, rfl, rfl, SqT.of ha, at1, .inl ⟨_, rfl, num_log (cal_num hd), _, _, rfl, rfl, small_le (by omega), ?_⟩⟩
   refine ⟨_, rfl, a, _, _, _, rfl, rfl, SqT.of ha, at2, ms, v3, rfl, hd.2.1, hd.2.2, e3, fun H1 s1 => ⟨_, _, rfl, rfl, ?_, ?_⟩⟩
   · rw [len_app]; exact small_le (by omega)
   · rw [beg_line (n, ms)]
     exact kk H1 s1
 obtain ⟨a, rfl, ha⟩ := deed_open hb hv
 rcases hk with ⟨x, e1, e2, hx⟩ | ⟨x, i, j, e1, e2, hi, hj, hx, n1, n2⟩ | ⟨x, i, e1, e2, hi, hx, n1, n2⟩
 · rw [e1] at ha
   refine ⟨_, rfl, a, _, _, _, rfl, rfl, SqT.of ha, at0, rfl, _, rfl, ?_⟩
   rw [vs_ne (by decide)]
   refine iteF ⟨_, rfl, a, _, _, _, rfl, rfl, SqT.of ha, at0, rfl, _, rfl, ?_⟩
   rw [decide_eq_true rfl]
   refine iteT ⟨_, rfl, a, _, _, _, rfl, rfl, SqT.of ha, at1, _, _, rfl, rfl, small_le (by show 4 + _ ≤ 1000; omega), ?_⟩
   rw [say_line, ← e2]
   exact kk H (Same.refl H)
 · rw [e1] at ha
   have li := (num_len hi.1 hi.2).2
   have lj := (num_len hj.1 hj.2).2
   refine ⟨_, rfl, a, _, _, _, rfl, rfl, SqT.of ha, at0, rfl, _, rfl, ?_⟩
   rw [vs_ne n1]
   refine iteF ⟨_, rfl, a, _, _, _, rfl, rfl, SqT.of ha, at0, rfl, _, rfl, ?_⟩
   rw [vs_ne n2]
   refine iteF ⟨_, rfl, a, _, rfl, .inr (SqT.of ha), rfl, _, rfl, ?_⟩
   refine iteT ⟨_, rfl, a, _, _, _, rfl, rfl, SqT.of ha, at0, _, _, rfl, rfl, small_le (by omega), ?_⟩
   refine ⟨_, rfl, a, _, _, _, rfl, rfl, SqT.of ha, at1, .inl ⟨_, rfl, num_log hi, _, _, rfl, rfl, ?_, _, _, rfl, rfl, ?_, ?_⟩⟩
   · rw [len_app]; exact small_le (by omega)
   · rw [len_app, len_app]; exact small_le (by omega)
   refine ⟨_, rfl, a, _, _, _, rfl, rfl, SqT.of ha, at2, .inl ⟨_, rfl, num_log hj, _, _, rfl, rfl, ?_, ?_⟩⟩
   · rw [len_app, len_app, len_app]; exact small_le (by omega)
   rw [line3, ← e2]
   exact kk H (Same.refl H)
 · rw [e1] at ha
   have li := (num_len hi.1 hi.2).2
   refine ⟨_, rfl, a, _, _, _, rfl, rfl, SqT.of ha, at0, rfl, _, rfl, ?_⟩
   rw [vs_ne n1]
   refine iteF ⟨_, rfl, a, _, _, _, rfl, rfl, SqT.of ha, at0, rfl, _, rfl, ?_⟩
   rw [vs_ne n2]
   refine iteF ⟨_, rfl, a, _, rfl, .inr (SqT.of ha), rfl, _, rfl, ?_⟩
   refine iteF ⟨_, rfl, a, _, _, _, rfl, rfl, SqT.of ha, at0, _, _, rfl, rfl, small_le (by omega), ?_⟩
   refine ⟨_, rfl, a, _, _, _, rfl, rfl, SqT.of ha, at1, .inl ⟨_, rfl, num_log hi, _, _, rfl, rfl, ?_, ?_⟩⟩
   · rw [len_app]; exact small_le (by omega)
   rw [line2, ← e2]
   exact kk H (Same.refl H)
end
end My
set_option maxHeartbeats 1000000
namespace My
open PySem PySem.Spec PyProof.Rows L2
noncomputable def spLt : Sp := fun vs H Q _ => ∃ h v, vs = [v] ∧ Is H (eH h) v ∧ HouT h ∧ ∀ H', Same H H' → Q (.str (txtH h)) H'
theorem rows1 (b : List Str) (x : Str) : b.map V.str ++ [.str x] = (b ++ [x]).map V.str := by rw [List.map_append]; rfl
section
variable {P : Program} {w : World} {K : PySem.W.Frag} {mg : Str → Option Value} {base : Heap}
theorem sc_lawText : FnScope ["house", "lines", "script", "deed", "at", "called"] ["house"] (defScope s_lawText) := ⟨rfl, rfl, rfl, by decide +kernel, rfl, by decide +kernel, by decide +kernel⟩
theorem ok_lawText (D : Def K mg "_law_e_text" s_lawText) (T : Txt K mg) (o1 : Ok P w K mg base "_law_e_members_text" 1 ["called"] spMt) (o2 : Ok P w K mg base "_law_e_deed_text" 2 ["deed"] spSd) : Ok P w K mg base "_law_e_text" 3 ["house"] spLt := by
 refine mkOk D sc_lawText (fun _ _ _ _ _ _ us hl => (match us, hl with | [_], _ => rfl)) (fun vs H Q E ⟨_, _, e, _⟩ => by rw [e]; rfl) fun f cdv A outer s H vs Q E hr h => ?_
 obtain ⟨h, v, rfl, hv, hh, kk⟩ := h
 have nd := sc_lawText.nd
 have r1 := hr.mono (show 1 ≤ 2 by decide)
 refine ⟨_, pss_cons (ps_set (i := 1) nd rfl (Or.inl rfl) (pe_lst (pa_cons (pe_op op_add_str (pe_op op_add_str (pe_op op_add_str pe_str (pe_callTy call_strV rfl T.str bt_str (pa_cons (pe_ix ix_tup (pv 0) pe_int (fun _ _ => rfl)) pa_nil))) pe_str) (pe_callTy call_strV rfl T.str bt_str (pa_cons (pe_ix ix_tup (pv 0) pe_int (fun _ _ => rfl)) pa_nil))) pa_nil)))
  (pss_cons (ps_for PassesOwn.never rfl (pi_tup (pe_ix ix_tup (pv 0) pe_int (fun _ _ => rfl))) (pg_name (i := 2) nd rfl (Or.inl rfl))
   (pss_cons (ps_expr (pe_bm PySem.F.plainAttrs_list PySem.F.slot_list_append PySem.F.type_list_append mt_append (pv 1) (pa_cons pe_str pa_nil)))
   (pss_one (ps_for PassesOwn.never rfl (pi_tup (pv 2)) (pg_name (i := 3) nd rfl (Or.inl rfl)) (pss_one (ps_expr (pe_bm PySem.F.plainAttrs_list PySem.F.slot_list_append PySem.F.type_list_append mt_append (pv 1) (pa_cons (pe_fn o2 hr (pa_cons (pv 3) pa_nil)) pa_nil))))))))
  (pss_cons (ps_for PassesOwn.never rfl (pi_tup (pe_ix ix_tup (pv 0) pe_int (fun _ _ => rfl))) (pg_tup rfl (pgs_cons (pg_name (i := 4) nd rfl (Or.inl rfl)) (pgs_cons (pg_name (i := 5) nd rfl (Or.inl rfl)) pgs_nil)))
   (pss_one (ps_expr (pe_bm PySem.F.plainAttrs_list PySem.F.slot_list_append PySem.F.type_list_append mt_append (pv 1) (pa_cons (pe_op op_add_str (pe_op op_add_str pe_str (pe_callTy call_strV rfl T.str bt_str (pa_cons (pv 4) pa_nil))) (pe_fn o1 r1 (pa_cons (pv 5) pa_nil))) pa_nil)))))
  (pss_one (ps_ret (pe_bm PySem.F.plainAttrs_str PySem.F.slot_str_join PySem.F.type_str_join mt_join pe_str (pa_cons (pv 1) pa_nil)))))), ?_⟩
 obtain ⟨a, bf, bs, xf, xs, rfl, O1⟩ := hou_open hv
 have hbl := (num_len hh.b.1 hh.b.2).2
 have hwl := (num_len hh.w.1 hh.w.2).2
 have l1 : ("BOXES " : Str).length = 6 := rfl
 have l2 : (" WALLS " : Str).length = 7 := rfl
 refine ⟨_, rfl, a, _, _, _, rfl, rfl, SqT.of O1.at', at0, .inl ⟨_, rfl, num_log hh.b, _, _, rfl, rfl, small_le (by omega), _, _, rfl, rfl, ?_, ?_⟩⟩
 · rw [len_app]; exact small_le (by omega)
 refine ⟨_, rfl, a, _, _, _, rfl, rfl, SqT.of O1.at', at1, .inl ⟨_, rfl, num_log hh.w, _, _, rfl, rfl, ?_, by show 1 ≤ sizeLine; decide, fun l hl => ?_⟩⟩
 · rw [len_app, len_app]; exact small_le (by omega)
 rw [← head_line]
 have s2 := Same.new hl (.lst [.str (lineW (headW h))])
 have g2 : upd H l (.lst [.str (lineW (headW h))]) l = some (.lst ([lineW (headW h)].map V.str)) := upd_same
 have O2 := O1.tups fun b ys e => s2 _ _ e
 generalize upd H l (.lst [.str (lineW (headW h))]) = H2 at s2 g2 O2 ⊢
 have hrl := rowsS_len hh.sn hh.s
 have hsl := O2.sl.length
 rw [List.length_map] at hsl
 have hsn := hh.sn
 have push : ∀ {H3 : Hp} {b : List Str} (x : Str), Same H H3 → HouO H3 h a bf bs xf xs → H3 l = some (.lst (b.map V.str)) → Same H (upd H3 l (.lst (b.map V.str ++ [.str x]))) ∧ HouO (upd H3 l (.lst (b.map V.str ++ [.str x]))) h a bf bs xf xs ∧ upd H3 l (.lst (b.map V.str ++ [.str x])) l = some (.lst ((b ++ [x]).map V.str)) ∧ Tups H3 (upd H3 l (.lst (b.map V.str ++ [.str x]))) := by
  intro H3 b x s3 O3 g3
  have tp : Tups H3 (upd H3 l (.lst (b.map V.str ++ [.str x]))) := Tups.upd g3 (fun zs z => by cases z)
  exact ⟨fun b o e => by rw [upd_ne (ne_of_none e hl)]; exact s3 _ _ e, O3.tups tp, by rw [upd_same, rows1], tp⟩
 refine ⟨_, rfl, a, _, _, _, rfl, rfl, SqT.of O2.at', at3, bs, rfl, ⟨_, SqT.of O2.s⟩, ?_⟩
 refine for_tup (xs := xs) (fun i σ H' => Same H H' ∧ HouO H' h a bf bs xf xs ∧ H' l = some (.lst ((lineW (headW h) :: (rowsS (h.ss.take i)).map lineW).map V.str)) ∧ ∃ x2 x3, σ = [some (.ref a), some (.ref l), x2, x3, none, none]) ⟨s2, O2, g2, none, none, rfl⟩ (fun i σ H' _ ⟨_, o, _⟩ => SqT.of o.s) ?_ ?_
 · rintro i x σ H3 hx ⟨s3, O3, g3, x2, x3, rfl⟩
   obtain ⟨t, ht, it⟩ := O3.sl.get' hx
   rw [List.getElem?_map] at ht
   cases es : h.ss[i]? with
   | none => rw [es] at ht; cases ht
   | some sc =>
   rw [es] at ht
   cases ht
   obtain ⟨asx, ys, rfl, has, hys⟩ := it
   have hyl := hys.length
   rw [List.length_map] at hyl
   have hsc := hh.s sc (List.mem_of_getElem? es)
   have hsc10 := hsc.1
   have hi : (rowsS (h.ss.take i)).length ≤ 110 := (rowsS_len (by rw [List.length_take]; omega) fun s hs => hh.s s (List.mem_of_mem_take hs)).1
   have hbn : (lineW (headW h) :: (rowsS (h.ss.take i)).map lineW).length ≤ 111 := by rw [List.length_cons, List.length_map]; omega
   rw [rows_take es, List.map_append, ← List.cons_append, List.map_cons]
   generalize (lineW (headW h) :: (rowsS (h.ss.take i)).map lineW) = b at g3 hbn ⊢
   refine ⟨_, rfl, .inl ⟨rfl, _, SqL.of g3⟩, l, _, _, rfl, rfl, g3, ?_, ?_⟩
   · rw [List.length_map]; exact small1000 (by omega)
   obtain ⟨s4, O4, g4, tp4⟩ := push "SCRIPT" s3 O3 g3
   have has4 := tp4 _ _ has
   have hys4 := hys.tups tp4 (froDs sc)
   generalize upd H3 l (.lst (b.map V.str ++ [.str "SCRIPT"])) = H4 at tp4 g4 s4 O4 has4 hys4 ⊢
   refine ⟨_, rfl, asx, rfl, ⟨_, SqT.of has4⟩, ?_⟩
   refine for_tup (xs := ys) (fun j σ H' => Same H H' ∧ HouO H' h a bf bs xf xs ∧ H' asx = some (.tup ys) ∧ L2.IsL H' (sc.map eD) ys ∧ H' l = some (.lst ((b ++ lineW [("SCRIPT" : Str)] :: ((sc.take j).map dW).map lineW).map V.str)) ∧ ∃ x3, σ = [some (.ref a), some (.ref l), some (.ref asx), x3, none, none]) ⟨s4, O4, has4, hys4, g4, x3, rfl⟩ (fun i σ H' _ ⟨_, _, o, _⟩ => SqT.of o) ?_ ?_
   · rintro j y σ H5 hy ⟨s5, O5, has5, hys5, g5, x3, rfl⟩
     obtain ⟨t, ht, it⟩ := hys5.get' hy
     rw [List.getElem?_map] at ht
     cases ed : sc[j]? with
     | none => rw [ed] at ht; cases ht
     | some d =>
     rw [ed] at ht
     cases ht
     have hjl : j ≤ 10 := by
      have := (List.getElem?_eq_some_iff.mp ed).1
      omega
     refine ⟨_, rfl, .inl ⟨rfl, _, SqL.of g5⟩, _, rfl, d, y, rfl, hsc.2 d (List.mem_of_getElem? ed), it, fun H6 s6 => ⟨l, _, _, rfl, rfl, s6 _ _ g5, ?_, ?_⟩⟩
     · simp only [List.length_map, List.length_append, List.length_cons, List.length_take]
       exact small1000 (by omega)
     obtain ⟨s7, O7, g7, tp7⟩ := push (lineW (dW d)) (s5.trans s6) (O5.tups fun b ys e => s6 _ _ e) (s6 _ _ g5)
     refine ⟨s7, O7, tp7 _ _ (s6 _ _ has5), (hys5.mono s6).tups tp7 (froDs sc), ?_, _, rfl⟩
     rw [g7, List.take_add_one, ed]
     simp only [List.map_append, List.map_cons, List.append_assoc, List.cons_append]
     rfl
   rintro σ H5 ⟨s5, O5, has5, hys5, g5, x3, rfl⟩
   rw [hyl, List.take_length] at g5
   exact ⟨s5, O5, g5, _, _, rfl⟩
 rintro σ H3 ⟨s3, O3, g3, x2, x3, rfl⟩
 rw [hsl, List.take_length] at g3
 have hfl := O3.fl.length
 rw [List.length_map] at hfl
 have hfn := hh.fn
 have hr110 := hrl.1
 refine ⟨_, rfl, a, _, _, _, rfl, rfl, SqT.of O3.at', at2, bf, rfl, ⟨_, SqT.of O3.f⟩, ?_⟩
 refine for_tup (xs := xf) (fun j σ H' => Same H H' ∧ HouO H' h a bf bs xf xs ∧ H' l = some (.lst ((lineW (headW h) :: (rowsS h.ss).map lineW ++ ((h.fs.take j).map (cW "FIRST")).map lineW).map V.str)) ∧ ∃ x4 x5, σ = [some (.ref a), some (.ref l), x2, x3, x4, x5]) ⟨s3, O3, by rw [g3]; simp, none, none, rfl⟩ (fun i σ H' _ ⟨_, o, _⟩ => SqT.of o.f) ?_ ?_
 · rintro j y σ H5 hy ⟨s5, O5, g5, x4, x5, rfl⟩
   obtain ⟨t, ht, it⟩ := O5.fl.get' hy
   rw [List.getElem?_map] at ht
   cases ec : h.fs[j]? with
   | none => rw [ec] at ht; cases ht
   | some c =>
   rw [ec] at ht
   cases ht
   have hjl : j ≤ 10 := by
    have := (List.getElem?_eq_some_iff.mp ec).1
    omega
   obtain ⟨bc, bm, ms, rfl, hbc, hbm, hms⟩ := cal_open it
   have hc := hh.f c (List.mem_of_getElem? ec)
   have hn : (nS (c.1 : Int)).length ≤ 30 := (num_len (cal_num hc).1 (cal_num hc).2).2
   have hm : (mtx c.2).length ≤ 410 := mtx_len hc.2.1 hc.2.2
   have lb : ("FIRST " : Str).length = 6 := rfl
   refine ⟨bc, _, rfl, SqT.of hbc, rfl, _, _, rfl, _, _, rfl, rfl, ?_⟩
   refine ⟨_, rfl, .inl ⟨rfl, _, SqL.of g5⟩, _, rfl, .inl ⟨_, rfl, num_log (cal_num hc), _, _, rfl, rfl, small_le (by omega), ?_⟩⟩
   refine ⟨_, rfl, c.2, _, rfl, hc.2.1, hc.2.2, ⟨bm, ms, rfl, hbm, hms⟩, fun H6 s6 => ⟨_, _, rfl, rfl, ?_, l, _, _, rfl, rfl, s6 _ _ g5, ?_, ?_⟩⟩
   · rw [len_app]; exact small_le (by omega)
   · simp only [List.length_map, List.length_append, List.length_cons, List.length_take]
     exact small1000 (by omega)
   rw [first_line]
   obtain ⟨s7, O7, g7, tp7⟩ := push (lineW (cW "FIRST" c)) (s5.trans s6) (O5.tups fun b ys e => s6 _ _ e) (s6 _ _ g5)
   refine ⟨s7, O7, ?_, _, _, rfl⟩
   rw [g7, List.take_add_one, ec]
   simp only [List.map_append, List.map_cons, List.append_assoc, List.cons_append]
   rfl
 rintro σ H5 ⟨s5, O5, g5, x4, x5, rfl⟩
 rw [hfl, List.take_length] at g5
 refine ⟨rfl, _, rfl, nl, l, (rowsW h).map lineW, rfl, rfl, ?_, txt_ok hh, kk _ s5⟩
 rw [g5, rowsW]
 simp only [List.map_append, List.map_cons, List.append_assoc, List.cons_append]
end
end My
set_option maxHeartbeats 1000000
namespace My
open PySem PySem.Spec PyProof.Rows L2
abbrev s_isNumber : Stmt := top 43
abbrev s_readWord : Stmt := top 45
abbrev s_readWords : Stmt := top 46
theorem starts_head {x : Str} (h : PySem.Txt.startswith x "0" = true) : x.cps.toList.head? = some 48 := by
 unfold PySem.Txt.startswith at h
 rw [Bool.and_eq_true] at h
 have e : ("0" : Str) = ⟨#[48]⟩ := by decide
 rw [e] at h
 have h1 := of_decide_eq_true h.1
 rw [List.head?_eq_getElem?]
 exact (StrLaws.subAt_one x 48 0).mp ⟨h1, h.2⟩
noncomputable def mDig (c : Nat) : Bool := !decide ((⟨#[c]⟩ : Str).cps.toList < ("0" : Str).cps.toList) && !decide (("9" : Str).cps.toList < (⟨#[c]⟩ : Str).cps.toList)
theorem dig_all : ∀ c, c < 58 → 48 ≤ c → mDig c = true := by decide +kernel
noncomputable def spIn : Sp := fun vs H Q _ => ∃ n, vs = [.str (nS n)] ∧ Num n ∧ ∀ H', Same H H' → Q (.bl true) H'
section
variable {P : Program} {w : World} {K : PySem.W.Frag} {mg : Str → Option Value} {base : Heap}
theorem sc_isNumber : FnScope ["word"] ["word"] (defScope s_isNumber) := ⟨rfl, rfl, rfl, by decide +kernel, rfl, by decide +kernel, by decide +kernel⟩
theorem ok_isNumber (D : Def K mg "is_number" s_isNumber) (T : Txt K mg) : Ok P w K mg base "is_number" 1 ["word"] spIn := by
 refine mkOk D sc_isNumber (fun _ _ _ _ _ _ us hl => (match us, hl with | [_], _ => rfl)) (fun vs H Q E ⟨_, e, _⟩ => by rw [e]; rfl) fun f cdv A outer s H vs Q E hr h => ?_
 obtain ⟨n, rfl, hn, k⟩ := h
 refine ⟨_, pss_cons (ps_if (PW.pt (pw_or (pt_not (pt_chain op_le op_le pe_int (pe_callB call_len_str (by rfl) T.len bt_len (pa_cons (pv 0) pa_nil)) (pe_cst T.MOST_FIGURES))) (pw_or1 (PW.pt (pw_and (pt_val (pe_bm PySem.F.plainAttrs_str PySem.F.slot_str_startswith PySem.F.type_str_startswith mt_starts (pv 0) (pa_cons pe_str pa_nil))) (pw_and1 (pt_cmpR op_ne (pv 0) pe_str (nomark _)))))))) (pss_one ps_never) pss_nil)
  (pss_one (ps_ret (pe_callB (call_all rfl) rfl T.all bt_all (pa_cons (pe_lc (own := ["sign"]) (cap := []) rfl (lcScope (defScope s_isNumber) rfl rfl (by decide +kernel) (by decide +kernel) (by decide +kernel) trivial) (pi_str (pv 0)) (fun _ _ _ _ => pg_name (i := 0) (by show (["sign"] : List Str).Nodup; decide +kernel) rfl (Or.inl rfl))
   (fun _ _ _ _ => pif_nil) (fun _ _ _ _ => pe_chain op_le_str op_le_str pe_str (pv 0) pe_str)) pa_nil)))), ?_⟩
 have hl := num_len hn.1 hn.2
 have hz : (nS n).length ≤ sizeLine := small_le (by omega)
 have i1 : decide ((1 : Int) ≤ ((nS n).length : Int)) = true := decide_eq_true (by omega)
 have i2 : decide (((nS n).length : Int) ≤ 30) = true := decide_eq_true (by omega)
 refine ⟨_, rfl, nS n, rfl, hz, 1, _, rfl, rfl, _, rfl, ?_⟩
 rw [i1]
 refine iteT ⟨_, 30, rfl, rfl, _, rfl, ?_⟩
 rw [i2]
 refine iteF ⟨_, rfl, rfl, nS n, "0", rfl, rfl, _, rfl, ?_⟩
 cases hs : PySem.Txt.startswith (nS n) "0"
 case' true =>
  have e : nS n = "0" := by
   rcases num_head hn.1 hn.2 with c | c
   · exact absurd (starts_head hs) c
   · rw [c]; decide
  refine iteT ⟨_, rfl, rfl, _, rfl, ?_⟩
  rw [decide_eq_true (congrArg V.str e)]
  refine iteF ?_
 case' false =>
  refine iteF (iteF ?_)
 all_goals
  refine ⟨_, rfl, nS n, rfl, ?_⟩
  have hsz : (nS n).cps.size ≤ sizeLine := hz
  have hd : ∀ c ∈ (nS n).cps.toList, mDig c = true := fun c hc => dig_all c (by have := (num_dig hn.1 hn.2 hc).2; omega) (num_dig hn.1 hn.2 hc).1
  refine lc_str (x := nS n) (fun i ys H' => H' = H ∧ ys = ((nS n).cps.toList.take i).map fun c => V.bl (mDig c)) ⟨rfl, rfl⟩ (fun i ys H' hi ⟨_, e⟩ => by rw [e, List.length_map, List.length_take]; omega) ?_ ?_
  · rintro i c ys H' hc ⟨rfl, rfl⟩
    refine gIf0 ?_
    have hnext : ((nS n).cps.toList.take (i + 1)).map (fun c => V.bl (mDig c)) = ((nS n).cps.toList.take i).map (fun c => V.bl (mDig c)) ++ [V.bl (mDig c)] := by
     have : (nS n).cps.toList[i]? = some c := by rw [Array.getElem?_toList]; exact hc
     rw [List.take_add_one, this, List.map_append]
     rfl
    refine ⟨_, rfl, "0", _, rfl, rfl, _, rfl, ?_⟩
    refine ite2 (fun d => ?_) (fun d => ?_)
    · refine ⟨_, "9", rfl, rfl, rfl, ?_⟩
      rw [hnext]
      congr 3
      unfold mDig
      rw [d, Bool.true_and]
    · refine ⟨rfl, ?_⟩
      rw [hnext]
      congr 3
      unfold mDig
      rw [Bool.eq_false_iff.mpr d, Bool.false_and]
  · rintro ys H' ⟨rfl, rfl⟩ p hp
    refine ⟨p, (nS n).cps.toList.map mDig, rfl, SqL.of ?_, ?_⟩
    · rw [upd_same, List.map_map]
      have e : (nS n).cps.toList.take (nS n).cps.size = (nS n).cps.toList := by
       rw [← Array.length_toList, List.take_length]
      rw [e]
      rfl
    · have e : ((nS n).cps.toList.map mDig).all id = true := by
       rw [List.all_map]
       exact List.all_eq_true.mpr hd
      rw [e]
      exact k _ (Same.new hp _)
end
end My
set_option maxHeartbeats 1000000
namespace My
open PySem PySem.Spec PyProof.Rows L2
abbrev s_needRead : Stmt := top 52
noncomputable def Four (x : Str) : Prop := x = "a" ∨ x = "come" ∨ x = "go" ∨ x = "zzzzzzzz"
noncomputable def WdV (f x : Str) (v : V) : Prop := (f = "number" ∧ ∃ n, x = nS n ∧ Num n ∧ v = .int n) ∨ (f = "letters" ∧ Four x ∧ v = .str x)
theorem WdV.flat {f x : Str} {v : V} (h : WdV f x v) : flatV v = true ∧ eqV v .non = false := by
 rcases h with ⟨_, n, _, _, rfl⟩ | ⟨_, _, rfl⟩ <;> exact ⟨rfl, rfl⟩
theorem four_let {x : Str} (h : Four x) : mLetters (.str x) = true ∧ x.length ≤ 10 := by
 rcases h with rfl | rfl | rfl | rfl <;> exact ⟨by decide +kernel, by decide⟩
theorem sqt_same {K : PySem.W.Frag} {H H' : Hp} {a : Addr} {xs : List V} (h : SqT K H a xs) (s : Same H H') : SqT K H' a xs := by
 rcases h with h | h
 · rcases h with h | ⟨o, h⟩
   · exact .inl (.inl (s _ _ h))
   · exact .inl (.inr ⟨o, s _ _ h⟩)
 · exact .inr h
noncomputable def spRw : Sp := fun vs H Q _ => ∃ f x v, vs = [.str f, .str x] ∧ WdV f x v ∧ ∀ H', Same H H' → Q v H'
structure Rws (K : PySem.W.Frag) (H : Hp) (a b : Addr) (rows : List (Str × Str × V)) : Prop where
 each : ∀ r ∈ rows, WdV r.1 r.2.1 r.2.2
 few : rows.length ≤ 10
 fa : SqT K H a (rows.map fun r => V.str r.1)
 fb : H b = some (.lst (rows.map fun r => V.str r.2.1))
noncomputable def spRws (K : PySem.W.Frag) : Sp := fun vs H Q _ => ∃ a b rows, vs = [.ref a, .ref b] ∧ Rws K H a b rows ∧ ∀ l H', Same H H' → H' l = some (.lst (rows.map fun r => r.2.2)) → Q (.ref l) H'
noncomputable def spNr : Sp := fun vs H Q _ => ∃ v, vs = [v] ∧ decide (v = .non) = false ∧ Q v H
section
variable {P : Program} {w : World} {K : PySem.W.Frag} {mg : Str → Option Value} {base : Heap}
theorem sc_needRead : FnScope ["value"] ["value"] (defScope s_needRead) := ⟨rfl, rfl, rfl, by decide +kernel, rfl, by decide +kernel, by decide +kernel⟩
theorem ok_needRead (D : Def K mg "need_read" s_needRead) : Ok P w K mg base "need_read" 1 ["value"] spNr := by
 refine mkOk D sc_needRead (fun _ _ _ _ _ _ us hl => (match us, hl with | [_], _ => rfl)) (fun vs H Q E ⟨_, e, _⟩ => by rw [e]; rfl) fun f cdv A outer s H vs Q E hr h => ?_
 obtain ⟨v, rfl, hv, k⟩ := h
 refine ⟨_, pss_cons (ps_if (pt_cmpR op_isN (pv 0) pe_non (nomark _)) (pss_one ps_never) pss_nil) (pss_one (ps_ret (pv 0))), ?_⟩
 refine ⟨_, rfl, rfl, _, rfl, ?_⟩
 rw [hv]
 exact iteF ⟨_, rfl, k⟩
theorem sc_readWord : FnScope ["form", "word", "fits"] ["form", "word"] (defScope s_readWord) := ⟨rfl, rfl, rfl, by decide +kernel, rfl, by decide +kernel, by decide +kernel⟩
theorem ok_readWord (D : Def K mg "read_word" s_readWord) (T : Txt K mg) (o1 : Ok P w K mg base "is_number" 1 ["word"] spIn) (o2 : Ok P w K mg base "is_word" 2 ["thing"] (spB1 Wl mWord)) (o3 : Ok P w K mg base "is_letters" 1 ["thing"] (spB1 Wl mLetters)) : Ok P w K mg base "read_word" 3 ["form", "word"] spRw := by
 refine mkOk D sc_readWord (fun _ _ _ _ _ _ us hl => (match us, hl with | [_, _], _ => rfl)) (fun vs H Q E ⟨_, _, _, e, _⟩ => by rw [e]; rfl) fun f cdv A outer s H vs Q E hr h => ?_
 obtain ⟨f, x, v, rfl, hw, k⟩ := h
 have nd := sc_readWord.nd
 have r1 := hr.mono (show 1 ≤ 2 by decide)
 refine ⟨_, pss_cons (ps_if (pt_cmpR op_eq (pv 0) pe_str (nomark _)) (pss_one (ps_ret (pe_ifExp (pt_val (pe_fn o1 r1 (pa_cons (pv 1) pa_nil))) (pe_callTy call_int_num rfl T.int bt_int (pa_cons (pv 1) pa_nil)) pe_non))) pss_nil)
  (pss_cons (ps_if (pt_cmpR op_eq (pv 0) pe_str (nomark _)) (pss_one ps_never) pss_nil)
  (pss_cons (ps_set (i := 2) nd rfl (Or.inl rfl) (pe_ifExp (pt_cmpR op_eq (pv 0) pe_str (nomark _)) (pe_fn o2 hr (pa_cons (pv 1) pa_nil)) (pe_fn o3 r1 (pa_cons (pv 1) pa_nil))))
  (pss_one (ps_ret (pe_ifExp (pt_val (pv 2)) (pv 1) pe_non))))), ?_⟩
 rcases hw with ⟨rfl, n, rfl, hn, rfl⟩ | ⟨rfl, h4, rfl⟩
 · refine ⟨_, rfl, rfl, _, rfl, ?_⟩
   rw [decide_eq_true rfl]
   refine iteT ⟨_, rfl, n, rfl, hn, fun H1 s1 => ⟨_, rfl, iteT ⟨_, rfl, n, rfl, hn.1, ?_, k H1 s1⟩⟩⟩
   have := hn.2
   omega
 · refine ⟨_, rfl, rfl, _, rfl, ?_⟩
   rw [vs_ne (by decide)]
   refine iteF ⟨_, rfl, rfl, _, rfl, ?_⟩
   rw [vs_ne (by decide)]
   refine iteF ⟨_, rfl, rfl, _, rfl, ?_⟩
   rw [vs_ne (by decide)]
   obtain ⟨hl, hlen⟩ := four_let h4
   refine iteF ⟨_, rfl, .str x, _, rfl, rfl, fun y e => by cases e; exact small_le (by omega), fun H1 s1 => ?_⟩
   rw [hl]
   exact ⟨_, rfl, _, rfl, iteT ⟨_, rfl, k H1 s1⟩⟩
theorem sc_readWords : FnScope ["forms", "words", "values"] ["forms", "words"] (defScope s_readWords) := ⟨rfl, rfl, rfl, by decide +kernel, rfl, by decide +kernel, by decide +kernel⟩
theorem ok_readWords (D : Def K mg "read_words" s_readWords) (T : Txt K mg) (o1 : Ok P w K mg base "read_word" 3 ["form", "word"] spRw) : Ok P w K mg base "read_words" 4 ["forms", "words"] (spRws K) := by
 refine mkOk D sc_readWords (fun _ _ _ _ _ _ us hl => (match us, hl with | [_, _], _ => rfl)) (fun vs H Q E ⟨_, _, _, e, _⟩ => by rw [e]; rfl) fun f cdv A outer s H vs Q E hr h => ?_
 obtain ⟨a, b, rows, rfl, R, k⟩ := h
 have nd := sc_readWords.nd
 have ndc : (["form", "word"] : List Str).Nodup := by decide +kernel
 refine ⟨_, pss_cons (ps_if (pt_cmpR op_ne (pe_callB call_len_seq rfl T.len bt_len (pa_cons (pv 0) pa_nil)) (pe_callB call_len_seq rfl T.len bt_len (pa_cons (pv 1) pa_nil)) (nomark _)) (pss_one ps_never) pss_nil)
  (pss_cons (ps_lc (i := 2) (own := ["form", "word"]) (cap := []) (g := gTup K 2 (gCons (gName 0) (gCons (gName 1) gNil))) rfl (lcScope (defScope s_readWords) rfl rfl (by decide +kernel) (by decide +kernel) (by decide +kernel) trivial)
   (pi_zipK rfl T.zip (pa_cons (pv 0) (pa_cons (pv 1) pa_nil)))
   (fun _ _ _ _ => pg_tup rfl (pgs_cons (pg_name (i := 0) ndc rfl (Or.inl rfl)) (pgs_cons (pg_name (i := 1) ndc rfl (Or.inl rfl)) pgs_nil))) (fun _ _ _ _ => pif_nil)
   (fun _ _ _ _ => pe_fn o1 hr (pa_cons (pv 0) (pa_cons (pv 1) pa_nil))) nd rfl rfl (by with_unfolding_all rfl))
  (pss_one (ps_ret (pe_ifExp (pt_cmpR op_in_seq pe_non (pv 2) rfl) pe_non (pv 2))))), ?_⟩
 have hl := R.few
 refine ⟨_, rfl, a, _, rfl, .inr R.fa, _, rfl, b, _, rfl, .inl (SqL.of R.fb), rfl, _, rfl, ?_⟩
 rw [List.length_map, List.length_map, decide_eq_true rfl]
 refine iteF ⟨_, rfl, _, rfl, a, b, _, _, rfl, R.fa, R.fb, ?_⟩
 refine lc_zipK (by rw [List.length_map, List.length_map]) (fun i ys H' => Same H H' ∧ ys = (rows.take i).map fun r => r.2.2) ⟨Same.refl H, rfl⟩ (fun i ys H' hi ⟨s', e⟩ => ⟨sqt_same R.fa s', s' _ _ R.fb, by rw [e, List.length_map, List.length_take]; exact small_le (by omega)⟩) ?_ ?_
 · rintro i x1 z1 ys H' r hx hz ⟨s', rfl⟩ hr'
   rw [List.getElem?_map] at hx hz
   cases er : rows[i]? with
   | none => rw [er] at hx; cases hx
   | some rw' =>
   rw [er] at hx hz
   cases hx
   cases hz
   have hw := R.each rw' (List.mem_of_getElem? er)
   have sr := Same.new hr' (.tup [.str rw'.1, .str rw'.2.1])
   have gr : upd H' r (.tup [.str rw'.1, .str rw'.2.1]) r = some (.tup [.str rw'.1, .str rw'.2.1]) := upd_same
   generalize upd H' r (.tup [.str rw'.1, .str rw'.2.1]) = H11 at sr gr ⊢
   refine ⟨r, _, rfl, SqT.of gr, rfl, _, _, rfl, _, _, rfl, rfl, ?_⟩
   refine if0 ?_
   refine ⟨_, rfl, _, rfl, _, _, _, rfl, hw, fun H12 s12 => ⟨s'.trans (sr.trans s12), ?_⟩⟩
   rw [List.take_add_one, er, List.map_append]
   rfl
 rintro ys H1 ⟨s1, rfl⟩ l hl1
 rw [List.length_map, List.take_length]
 have s2 := Same.new hl1 (.lst (rows.map fun r => r.2.2))
 have g2 : upd H1 l (.lst (rows.map fun r => r.2.2)) l = some (.lst (rows.map fun r => r.2.2)) := upd_same
 generalize upd H1 l (.lst (rows.map fun r => r.2.2)) = H2 at s2 g2 ⊢
 have hf : (rows.map fun r => r.2.2).all flatV = true := List.all_eq_true.mpr fun v hv => by
  obtain ⟨r, hr, rfl⟩ := List.mem_map.mp hv
  exact (R.each r hr).flat.1
 have hi : inV .non (rows.map fun r => r.2.2) = false := by
  unfold inV
  rw [List.any_eq_false]
  intro v hv
  obtain ⟨r, hr, rfl⟩ := List.mem_map.mp hv
  rw [(R.each r hr).flat.2]
  decide
 refine ⟨_, rfl, l, _, rfl, .inl (SqL.of g2), rfl, hf, _, rfl, ?_⟩
 rw [if_neg Bool.false_ne_true, hi]
 exact iteF ⟨_, rfl, k l H2 (s1.trans s2) g2⟩
end
end My
set_option maxHeartbeats 1000000
namespace My
open PySem PySem.Spec PyProof.Rows L2
abbrev s_readHead : Stmt := top 53
abbrev s_readMember : Stmt := top 54
abbrev s_readCalling : Stmt := top 55
noncomputable def Low (m : Mem) : Prop := m.1 = 0 ∨ m.1 = 1 ∨ m.1 = 2
theorem part_mem {m : Mem} (h : MemT m) (l : Low m) : ∃ i r, Builtin.Str.occurrences (memS m) ":" 0 (memS m).length 1 = i :: r ∧ Builtin.Str.strSub (memS m) 0 i = nS m.1 ∧ Builtin.Str.strSub (memS m) (i + (":" : Str).length) (memS m).length = m.2 := by
 obtain ⟨n, x⟩ := m
 rcases l with e | e | e <;> cases (show n = _ from e) <;> rcases h.2 with e | e | e <;> cases (show x = _ from e) <;> exact ⟨1, [], by decide +kernel, by decide +kernel, by decide +kernel⟩
theorem cut_tail (x : V) (l : List V) : cutV (x :: l) (some 1) none = l := by
 have e1 : HT.sIx (x :: l).length 0 (some 1) = 1 := by
  unfold HT.sIx
  simp
 have e2 : HT.sIx (x :: l).length (x :: l).length none = (x :: l).length := by
  unfold HT.sIx
  rfl
 unfold cutV
 rw [e1, e2, List.drop_one, List.tail_cons, List.length_cons, Nat.add_sub_cancel, List.take_length]
noncomputable def spRm : Sp := fun vs H Q _ => ∃ m, vs = [.str (memS m)] ∧ MemT m ∧ Low m ∧ ∀ v H', Same H H' → Is H' (eMem m) v → Q v H'
noncomputable def spRh : Sp := fun vs H Q _ => ∃ b i j, vs = [.ref b] ∧ Num i ∧ Num j ∧ H b = some (.lst [.str "BOXES", .str (nS i), .str "WALLS", .str (nS j)]) ∧ ∀ p H', Same H H' → H' p = some (.tup [.int i, .int j]) → Q (.ref p) H'
noncomputable def spRc : Sp := fun vs H Q _ => ∃ b c, vs = [.ref b] ∧ CalT c ∧ (∀ m ∈ c.2, Low m) ∧ H b = some (.lst ((nS c.1 :: c.2.map memS).map V.str)) ∧ ∀ v H', Same H H' → Is H' (eC c) v → Q v H'
section
variable {P : Program} {w : World} {K : PySem.W.Frag} {mg : Str → Option Value} {base : Heap}
theorem sc_readMember : FnScope ["word", "parts", "mode"] ["word"] (defScope s_readMember) := ⟨rfl, rfl, rfl, by decide +kernel, rfl, by decide +kernel, by decide +kernel⟩
theorem ok_readMember (D : Def K mg "read_member" s_readMember) (T : Txt K mg) (o1 : Ok P w K mg base "read_word" 3 ["form", "word"] spRw) (o2 : Ok P w K mg base "need_read" 1 ["value"] spNr) : Ok P w K mg base "read_member" 4 ["word"] spRm := by
 refine mkOk D sc_readMember (fun _ _ _ _ _ _ us hl => (match us, hl with | [_], _ => rfl)) (fun vs H Q E ⟨_, e, _⟩ => by rw [e]; rfl) fun f cdv A outer s H vs Q E hr h => ?_
 obtain ⟨m, rfl, hm, hl, k⟩ := h
 have nd := sc_readMember.nd
 have r1 := hr.mono (show 1 ≤ 3 by decide)
 obtain ⟨am, hmm, hM⟩ := T.MODES
 refine ⟨_, pss_cons (ps_set (i := 1) nd rfl (Or.inl rfl) (pe_bm PySem.F.plainAttrs_str PySem.F.slot_str_partition PySem.F.type_str_partition mt_part (pv 0) (pa_cons pe_str pa_nil)))
  (pss_cons (ps_set (i := 2) nd rfl (Or.inl rfl) (pe_ifExp (pt_cmpR op_in_seq (pe_ix ix_tup (pv 1) pe_int (fun _ _ => rfl)) (pe_glob (v := .ref am) rfl hmm rfl) rfl) (pe_ix ix_tup (pv 1) pe_int (fun _ _ => rfl)) pe_non))
  (pss_one (ps_ret (pe_tup (pa_cons (pe_fn o2 r1 (pa_cons (pe_fn o1 hr (pa_cons pe_str (pa_cons (pe_ix ix_tup (pv 1) pe_int (fun _ _ => rfl)) pa_nil))) pa_nil)) (pa_cons (pe_fn o2 r1 (pa_cons (pv 2) pa_nil)) pa_nil)))))), ?_⟩
 obtain ⟨i, r, h1, h2, h3⟩ := part_mem hm hl
 have hml := memS_len hm
 refine ⟨_, rfl, rfl, memS m, ":", i, r, rfl, rfl, rfl, small_le (by omega), h1, fun p H1 s1 hp g1 => ?_⟩
 rw [h2, h3] at g1
 have hin : inV (.str m.2) [.str "both", .str "come", .str "go"] = true := by
  rcases hm.2 with e | e | e <;> rw [e] <;> decide +kernel
 refine ⟨_, rfl, p, _, _, _, rfl, rfl, SqT.of g1, at2, am, _, rfl, .inr (hM H1), rfl, rfl, _, rfl, ?_⟩
 rw [if_neg Bool.false_ne_true, hin]
 refine iteT ⟨_, rfl, p, _, _, _, rfl, rfl, SqT.of g1, at2, ?_⟩
 refine ⟨_, rfl, p, _, _, _, rfl, rfl, SqT.of g1, at0, "number", nS m.1, .int m.1, rfl, .inl ⟨rfl, m.1, rfl, hm.1, rfl⟩, fun H2 s2 => ⟨_, rfl, rfl, _, rfl, _, rfl, rfl, by show 2 ≤ sizeLine; decide, fun q hq => ?_⟩⟩
 exact k _ _ (s1.trans (s2.trans (Same.new hq _))) ⟨q, _, rfl, upd_same, IsL.two rfl rfl⟩
theorem sc_readHead : FnScope ["words", "fits"] ["words"] (defScope s_readHead) := ⟨rfl, rfl, rfl, by decide +kernel, rfl, by decide +kernel, by decide +kernel⟩
theorem ok_readHead (D : Def K mg "read_head" s_readHead) (T : Txt K mg) (o1 : Ok P w K mg base "read_words" 4 ["forms", "words"] (spRws K)) (o2 : Ok P w K mg base "need_read" 1 ["value"] spNr) : Ok P w K mg base "read_head" 5 ["words"] spRh := by
 refine mkOk D sc_readHead (fun _ _ _ _ _ _ us hl => (match us, hl with | [_], _ => rfl)) (fun vs H Q E ⟨_, _, _, e, _⟩ => by rw [e]; rfl) fun f cdv A outer s H vs Q E hr h => ?_
 obtain ⟨b, i, j, rfl, hi, hj, hb, k⟩ := h
 have nd := sc_readHead.nd
 have r1 := hr.mono (show 1 ≤ 4 by decide)
 refine ⟨_, pss_cons (ps_set (i := 1) nd rfl (Or.inl rfl) (pe_cmpR (op_eqTr hr.units) (pe_even (pv 0)) (pe_lst (pa_cons pe_str (pa_cons pe_str pa_nil))) (nomark _)))
  (pss_one (ps_ret (pe_callTy call_tuple_of rfl T.tuple bt_tuple (pa_cons (pe_fn o2 r1 (pa_cons (pe_ifExp (pt_val (pv 1)) (pe_fn o1 hr (pa_cons (pe_tup (pa_cons pe_str (pa_cons pe_str pa_nil))) (pa_cons (pe_odd (pv 0)) pa_nil))) pe_non) pa_nil)) pa_nil)))), ?_⟩
 refine ⟨_, rfl, b, _, _, _, _, rfl, SqL.of hb, fun p hp => ?_⟩
 have s1 := Same.new hp (.lst [.str "BOXES", .str "WALLS"])
 have g1 : upd H p (.lst [.str "BOXES", .str "WALLS"]) p = some (.lst [.str "BOXES", .str "WALLS"]) := upd_same
 generalize upd H p (.lst [.str "BOXES", .str "WALLS"]) = H1 at s1 g1 ⊢
 refine ⟨by show 2 ≤ sizeLine; decide, fun p2 hp2 => ?_⟩
 have s2 := Same.new hp2 (.lst [.str "BOXES", .str "WALLS"])
 have g2 : upd H1 p2 (.lst [.str "BOXES", .str "WALLS"]) p2 = some (.lst [.str "BOXES", .str "WALLS"]) := upd_same
 generalize upd H1 p2 (.lst [.str "BOXES", .str "WALLS"]) = H2 at s2 g2 ⊢
 refine ⟨.lst [.str "BOXES", .str "WALLS"], .lst [.str "BOXES", .str "WALLS"], ⟨p, _, rfl, s2 _ _ g1, IsL.two rfl rfl⟩, ⟨p2, _, rfl, g2, IsL.two rfl rfl⟩, by decide +kernel, by decide +kernel, by decide +kernel, ?_⟩
 have e : PyData.eqv (toD (.lst [.str "BOXES", .str "WALLS"])) (toD (.lst [.str "BOXES", .str "WALLS"])) = true := by decide +kernel
 rw [e]
 have s02 := s1.trans s2
 refine ⟨_, rfl, _, rfl, iteT ⟨by show 2 ≤ sizeLine; decide, fun p3 hp3 => ?_⟩⟩
 have s3 := Same.new hp3 (.tup [.str "number", .str "number"])
 have g3 : upd H2 p3 (.tup [.str "number", .str "number"]) p3 = some (.tup [.str "number", .str "number"]) := upd_same
 generalize upd H2 p3 (.tup [.str "number", .str "number"]) = H3 at s3 g3 ⊢
 have s03 := s02.trans s3
 refine ⟨_, rfl, b, _, _, _, _, rfl, SqL.of (s03 _ _ hb), fun p4 hp4 => ?_⟩
 have s4 := Same.new hp4 (.lst [.str (nS i), .str (nS j)])
 have g4 : upd H3 p4 (.lst [.str (nS i), .str (nS j)]) p4 = some (.lst [.str (nS i), .str (nS j)]) := upd_same
 generalize upd H3 p4 (.lst [.str (nS i), .str (nS j)]) = H4 at s4 g4 ⊢
 refine ⟨p3, p4, [("number", nS i, .int i), ("number", nS j, .int j)], rfl, ⟨fun r hr => ?_, by show 2 ≤ 10; decide, SqT.of (s4 _ _ g3), g4⟩, fun l H5 s5 g5 => ?_⟩
 · rcases List.mem_cons.mp hr with rfl | hr
   · exact .inl ⟨rfl, i, rfl, hi, rfl⟩
   · rw [List.mem_singleton.mp hr]
     exact .inl ⟨rfl, j, rfl, hj, rfl⟩
 refine ⟨_, rfl, rfl, l, _, rfl, .inl ⟨SqL.of g5, fun q hq => ?_⟩⟩
 exact k q _ (s03.trans (s4.trans (s5.trans (Same.new hq _)))) upd_same
theorem sc_readCalling : FnScope ["words", "number"] ["words"] (defScope s_readCalling) := ⟨rfl, rfl, rfl, by decide +kernel, rfl, by decide +kernel, by decide +kernel⟩
theorem ok_readCalling (D : Def K mg "read_calling" s_readCalling) (T : Txt K mg) (o1 : Ok P w K mg base "read_word" 3 ["form", "word"] spRw) (o2 : Ok P w K mg base "need_read" 1 ["value"] spNr) (o3 : Ok P w K mg base "read_member" 4 ["word"] spRm) : Ok P w K mg base "read_calling" 5 ["words"] spRc := by
 refine mkOk D sc_readCalling (fun _ _ _ _ _ _ us hl => (match us, hl with | [_], _ => rfl)) (fun vs H Q E ⟨_, _, e, _⟩ => by rw [e]; rfl) fun f cdv A outer s H vs Q E hr h => ?_
 obtain ⟨b, c, rfl, hc, hlow, hb, k⟩ := h
 have nd := sc_readCalling.nd
 have r1 := hr.mono (show 1 ≤ 4 by decide)
 have r3 := hr.mono (show 3 ≤ 4 by decide)
 refine ⟨_, pss_cons (ps_set (i := 1) nd rfl (Or.inl rfl) (pe_ifExp (pt_truth (pv 0) (fun _ => rfl)) (pe_fn o1 r3 (pa_cons pe_str (pa_cons (pe_ix ix_list (pv 0) pe_int (fun _ _ => rfl)) pa_nil))) pe_non))
  (pss_one (ps_ret (pe_tup (pa_cons (pe_fn o2 r1 (pa_cons (pv 1) pa_nil)) (pa_cons (pe_callTy call_tuple_of rfl T.tuple bt_tuple (pa_cons (pe_lc (own := ["word"]) (cap := []) rfl (lcScope (defScope s_readCalling) rfl rfl (by decide +kernel) (by decide +kernel) (by decide +kernel) trivial) (pi_list (pe_slice sl_list (pv 0) (po_some pe_int) po_none))
   (fun _ _ _ _ => pg_name (i := 0) (by show (["word"] : List Str).Nodup; decide +kernel) rfl (Or.inl rfl)) (fun _ _ _ _ => pif_nil) (fun _ _ _ _ => pe_fn o3 hr (pa_cons (pv 0) pa_nil))) pa_nil)) pa_nil))))), ?_⟩
 refine ⟨_, rfl, true, .inl ⟨_, SqL.of hb, rfl⟩, iteT ⟨_, rfl, b, _, _, _, rfl, rfl, SqL.of hb, at0, "number", nS c.1, .int c.1, rfl, .inl ⟨rfl, c.1, rfl, cal_num hc, rfl⟩, fun H1 s1 => ?_⟩⟩
 refine ⟨_, rfl, _, rfl, rfl, _, rfl, _, rfl, b, _, rfl, SqL.of (s1 _ _ hb), fun p hp => ?_⟩
 rw [List.map_cons, cut_tail]
 have s2 := Same.new hp (.lst ((c.2.map memS).map V.str))
 have g2 : upd H1 p (.lst ((c.2.map memS).map V.str)) p = some (.lst ((c.2.map memS).map V.str)) := upd_same
 generalize upd H1 p (.lst ((c.2.map memS).map V.str)) = H2 at s2 g2 ⊢
 have hc10 := hc.2.1
 refine ⟨p, rfl, ⟨_, SqL.of g2⟩, ?_⟩
 refine lc_list (xs := (c.2.map memS).map V.str) (fun i ys H' => Same H2 H' ∧ L2.IsL H' ((c.2.take i).map eMem) ys) ⟨Same.refl H2, rfl⟩ (fun i ys H' hi ⟨s', e⟩ => ⟨SqL.of (s' _ _ g2), by rw [e.length, List.length_map, List.length_take]; exact small_le (by omega)⟩) ?_ ?_
 · rintro i y ys H' hy ⟨s', e⟩
   refine gIf0 ?_
   rw [List.getElem?_map, List.getElem?_map] at hy
   cases em : c.2[i]? with
   | none => rw [em] at hy; cases hy
   | some m =>
   rw [em] at hy
   cases hy
   refine ⟨_, rfl, m, rfl, hc.2.2 m (List.mem_of_getElem? em), hlow m (List.mem_of_getElem? em), fun v H3 s3 iv => ⟨s'.trans s3, ?_⟩⟩
   rw [List.take_add_one, em, List.map_append]
   exact IsL.append (e.mono s3) (IsL.one iv)
 rintro ys H3 ⟨s3, e⟩ l hl
 rw [List.length_map, List.length_map, List.take_length] at e
 have s4 := Same.new hl (.lst ys)
 have g4 : upd H3 l (.lst ys) l = some (.lst ys) := upd_same
 generalize upd H3 l (.lst ys) = H4 at s4 g4 ⊢
 refine ⟨l, ys, rfl, .inl ⟨SqL.of g4, fun q hq => ?_⟩⟩
 have s5 := Same.new hq (.tup ys)
 have g5 : upd H4 q (.tup ys) q = some (.tup ys) := upd_same
 generalize upd H4 q (.tup ys) = H5 at s5 g5 ⊢
 refine ⟨by show 2 ≤ sizeLine; decide, fun z hz => ?_⟩
 have s6 := Same.new hz (.tup [.int c.1, .ref q])
 exact k _ _ (s1.trans (s2.trans (s3.trans (s4.trans (s5.trans s6))))) ⟨z, _, rfl, upd_same, IsL.two rfl ⟨q, ys, rfl, s6 _ _ g5, ((e.mono s4).mono s5).mono s6⟩⟩
end
end My
set_option maxHeartbeats 1000000
namespace My
open PySem PySem.Spec PyProof.Rows L2
abbrev s_readDeed : Stmt := top 56
noncomputable def LowD : Deed → Prop
 | .beg _ ms => ∀ m ∈ ms, Low m
 | _ => True
noncomputable def DeedsK (w : World) (K : PySem.W.Frag) (mg : Str → Option Value) : Prop := ∃ ad b0 b1 b2 b3 b4 b5 b6, mg "DEEDS" = some (.ref ad) ∧
 KDict w K ad [("raise", .ref b0), ("await", .ref b1), ("come", .ref b2), ("go", .ref b3), ("leave", .ref b4), ("work", .ref b5), ("say", .ref b6)] ∧
 ∀ H, SqT K H b0 [.str "number", .str "number"] ∧ SqT K H b1 [.str "number", .str "number"] ∧ SqT K H b2 [.str "number"] ∧ SqT K H b3 [.str "number"] ∧ SqT K H b4 [.str "number"] ∧ SqT K H b5 [.str "number"] ∧ SqT K H b6 [.str "letters"]
structure DGt (K : PySem.W.Frag) (kvs : List (Str × V)) (d : Deed) (x : Str) (b : Addr) (rows : List (Str × Str × V)) : Prop where
 w : dW d = x :: rows.map fun r => r.2.1
 v : dv d = .str x :: rows.map fun r => r.2.2
 ne : x ≠ "begin"
 g : valV kvs x = some (.ref b)
 f : ∀ H, SqT K H b (rows.map fun r => V.str r.1)
 each : ∀ r ∈ rows, WdV r.1 r.2.1 r.2.2
 few : rows.length ≤ 2
 some' : rows ≠ []
theorem wd1 {n : Int} (h : Num n) : ∀ r ∈ ([("number", nS n, .int n)] : List (Str × Str × V)), WdV r.1 r.2.1 r.2.2 := fun r hr => by
 rw [List.mem_singleton.mp hr]
 exact .inl ⟨rfl, n, rfl, h, rfl⟩
theorem wd2 {n m : Int} (h : Num n) (h' : Num m) : ∀ r ∈ ([("number", nS n, .int n), ("number", nS m, .int m)] : List (Str × Str × V)), WdV r.1 r.2.1 r.2.2 := fun r hr => by
 rcases List.mem_cons.mp hr with rfl | hr
 · exact .inl ⟨rfl, n, rfl, h, rfl⟩
 · exact wd1 h' r hr
theorem deeds_get {w : World} {K : PySem.W.Frag} {mg : Str → Option Value} (B : DeedsK w K mg) : ∃ ad kvs, mg "DEEDS" = some (.ref ad) ∧ KDict w K ad kvs ∧ ∀ d, DedT d → isBg d = false → ∃ x b rows, DGt K kvs d x b rows := by
 obtain ⟨ad, b0, b1, b2, b3, b4, b5, b6, hm, hk, hf⟩ := B
 refine ⟨ad, _, hm, hk, fun d hd hb => ?_⟩
 cases d with
 | beg => cases hb
 | rai i j => exact ⟨"raise", b0, [("number", nS i, .int i), ("number", nS j, .int j)], rfl, rfl, by decide, by with_unfolding_all rfl, fun H => (hf H).1, wd2 hd.1 hd.2, by simp, by simp⟩
 | awa i j => exact ⟨"await", b1, [("number", nS i, .int i), ("number", nS j, .int j)], rfl, rfl, by decide, by with_unfolding_all rfl, fun H => (hf H).2.1, wd2 hd.1 hd.2, by simp, by simp⟩
 | com i => exact ⟨"come", b2, [("number", nS i, .int i)], rfl, rfl, by decide, by with_unfolding_all rfl, fun H => (hf H).2.2.1, wd1 hd, by simp, by simp⟩
 | goo i => exact ⟨"go", b3, [("number", nS i, .int i)], rfl, rfl, by decide, by with_unfolding_all rfl, fun H => (hf H).2.2.2.1, wd1 hd, by simp, by simp⟩
 | lea i => exact ⟨"leave", b4, [("number", nS i, .int i)], rfl, rfl, by decide, by with_unfolding_all rfl, fun H => (hf H).2.2.2.2.1, wd1 hd, by simp, by simp⟩
 | wor i => exact ⟨"work", b5, [("number", nS i, .int i)], rfl, rfl, by decide, by with_unfolding_all rfl, fun H => (hf H).2.2.2.2.2.1, wd1 hd, by simp, by simp⟩
 | say x => exact ⟨"say", b6, [("letters", x, .str x)], rfl, rfl, by decide, by with_unfolding_all rfl, fun H => (hf H).2.2.2.2.2.2, fun r hr => by rw [List.mem_singleton.mp hr]; exact .inr ⟨rfl, hd, rfl⟩, by simp, by simp⟩
theorem deed_is {H : Hp} {d : Deed} {q : Addr} (hb : isBg d = false) (h : H q = some (.tup (dv d))) : Is H (eD d) (.ref q) := by
 cases d with
 | beg => cases hb
 | rai i j => exact ⟨q, _, rfl, h, _, _, rfl, rfl, _, _, rfl, rfl, _, _, rfl, rfl, rfl⟩
 | awa i j => exact ⟨q, _, rfl, h, _, _, rfl, rfl, _, _, rfl, rfl, _, _, rfl, rfl, rfl⟩
 | com i => exact ⟨q, _, rfl, h, IsL.two rfl rfl⟩
 | goo i => exact ⟨q, _, rfl, h, IsL.two rfl rfl⟩
 | lea i => exact ⟨q, _, rfl, h, IsL.two rfl rfl⟩
 | wor i => exact ⟨q, _, rfl, h, IsL.two rfl rfl⟩
 | say x => exact ⟨q, _, rfl, h, IsL.two rfl rfl⟩
noncomputable def spRd : Sp := fun vs H Q _ => ∃ b d, vs = [.ref b] ∧ DedT d ∧ LowD d ∧ H b = some (.lst ((dW d).map V.str)) ∧ ∀ v H', Same H H' → Is H' (eD d) v → Q v H'
section
variable {P : Program} {w : World} {K : PySem.W.Frag} {mg : Str → Option Value} {base : Heap}
theorem sc_readDeed : FnScope ["words", "forms"] ["words"] (defScope s_readDeed) := ⟨rfl, rfl, rfl, by decide +kernel, rfl, by decide +kernel, by decide +kernel⟩
theorem ok_readDeed (D : Def K mg "read_deed" s_readDeed) (T : Txt K mg) (B : DeedsK w K mg) (o1 : Ok P w K mg base "read_calling" 5 ["words"] spRc) (o2 : Ok P w K mg base "need_read" 1 ["value"] spNr) (o3 : Ok P w K mg base "read_words" 4 ["forms", "words"] (spRws K)) : Ok P w K mg base "read_deed" 6 ["words"] spRd := by
 refine mkOk D sc_readDeed (fun _ _ _ _ _ _ us hl => (match us, hl with | [_], _ => rfl)) (fun vs H Q E ⟨_, _, e, _⟩ => by rw [e]; rfl) fun f cdv A outer s H vs Q E hr h => ?_
 obtain ⟨b, d, rfl, hd, hlow, hb, k⟩ := h
 have nd := sc_readDeed.nd
 have r1 := hr.mono (show 1 ≤ 5 by decide)
 have r4 := hr.mono (show 4 ≤ 5 by decide)
 obtain ⟨ad, kvs, hdd, hkd, hget⟩ := deeds_get B
 refine ⟨_, pss_cons (ps_if (pt_cmpR op_eq (pe_ix ix_list (pv 0) pe_int (fun _ _ => rfl)) pe_str (nomark _)) (pss_one (ps_ret (pe_op op_catT (pe_tup (pa_cons pe_str pa_nil)) (pe_fn o1 hr (pa_cons (pe_slice sl_list (pv 0) (po_some pe_int) po_none) pa_nil))))) pss_nil)
  (pss_cons (ps_set (i := 1) nd rfl (Or.inl rfl) (pe_fn o2 r1 (pa_cons (pe_dgetK (pe_glob (v := .ref ad) rfl hdd rfl) (pe_ix ix_list (pv 0) pe_int (fun _ _ => rfl)) ⟨rfl, rfl, rfl, rfl⟩) pa_nil)))
  (pss_one (ps_ret (pe_op op_catT (pe_tup (pa_cons (pe_ix ix_list (pv 0) pe_int (fun _ _ => rfl)) pa_nil)) (pe_callTy call_tuple_of rfl T.tuple bt_tuple (pa_cons (pe_fn o2 r1 (pa_cons (pe_fn o3 r4 (pa_cons (pv 1) (pa_cons (pe_slice sl_list (pv 0) (po_some pe_int) po_none) pa_nil))) pa_nil)) pa_nil)))))), ?_⟩
 cases hbg : isBg d with
 | true =>
   obtain ⟨n, ms, rfl⟩ : ∃ n ms, d = .beg n ms := by
    cases d with
    | beg n ms => exact ⟨n, ms, rfl⟩
    | _ => cases hbg
   have hb' : H b = some (.lst (.str "begin" :: (nS n :: ms.map memS).map V.str)) := hb
   refine ⟨_, rfl, b, _, _, _, rfl, rfl, SqL.of hb', at0, rfl, _, rfl, ?_⟩
   rw [decide_eq_true rfl]
   refine iteT ⟨by show 1 ≤ sizeLine; decide, fun p hp => ?_⟩
   have s1 := Same.new hp (.tup [.str "begin"])
   have g1 : upd H p (.tup [.str "begin"]) p = some (.tup [.str "begin"]) := upd_same
   generalize upd H p (.tup [.str "begin"]) = H1 at s1 g1 ⊢
   refine ⟨_, rfl, 1, rfl, b, _, rfl, SqL.of (s1 _ _ hb'), fun p2 hp2 => ?_⟩
   rw [cut_tail]
   have s2 := Same.new hp2 (.lst ((nS n :: ms.map memS).map V.str))
   have g2 : upd H1 p2 (.lst ((nS n :: ms.map memS).map V.str)) p2 = some (.lst ((nS n :: ms.map memS).map V.str)) := upd_same
   generalize upd H1 p2 (.lst ((nS n :: ms.map memS).map V.str)) = H2 at s2 g2 ⊢
   refine ⟨p2, (n, ms), rfl, hd, hlow, g2, fun v H3 s3 iv => ?_⟩
   obtain ⟨bc, bm, xs, rfl, hbc, hbm, hxs⟩ := cal_open iv
   refine ⟨p, bc, _, _, rfl, rfl, SqT.of (s3 _ _ (s2 _ _ g1)), SqT.of hbc, by simp, by show 3 ≤ sizeLine; decide, fun z => (by cases z), fun _ q hq => ?_⟩
   have s4 := Same.new hq (.tup ([.str "begin"] ++ [.int n, .ref bm]))
   exact k _ _ (s1.trans (s2.trans (s3.trans s4))) ⟨q, _, rfl, upd_same, _, _, rfl, rfl, _, _, rfl, rfl, _, _, rfl, ⟨bm, xs, rfl, s4 _ _ hbm, hxs.mono s4⟩, rfl⟩
 | false =>
   obtain ⟨x, bx, rows, G⟩ := hget d hd hbg
   have hb' := hb
   rw [G.w, List.map_cons, List.map_map] at hb'
   have hfew := G.few
   refine ⟨_, rfl, b, _, _, _, rfl, rfl, SqL.of hb', at0, rfl, _, rfl, ?_⟩
   rw [vs_ne G.ne]
   refine iteF ⟨ad, kvs, rfl, hkd, _, rfl, b, _, _, _, rfl, rfl, SqL.of hb', at0, x, rfl, ?_⟩
   rw [G.g]
   refine ⟨_, rfl, rfl, ?_⟩
   refine ⟨_, rfl, b, _, _, _, rfl, rfl, SqL.of hb', at0, by show 1 ≤ sizeLine; decide, fun p hp => ?_⟩
   have s1 := Same.new hp (.tup [.str x])
   have g1 : upd H p (.tup [.str x]) p = some (.tup [.str x]) := upd_same
   generalize upd H p (.tup [.str x]) = H1 at s1 g1 ⊢
   refine ⟨_, rfl, _, rfl, 1, rfl, b, _, rfl, SqL.of (s1 _ _ hb'), fun p2 hp2 => ?_⟩
   rw [cut_tail]
   have s2 := Same.new hp2 (.lst (rows.map (V.str ∘ fun r => r.2.1)))
   have g2 : upd H1 p2 (.lst (rows.map (V.str ∘ fun r => r.2.1))) p2 = some (.lst (rows.map (V.str ∘ fun r => r.2.1))) := upd_same
   generalize upd H1 p2 (.lst (rows.map (V.str ∘ fun r => r.2.1))) = H2 at s2 g2 ⊢
   refine ⟨bx, p2, rows, rfl, ⟨G.each, by omega, G.f _, g2⟩, fun l H3 s3 g3 => ?_⟩
   refine ⟨_, rfl, rfl, l, _, rfl, .inl ⟨SqL.of g3, fun q hq => ?_⟩⟩
   have s4 := Same.new hq (.tup (rows.map fun r => r.2.2))
   have g4 : upd H3 q (.tup (rows.map fun r => r.2.2)) q = some (.tup (rows.map fun r => r.2.2)) := upd_same
   generalize upd H3 q (.tup (rows.map fun r => r.2.2)) = H4 at s4 g4 ⊢
   have hne : (rows.map fun r => r.2.2) ≠ [] := fun z => G.some' (List.map_eq_nil_iff.mp z)
   refine ⟨p, q, _, _, rfl, rfl, SqT.of (s4 _ _ (s3 _ _ (s2 _ _ g1))), SqT.of g4, by simp, ?_, fun z => absurd z hne, fun _ u hu => ?_⟩
   · rw [List.length_map]; exact small_le (by show 1 + _ ≤ 1000; omega)
   have s5 := Same.new hu (.tup ([.str x] ++ rows.map fun r => r.2.2))
   refine k _ _ (s1.trans (s2.trans (s3.trans (s4.trans s5)))) (deed_is hbg ?_)
   rw [upd_same, G.v]
   rfl
end
end My
set_option maxHeartbeats 1000000
namespace My
open PySem PySem.Spec PyProof.Rows L2
noncomputable def Clean (x : Str) : Prop := ∀ c ∈ x.cps.toList, 48 ≤ c ∧ c ≤ 122
theorem clean_app {x y : Str} (hx : Clean x) (hy : Clean y) : Clean (x ++ y) := fun c hc => by
 have hc' : c ∈ (x.cps ++ y.cps).toList := hc
 rw [Array.toList_append] at hc'
 rcases List.mem_append.mp hc' with h | h
 · exact hx c h
 · exact hy c h
theorem clean_num {n : Int} (h : Num n) : Clean (nS n) := fun c hc => by
 have := num_dig h.1 h.2 hc
 omega
theorem clean_lit {x : Str} (h : (x.cps.toList.all fun c => decide (48 ≤ c ∧ c ≤ 122)) = true) : Clean x := fun c hc => of_decide_eq_true (List.all_eq_true.mp h c hc)
theorem clean_mem {m : Mem} (h : MemT m) : Clean (memS m) := by
 refine clean_app (clean_app (clean_num h.1) (clean_lit (by decide +kernel))) ?_
 rcases h.2 with e | e | e <;> rw [e] <;> exact clean_lit (by decide +kernel)
theorem clean_cW {x : Str} {c : Calling} (hx : Clean x) (h : CalT c) : ∀ t ∈ cW x c, Clean t := fun t ht => by
 rcases List.mem_cons.mp ht with rfl | ht
 · exact hx
 rcases List.mem_cons.mp ht with rfl | ht
 · exact clean_num (cal_num h)
 · obtain ⟨m, hm, rfl⟩ := List.mem_map.mp ht
   exact clean_mem (h.2.2 m hm)
theorem clean2 {x y : Str} (hx : Clean x) (hy : Clean y) : ∀ t ∈ [x, y], Clean t := fun t ht => by
 rcases List.mem_cons.mp ht with rfl | ht
 · exact hx
 · rw [List.mem_singleton.mp ht]; exact hy
theorem clean3 {x y z : Str} (hx : Clean x) (hy : Clean y) (hz : Clean z) : ∀ t ∈ [x, y, z], Clean t := fun t ht => by
 rcases List.mem_cons.mp ht with rfl | ht
 · exact hx
 · exact clean2 hy hz t ht
theorem clean_four {x : Str} (h : Four x) : Clean x := by
 rcases h with rfl | rfl | rfl | rfl <;> exact clean_lit (by decide +kernel)
theorem clean_dW {d : Deed} (h : DedT d) : ∀ t ∈ dW d, Clean t := by
 cases d with
 | rai i j => exact clean3 (clean_lit (by decide +kernel)) (clean_num h.1) (clean_num h.2)
 | awa i j => exact clean3 (clean_lit (by decide +kernel)) (clean_num h.1) (clean_num h.2)
 | com i => exact clean2 (clean_lit (by decide +kernel)) (clean_num h)
 | goo i => exact clean2 (clean_lit (by decide +kernel)) (clean_num h)
 | lea i => exact clean2 (clean_lit (by decide +kernel)) (clean_num h)
 | wor i => exact clean2 (clean_lit (by decide +kernel)) (clean_num h)
 | say x => exact clean2 (clean_lit (by decide +kernel)) (clean_four h)
 | beg n ms => exact clean_cW (clean_lit (by decide +kernel)) h
inductive Row
 | scr
 | ded (d : Deed)
 | fst (c : Calling)
noncomputable def rW : Row → List Str
 | .scr => ["SCRIPT"]
 | .ded d => dW d
 | .fst c => cW "FIRST" c
noncomputable def RowT : Row → Prop
 | .scr => True
 | .ded d => DedT d ∧ LowD d
 | .fst c => CalT c ∧ ∀ m ∈ c.2, Low m
noncomputable def scrR (s : Script) : List Row := .scr :: s.map .ded
noncomputable def rowsR (h : House) : List Row := h.ss.flatMap scrR ++ h.fs.map .fst
theorem rows_R (h : House) : rowsW h = headW h :: (rowsR h).map rW := by
 unfold rowsW rowsR
 rw [List.map_append, List.map_map]
 congr 2
 · unfold rowsS
   rw [List.map_flatMap]
   congr 1
   funext s
   show _ = [("SCRIPT" : Str)] :: (s.map Row.ded).map rW
   rw [List.map_map]
   rfl
inductive Run (ss : List Script) (fs : List Calling) : List Script → List Calling → List Row → Prop
 | done : Run ss fs ss fs []
 | scr {a r} : Run ss fs (a ++ [[]]) [] r → Run ss fs a [] (.scr :: r)
 | ded {a s d r} : Run ss fs (a ++ [s ++ [d]]) [] r → Run ss fs (a ++ [s]) [] (.ded d :: r)
 | fst {a cs c r} : Run ss fs a (cs ++ [c]) r → Run ss fs a cs (.fst c :: r)
theorem run_fst {ss : List Script} {fs : List Calling} : ∀ (r : List Calling) (cs : List Calling), cs ++ r = fs → Run ss fs ss cs (r.map .fst)
 | [], cs, e => by rw [← e, List.append_nil]; exact .done
 | c :: r, cs, e => .fst (run_fst r (cs ++ [c]) (by rw [← e]; simp))
theorem run_ded {ss : List Script} {fs : List Calling} {a : List Script} {rest : List Row} : ∀ (ds : List Deed) (s : Script), Run ss fs (a ++ [s ++ ds]) [] rest → Run ss fs (a ++ [s]) [] (ds.map .ded ++ rest)
 | [], s, h => by rw [List.append_nil] at h; exact h
 | d :: ds, s, h => .ded (run_ded ds (s ++ [d]) (by rw [List.append_assoc]; exact h))
theorem run_scr {ss : List Script} {fs : List Calling} {rest : List Row} : ∀ (l a : List Script), Run ss fs (a ++ l) [] rest → Run ss fs a [] (l.flatMap scrR ++ rest)
 | [], a, h => by rw [List.append_nil] at h; exact h
 | s :: l, a, h => by
   rw [List.flatMap_cons, List.append_assoc]
   refine .scr (run_ded s [] ?_)
   rw [List.nil_append]
   exact run_scr l (a ++ [s]) (by rw [List.append_assoc]; exact h)
theorem run_all (h : House) : Run h.ss h.fs [] [] (rowsR h) := run_scr h.ss [] (run_fst h.fs [] rfl)
end My
set_option maxHeartbeats 1000000
namespace My
open PySem PySem.Spec PyProof.Rows L2
noncomputable def strL (ws : List Str) : T := .lst (ws.map T.str)
theorem str_ok {x : Str} (h : Clean x) : (PyData.str x).canLay0 = true := by
 show x.cps.all (· < 0x110000) = true
 rw [← Array.all_toList]
 exact List.all_eq_true.mpr fun c hc => decide_eq_true (by have := (h c hc).2; omega)
theorem lay_strs : ∀ {ws : List Str}, (∀ t ∈ ws, Clean t) → PyData.canLayAll0 (toDs (ws.map T.str)) = true
 | [], _ => rfl
 | x :: r, h => by
   rw [List.map_cons]
   unfold toDs toD PyData.canLayAll0
   rw [Bool.and_eq_true]
   exact ⟨str_ok (h x List.mem_cons_self), lay_strs fun t ht => h t (List.mem_cons_of_mem _ ht)⟩
theorem lay_strL {ws : List Str} (h : ∀ t ∈ ws, Clean t) : (toD (strL ws)).canLay0 = true := by
 unfold strL toD PyData.canLay0
 exact lay_strs h
theorem depth_strs : ∀ ws : List Str, PyData.depthAll (toDs (ws.map T.str)) = 0
 | [] => rfl
 | x :: r => by
   rw [List.map_cons]
   unfold toDs toD PyData.depthAll
   rw [depth_strs r]
   rfl
theorem depth_strL (ws : List Str) : (toD (strL ws)).depth ≤ 20 := by
 unfold strL toD PyData.depth
 rw [depth_strs]
 decide
theorem eqv_ne {x : Str} {r : List Str} (h : x ≠ "SCRIPT") : PyData.eqv (toD (strL (x :: r))) (toD (strL [("SCRIPT" : Str)])) = false := by
 simp [strL, toD, toDs, PyData.eqv, PyData.eqvAll, h]
theorem is_strs {H : Hp} : ∀ ws : List Str, L2.IsL H (ws.map T.str) (ws.map V.str)
 | [] => rfl
 | x :: r => ⟨_, _, rfl, rfl, is_strs r⟩
theorem is_strL {H : Hp} {a : Addr} {ws : List Str} (h : H a = some (.lst (ws.map V.str))) : Is H (strL ws) (.ref a) := ⟨a, _, rfl, h, is_strs ws⟩
structure Rd2 (H H' : Hp) (ls lf : Addr) (n : Nat) (a : List Script) (cs : List Calling) (ps : List Addr) (ys : List V) : Prop where
 same : Same H H'
 s : H' ls = some (.lst (ps.map V.ref))
 nd : ps.Nodup
 sl : ps.length = a.length
 each : ∀ (k : Nat) (p : Addr) (s : Script), ps[k]? = some p → a[k]? = some s → H p = none ∧ p ≠ ls ∧ p ≠ lf ∧ ∃ xs, H' p = some (.lst xs) ∧ L2.IsL H' (s.map eD) xs
 f : H' lf = some (.lst ys)
 fl : L2.IsL H' (cs.map eC) ys
 la : a.length ≤ n
 lc : cs.length ≤ n
 ld : ∀ s ∈ a, s.length ≤ n
section
variable {H H' H'' : Hp} {ls lf : Addr} {n : Nat} {a : List Script} {cs : List Calling} {ps : List Addr} {ys : List V}
theorem Rd2.mono (R : Rd2 H H' ls lf n a cs ps ys) (s : Same H' H'') : Rd2 H H'' ls lf n a cs ps ys :=
 ⟨R.same.trans s, s _ _ R.s, R.nd, R.sl, fun k p t h1 h2 => by
  obtain ⟨q1, q2, q3, xs, q4, q5⟩ := R.each k p t h1 h2
  exact ⟨q1, q2, q3, xs, s _ _ q4, q5.mono s⟩, s _ _ R.f, R.fl.mono s, R.la, R.lc, R.ld⟩
theorem same_upd {z : Addr} {o : HO} (s : Same H H') (hz : H z = none) : Same H (upd H' z o) := fun b u e => by rw [upd_ne (ne_of_none e hz)]; exact s _ _ e
theorem Rd2.first {c : Calling} {v : V} (R : Rd2 H H' ls lf n a cs ps ys) (hlf : H lf = none) (hne : ls ≠ lf) (iv : Is H' (eC c) v) : Rd2 H (upd H' lf (.lst (ys ++ [v]))) ls lf (n + 1) a (cs ++ [c]) ps (ys ++ [v]) := by
 have tp : Tups H' (upd H' lf (.lst (ys ++ [v]))) := Tups.upd R.f (fun zs z => by cases z)
 refine ⟨same_upd R.same hlf, by rw [upd_ne hne]; exact R.s, R.nd, R.sl, fun k p t h1 h2 => ?_, upd_same, ?_, Nat.le_succ_of_le R.la, ?_, fun s hs => Nat.le_succ_of_le (R.ld s hs)⟩
 · obtain ⟨q1, q2, q3, xs, q4, q5⟩ := R.each k p t h1 h2
   exact ⟨q1, q2, q3, xs, by rw [upd_ne q3]; exact q4, q5.tups tp (froDs t)⟩
 · rw [List.map_append]
   have h1 := R.fl.tups tp (froC cs)
   have h2 : L2.IsL (upd H' lf (.lst (ys ++ [v]))) [eC c] [v] := (show L2.IsL H' [eC c] [v] from IsL.one iv).tups tp (froC [c])
   exact IsL.append h1 h2
 · rw [List.length_append]; exact Nat.succ_le_succ R.lc
theorem Rd2.script {p : Addr} (R : Rd2 H H' ls lf n a cs ps ys) (hls : H ls = none) (hne : ls ≠ lf) (hp : H' p = none) : Rd2 H (upd (upd H' p (.lst [])) ls (.lst (ps.map V.ref ++ [.ref p]))) ls lf (n + 1) (a ++ [[]]) cs (ps ++ [p]) ys := by
 have R1 := R.mono (Same.new hp (.lst []))
 have pl : p ≠ ls := fun z => by rw [z, R.s] at hp; cases hp
 have pf : p ≠ lf := fun z => by rw [z, R.f] at hp; cases hp
 have hpp : p ∉ ps := fun hm => by
  obtain ⟨k, hk⟩ := List.mem_iff_getElem?.mp hm
  have hka : k < a.length := by
   have := (List.getElem?_eq_some_iff.mp hk).1
   rw [R.sl] at this
   exact this
  obtain ⟨_, _, _, xs, q4, _⟩ := R.each k p _ hk (List.getElem?_eq_getElem hka)
  rw [hp] at q4
  cases q4
 have hpH : H p = none := by
  cases z : H p with
  | none => rfl
  | some o => rw [R.same _ _ z] at hp; cases hp
 have g1 : upd H' p (.lst []) p = some (.lst []) := upd_same
 generalize upd H' p (.lst []) = H1 at R1 g1 ⊢
 have tp : Tups H1 (upd H1 ls (.lst (ps.map V.ref ++ [.ref p]))) := Tups.upd R1.s (fun zs z => by cases z)
 refine ⟨same_upd R1.same hls, by rw [upd_same, List.map_append]; rfl, ?_, ?_, fun k q t h1 h2 => ?_, by rw [upd_ne (Ne.symm hne)]; exact R1.f, R1.fl.tups tp (froC cs), ?_, Nat.le_succ_of_le R.lc, fun s hs => ?_⟩
 · rw [List.nodup_append]
   refine ⟨R.nd, by simp, fun x hx y hy e => ?_⟩
   rw [List.mem_singleton] at hy
   subst hy e
   exact hpp hx
 · rw [List.length_append, List.length_append, R.sl]; rfl
 · by_cases hk : k < ps.length
   · rw [List.getElem?_append_left hk] at h1
     rw [List.getElem?_append_left (by rw [← R.sl]; exact hk)] at h2
     obtain ⟨q1, q2, q3, xs, q4, q5⟩ := R1.each k q t h1 h2
     exact ⟨q1, q2, q3, xs, by rw [upd_ne q2]; exact q4, q5.tups tp (froDs t)⟩
   · rw [List.getElem?_append_right (by omega)] at h1
     rw [List.getElem?_append_right (by rw [← R.sl]; omega)] at h2
     have hkl := (List.getElem?_eq_some_iff.mp h1).1
     rw [List.length_singleton] at hkl
     have h0 : k - ps.length = 0 := by omega
     rw [h0] at h1
     rw [← R.sl, h0] at h2
     cases h1
     cases h2
     exact ⟨hpH, pl, pf, [], by rw [upd_ne pl]; exact g1, rfl⟩
 · rw [List.length_append]; exact Nat.succ_le_succ R.la
 · rcases List.mem_append.mp hs with h | h
   · exact Nat.le_succ_of_le (R.ld s h)
   · rw [List.mem_singleton.mp h]; exact Nat.zero_le _
theorem Rd2.deed {s : Script} {d : Deed} {v : V} {p : Addr} {xs : List V} (R : Rd2 H H' ls lf n (a ++ [s]) cs ps ys) (hp : ps[a.length]? = some p) (hx : H' p = some (.lst xs)) (iv : Is H' (eD d) v) : Rd2 H (upd H' p (.lst (xs ++ [v]))) ls lf (n + 1) (a ++ [s ++ [d]]) cs ps ys := by
 have tp : Tups H' (upd H' p (.lst (xs ++ [v]))) := Tups.upd hx (fun zs z => by cases z)
 obtain ⟨p1, p2, p3, xs', p4, p5⟩ := R.each a.length p s hp (by rw [List.getElem?_append_right (Nat.le_refl _), Nat.sub_self]; rfl)
 rw [hx] at p4
 cases p4
 have hsl := R.sl
 rw [List.length_append, List.length_singleton] at hsl
 refine ⟨same_upd R.same p1, by rw [upd_ne (Ne.symm p2)]; exact R.s, R.nd, ?_, fun k q t h1 h2 => ?_, by rw [upd_ne (Ne.symm p3)]; exact R.f, R.fl.tups tp (froC cs), ?_, Nat.le_succ_of_le R.lc, fun t ht => ?_⟩
 · rw [List.length_append, List.length_singleton]; exact hsl
 · by_cases hk : k < a.length
   · rw [List.getElem?_append_left hk] at h2
     obtain ⟨q1, q2, q3, zs, q4, q5⟩ := R.each k q t h1 (by rw [List.getElem?_append_left hk]; exact h2)
     have hqp : q ≠ p := fun z => by
      subst z
      have := (List.getElem?_inj (by omega) R.nd).mp (h1.trans hp.symm)
      omega
     exact ⟨q1, q2, q3, zs, by rw [upd_ne hqp]; exact q4, q5.tups tp (froDs t)⟩
   · have hkl := (List.getElem?_eq_some_iff.mp h2).1
     rw [List.length_append, List.length_singleton] at hkl
     have h0 : k = a.length := by omega
     subst h0
     rw [List.getElem?_append_right (Nat.le_refl _), Nat.sub_self] at h2
     cases h2
     rw [hp] at h1
     cases h1
     refine ⟨p1, p2, p3, _, upd_same, ?_⟩
     rw [List.map_append]
     exact IsL.append (p5.tups tp (froDs s)) ((show L2.IsL H' [eD d] [v] from IsL.one iv).tups tp (froDs [d]))
 · have := R.la
   rw [List.length_append, List.length_singleton] at this ⊢
   omega
 · rcases List.mem_append.mp ht with h | h
   · exact Nat.le_succ_of_le (R.ld t (List.mem_append_left _ h))
   · rw [List.mem_singleton.mp h, List.length_append]
     exact Nat.succ_le_succ (R.ld s (List.mem_append_right _ (List.mem_singleton.mpr rfl)))
end
end My
set_option maxHeartbeats 1000000
namespace My
open PySem PySem.Spec PyProof.Rows L2
abbrev s_readSF : Stmt := top 57
structure RowsAt (H : Hp) (b : Addr) (qs : List Addr) (its : List Row) : Prop where
 at' : H b = some (.lst (qs.map V.ref))
 len : qs.length = its.length
 each : ∀ (k : Nat) (q : Addr) (r : Row), qs[k]? = some q → its[k]? = some r → H q = some (.lst ((rW r).map V.str))
 ok : ∀ r ∈ its, RowT r
 few : its.length ≤ 200
noncomputable def spSF : Sp := fun vs H Q _ => ∃ b qs its ss fs, vs = [.ref b] ∧ RowsAt H b qs its ∧ Run ss fs [] [] its ∧ ∀ q vf vss H', Same H H' → H' q = some (.tup [vf, vss]) → Is H' (.tup (fs.map eC)) vf → Is H' (.tup (ss.map eS)) vss → Q (.ref q) H'
noncomputable def rTo (K : PySem.W.Frag) : List V → Hp → VK → Prop := fun xs H Q => ∃ p ys, xs = [.ref p] ∧ ((SqL K H p ys ∧ ∀ l, H l = none → Q (.ref l) (upd H l (.tup ys))) ∨ (SqT K H p ys ∧ Q (.ref p) H))
theorem ded_head {d : Deed} : ∃ r, dW d = dw d :: r ∧ dw d ≠ "FIRST" ∧ dw d ≠ "SCRIPT" := by
 cases d <;> first | exact ⟨_, rfl, (by decide : ("raise" : Str) ≠ "FIRST"), (by decide : ("raise" : Str) ≠ "SCRIPT")⟩ | exact ⟨_, rfl, (by decide : ("await" : Str) ≠ "FIRST"), (by decide : ("await" : Str) ≠ "SCRIPT")⟩ | exact ⟨_, rfl, (by decide : ("come" : Str) ≠ "FIRST"), (by decide : ("come" : Str) ≠ "SCRIPT")⟩ | exact ⟨_, rfl, (by decide : ("go" : Str) ≠ "FIRST"), (by decide : ("go" : Str) ≠ "SCRIPT")⟩ | exact ⟨_, rfl, (by decide : ("leave" : Str) ≠ "FIRST"), (by decide : ("leave" : Str) ≠ "SCRIPT")⟩ | exact ⟨_, rfl, (by decide : ("begin" : Str) ≠ "FIRST"), (by decide : ("begin" : Str) ≠ "SCRIPT")⟩ | exact ⟨_, rfl, (by decide : ("work" : Str) ≠ "FIRST"), (by decide : ("work" : Str) ≠ "SCRIPT")⟩ | exact ⟨_, rfl, (by decide : ("say" : Str) ≠ "FIRST"), (by decide : ("say" : Str) ≠ "SCRIPT")⟩
theorem at_last {x : V} : ∀ xs : List V, atI (xs ++ [x]) (-1) = some x := fun xs => by
 unfold atI ixN
 have h : (xs ++ [x]).length = xs.length + 1 := by simp
 rw [h, if_neg (by decide), if_pos (by omega)]
 have e : ((-1 : Int) + ((xs.length + 1 : Nat) : Int)).toNat = xs.length := by omega
 rw [e]
 show (xs ++ [x])[xs.length]? = some x
 rw [List.getElem?_append_right (Nat.le_refl _), Nat.sub_self]
 rfl
section
variable {P : Program} {w : World} {K : PySem.W.Frag} {mg : Str → Option Value} {base : Heap}
theorem sc_readSF : FnScope ["rows", "scripts", "firsts", "words"] ["rows"] (defScope s_readSF) := ⟨rfl, rfl, rfl, by decide +kernel, rfl, by decide +kernel, by decide +kernel⟩
theorem ok_readSF (D : Def K mg "read_scripts_and_firsts" s_readSF) (T : Txt K mg) (o1 : Ok P w K mg base "read_calling" 5 ["words"] spRc) (o2 : Ok P w K mg base "read_deed" 6 ["words"] spRd) : Ok P w K mg base "read_scripts_and_firsts" 7 ["rows"] spSF := by
 refine mkOk D sc_readSF (fun _ _ _ _ _ _ us hl => (match us, hl with | [_], _ => rfl)) (fun vs H Q E ⟨_, _, _, _, _, e, _⟩ => by rw [e]; rfl) fun f cdv A outer s H vs Q E hr h => ?_
 obtain ⟨b, qs, its, ss, fs, rfl, B, Rn, k⟩ := h
 have nd := sc_readSF.nd
 have r5 := hr.mono (show 5 ≤ 6 by decide)
 refine ⟨_, pss_cons (ps_set (i := 1) nd rfl (Or.inl rfl) (pe_lst pa_nil))
  (pss_cons (ps_set (i := 2) nd rfl (Or.inl rfl) (pe_lst pa_nil))
  (pss_cons (ps_for PassesOwn.never rfl (pi_list (pv 0)) (pg_name (i := 3) nd rfl (Or.inl rfl))
   (pss_one (ps_if (pt_cmpR op_eq (pe_ix ix_list (pv 3) pe_int (fun _ _ => rfl)) pe_str (nomark _))
    (pss_one (ps_expr (pe_bm PySem.F.plainAttrs_list PySem.F.slot_list_append PySem.F.type_list_append mt_append (pv 2) (pa_cons (pe_fn o1 r5 (pa_cons (pe_slice sl_list (pv 3) (po_some pe_int) po_none) pa_nil)) pa_nil))))
    (pss_one (ps_if (pt_truth (pv 2) (fun _ => rfl)) (pss_one ps_never)
     (pss_one (ps_if (pt_cmpR (op_eqTr hr.units) (pv 3) (pe_lst (pa_cons pe_str pa_nil)) (nomark _))
      (pss_one (ps_expr (pe_bm PySem.F.plainAttrs_list PySem.F.slot_list_append PySem.F.type_list_append mt_append (pv 1) (pa_cons (pe_lst pa_nil) pa_nil))))
      (pss_one (ps_if (pt_truth (pv 1) (fun _ => rfl))
       (pss_one (ps_expr (pe_bm PySem.F.plainAttrs_list PySem.F.slot_list_append PySem.F.type_list_append mt_append (pe_ix ix_list (pv 1) (pe_un un_neg pe_int) (fun _ _ => rfl)) (pa_cons (pe_fn o2 hr (pa_cons (pv 3) pa_nil)) pa_nil))))
       (pss_one ps_never))))))))))
  (pss_one (ps_ret (pe_tup (pa_cons (pe_callTy call_tuple_of rfl T.tuple bt_tuple (pa_cons (pv 2) pa_nil)) (pa_cons (pe_callTy call_tuple_of rfl T.tuple bt_tuple (pa_cons (pe_lc (own := ["deeds"]) (cap := []) rfl (lcScope (defScope s_readSF) rfl rfl (by decide +kernel) (by decide +kernel) (by decide +kernel) trivial) (pi_list (pv 1))
   (fun _ _ _ _ => pg_name (i := 0) (by show (["deeds"] : List Str).Nodup; decide +kernel) rfl (Or.inl rfl)) (fun _ _ _ _ => pif_nil) (fun _ _ _ _ => pe_callTy (r := rTo K) call_tuple_of rfl T.tuple bt_tuple (pa_cons (pv 0) pa_nil))) pa_nil)) pa_nil))))))), ?_⟩
 refine ⟨Nat.zero_le _, fun ls hls => ?_⟩
 have s1 := Same.new hls (.lst [])
 have g1 : upd H ls (.lst []) ls = some (.lst []) := upd_same
 generalize upd H ls (.lst []) = H1 at s1 g1 ⊢
 refine ⟨Nat.zero_le _, fun lf hlf => ?_⟩
 have hne : ls ≠ lf := ne_of_none g1 hlf
 have hlfH : H lf = none := by
  cases z : H lf with
  | none => rfl
  | some o => rw [s1 _ _ z] at hlf; cases hlf
 have s2 := Same.new hlf (.lst [])
 have g2 : upd H1 lf (.lst []) lf = some (.lst []) := upd_same
 have R0 : Rd2 H (upd H1 lf (.lst [])) ls lf 0 [] [] [] [] := ⟨s1.trans s2, s2 _ _ g1, List.nodup_nil, rfl, fun k p s h => (by cases h), g2, rfl, Nat.le_refl _, Nat.le_refl _, fun s hs => (by cases hs)⟩
 generalize upd H1 lf (.lst []) = H2 at R0 ⊢
 have hfew := B.few
 have hql := B.len
 refine ⟨_, rfl, b, rfl, ⟨_, SqL.of (R0.same _ _ B.at')⟩, ?_⟩
 refine for_list (xs := qs.map V.ref) (fun i σ H' => i ≤ qs.length ∧ ∃ a cs ps ys, Rd2 H H' ls lf i a cs ps ys ∧ Run ss fs a cs (its.drop i) ∧ ∃ x3, σ = [some (.ref b), some (.ref ls), some (.ref lf), x3]) ⟨Nat.zero_le _, [], [], [], [], R0, Rn, none, rfl⟩ (fun i σ H' _ ⟨_, _, _, _, _, R, _⟩ => SqL.of (R.same _ _ B.at')) ?_ ?_
 · rintro i x σ H3 hx ⟨hi, a, cs, ps, ys, R, Rr, x3, rfl⟩
   rw [List.getElem?_map] at hx
   cases eq : qs[i]? with
   | none => rw [eq] at hx; cases hx
   | some q =>
   rw [eq] at hx
   cases hx
   have hil : i < its.length := by rw [← hql]; exact (List.getElem?_eq_some_iff.mp eq).1
   have hlt : i + 1 ≤ qs.length := by omega
   have hit : its[i]? = some its[i] := List.getElem?_eq_getElem hil
   have hrow := R.same _ _ (B.each i q _ eq hit)
   have hok := B.ok _ (List.getElem_mem hil)
   rw [List.drop_eq_getElem_cons hil] at Rr
   have hla := R.la
   have hlc := R.lc
   generalize its[i] = it at hrow hok Rr
   cases Rr with
   | @fst _ _ c _ Rr =>
     have hrow' : H3 q = some (.lst (.str "FIRST" :: (nS c.1 :: c.2.map memS).map V.str)) := hrow
     refine ⟨_, rfl, q, _, _, _, rfl, rfl, SqL.of hrow', at0, rfl, _, rfl, ?_⟩
     rw [decide_eq_true rfl]
     refine iteT ⟨_, rfl, .inl ⟨rfl, _, SqL.of R.f⟩, _, rfl, 1, rfl, q, _, rfl, SqL.of hrow', fun p2 hp2 => ?_⟩
     rw [cut_tail]
     have R4 := R.mono (Same.new hp2 (.lst ((nS c.1 :: c.2.map memS).map V.str)))
     have g4 : upd H3 p2 (.lst ((nS c.1 :: c.2.map memS).map V.str)) p2 = some (.lst ((nS c.1 :: c.2.map memS).map V.str)) := upd_same
     generalize upd H3 p2 (.lst ((nS c.1 :: c.2.map memS).map V.str)) = H4 at R4 g4 ⊢
     refine ⟨p2, c, rfl, hok.1, hok.2, g4, fun v H5 s5 iv => ?_⟩
     have R5 := R4.mono s5
     refine ⟨lf, _, _, rfl, rfl, R5.f, ?_, hlt, _, _, _, _, R5.first hlfH hne iv, Rr, _, rfl⟩
     have := R5.fl.length
     rw [List.length_map] at this
     rw [this]
     exact small1000 (by omega)
   | @scr _ _ Rr =>
     have hrow' : H3 q = some (.lst [.str "SCRIPT"]) := hrow
     have fe : ys = [] := by
      have := R.fl.length
      exact List.length_eq_zero_iff.mp this
     subst fe
     refine ⟨_, rfl, q, _, _, _, rfl, rfl, SqL.of hrow', at0, rfl, _, rfl, ?_⟩
     rw [vs_ne (by decide)]
     refine iteF ⟨_, rfl, false, .inl ⟨_, SqL.of R.f, rfl⟩, iteF ⟨_, rfl, by show 1 ≤ sizeLine; decide, fun p2 hp2 => ?_⟩⟩
     have R4 := R.mono (Same.new hp2 (.lst [.str "SCRIPT"]))
     have sq := Same.new hp2 (.lst [.str "SCRIPT"]) _ _ hrow'
     have g4 : upd H3 p2 (.lst [.str "SCRIPT"]) p2 = some (.lst [.str "SCRIPT"]) := upd_same
     generalize upd H3 p2 (.lst [.str "SCRIPT"]) = H4 at R4 g4 sq ⊢
     have cl : ∀ t ∈ [("SCRIPT" : Str)], Clean t := fun t ht => by rw [List.mem_singleton.mp ht]; exact clean_lit (by decide +kernel)
     refine ⟨strL ["SCRIPT"], strL ["SCRIPT"], is_strL (ws := ["SCRIPT"]) sq, is_strL (ws := ["SCRIPT"]) g4, lay_strL cl, lay_strL cl, depth_strL _, ?_⟩
     have e : PyData.eqv (toD (strL [("SCRIPT" : Str)])) (toD (strL [("SCRIPT" : Str)])) = true := by decide +kernel
     rw [e]
     refine ⟨_, rfl, iteT ⟨_, rfl, .inl ⟨rfl, _, SqL.of R4.s⟩, Nat.zero_le _, fun p5 hp5 => ?_⟩⟩
     have R6 := R4.script hls hne hp5
     have g5 := (Same.new hp5 (.lst [])) _ _ R4.s
     refine ⟨ls, _, _, rfl, rfl, g5, ?_, hlt, _, _, _, _, R6, Rr, _, rfl⟩
     rw [List.length_map, R4.sl]
     exact small1000 (by omega)
   | @ded a s d _ Rr =>
     obtain ⟨r, er, n1, n2⟩ := ded_head (d := d)
     have hrow0 : H3 q = some (.lst ((dW d).map V.str)) := hrow
     have hrow' := hrow0
     rw [er, List.map_cons] at hrow'
     have fe : ys = [] := by
      have := R.fl.length
      exact List.length_eq_zero_iff.mp this
     subst fe
     refine ⟨_, rfl, q, _, _, _, rfl, rfl, SqL.of hrow', at0, rfl, _, rfl, ?_⟩
     rw [vs_ne n1]
     refine iteF ⟨_, rfl, false, .inl ⟨_, SqL.of R.f, rfl⟩, iteF ⟨_, rfl, by show 1 ≤ sizeLine; decide, fun p2 hp2 => ?_⟩⟩
     have R4 := R.mono (Same.new hp2 (.lst [.str "SCRIPT"]))
     have sq := Same.new hp2 (.lst [.str "SCRIPT"]) _ _ hrow0
     have g4 : upd H3 p2 (.lst [.str "SCRIPT"]) p2 = some (.lst [.str "SCRIPT"]) := upd_same
     generalize upd H3 p2 (.lst [.str "SCRIPT"]) = H4 at R4 g4 sq ⊢
     have cl : ∀ t ∈ [("SCRIPT" : Str)], Clean t := fun t ht => by rw [List.mem_singleton.mp ht]; exact clean_lit (by decide +kernel)
     refine ⟨strL (dW d), strL ["SCRIPT"], is_strL sq, is_strL (ws := ["SCRIPT"]) g4, lay_strL (clean_dW hok.1), lay_strL cl, depth_strL _, ?_⟩
     have e : PyData.eqv (toD (strL (dW d))) (toD (strL [("SCRIPT" : Str)])) = false := by rw [er]; exact eqv_ne n2
     rw [e]
     have hsl := R4.sl
     rw [List.length_append, List.length_singleton] at hsl
     obtain ⟨p, hp⟩ : ∃ p, ps[a.length]? = some p := ⟨_, List.getElem?_eq_getElem (by omega)⟩
     have eps : ps = ps.take a.length ++ [p] := by
      conv => lhs; rw [← List.take_append_drop a.length ps]
      congr 1
      rw [List.drop_eq_getElem_cons (by omega), List.drop_eq_nil_of_le (by omega)]
      rw [List.getElem?_eq_getElem (by omega)] at hp
      cases hp
      rfl
     have gs := R4.s
     rw [eps, List.map_append] at gs
     obtain ⟨p1, p2', p3, xs, hpx, hxs⟩ := R4.each a.length p s hp (by rw [List.getElem?_append_right (Nat.le_refl _), Nat.sub_self]; rfl)
     have hxl := hxs.length
     rw [List.length_map] at hxl
     have hsn := R4.ld s (List.mem_append_right _ (List.mem_singleton.mpr rfl))
     refine ⟨_, rfl, iteF ⟨_, rfl, true, .inl ⟨_, SqL.of gs, by simp⟩, iteT ⟨_, rfl, 1, rfl, ls, _, _, _, rfl, rfl, SqL.of gs, at_last _, .inl ⟨rfl, _, SqL.of hpx⟩, _, rfl, q, d, rfl, hok.1, hok.2, sq, fun v H5 s5 iv => ?_⟩⟩⟩
     have R5 := R4.mono s5
     refine ⟨p, _, _, rfl, rfl, s5 _ _ hpx, ?_, hlt, _, _, _, _, R5.deed hp (s5 _ _ hpx) iv, Rr, _, rfl⟩
     rw [hxl]
     exact small1000 (by omega)
 rintro σ H3 ⟨_, a, cs, ps, ys, R, Rr, x3, rfl⟩
 rw [List.length_map, hql, List.drop_length] at Rr
 cases Rr
 have hla := R.la
 rw [List.length_map] at hla
 refine ⟨_, rfl, lf, ys, rfl, .inl ⟨SqL.of R.f, fun q4 hq4 => ?_⟩⟩
 have R4 := R.mono (Same.new hq4 (.tup ys))
 have g4 : upd H3 q4 (.tup ys) q4 = some (.tup ys) := upd_same
 generalize upd H3 q4 (.tup ys) = H4 at R4 g4 ⊢
 refine ⟨_, rfl, ls, rfl, ⟨_, SqL.of R4.s⟩, ?_⟩
 refine lc_list (xs := ps.map V.ref) (fun i zs H' => Same H4 H' ∧ L2.IsL H' ((ss.take i).map eS) zs) ⟨Same.refl H4, rfl⟩ (fun i zs H' hi ⟨s', e⟩ => ⟨SqL.of (s' _ _ R4.s), by rw [e.length, List.length_map, List.length_take]; exact small_le (by omega)⟩) ?_ ?_
 · rintro i y zs H5 hy ⟨s5, e⟩
   refine gIf0 ?_
   rw [List.getElem?_map] at hy
   cases ep : ps[i]? with
   | none => rw [ep] at hy; cases hy
   | some p =>
   rw [ep] at hy
   cases hy
   have hia : i < ss.length := by rw [← R4.sl]; exact (List.getElem?_eq_some_iff.mp ep).1
   have es : ss[i]? = some ss[i] := List.getElem?_eq_getElem hia
   obtain ⟨_, _, _, xs, hpx, hxs⟩ := R4.each i p _ ep es
   generalize ss[i] = sc at es hxs
   refine ⟨_, rfl, p, xs, rfl, .inl ⟨SqL.of (s5 _ _ hpx), fun u hu => ?_⟩⟩
   have s6 := Same.new hu (.tup xs)
   refine ⟨s5.trans s6, ?_⟩
   rw [List.take_add_one, es, List.map_append]
   exact IsL.append (e.mono s6) (IsL.one ⟨u, xs, rfl, upd_same, (hxs.mono s5).mono s6⟩)
 rintro zs H5 ⟨s5, e⟩ l5 hl5
 rw [List.length_map, R4.sl, List.take_length] at e
 have s6 := Same.new hl5 (.lst zs)
 have g6 : upd H5 l5 (.lst zs) l5 = some (.lst zs) := upd_same
 generalize upd H5 l5 (.lst zs) = H6 at s6 g6 ⊢
 refine ⟨l5, zs, rfl, .inl ⟨SqL.of g6, fun q7 hq7 => ?_⟩⟩
 have s7 := Same.new hq7 (.tup zs)
 have g7 : upd H6 q7 (.tup zs) q7 = some (.tup zs) := upd_same
 generalize upd H6 q7 (.tup zs) = H7 at s7 g7 ⊢
 refine ⟨by show 2 ≤ sizeLine; decide, fun q8 hq8 => ?_⟩
 have s8 := Same.new hq8 (.tup [.ref q4, .ref q7])
 have s48 := s5.trans (s6.trans (s7.trans s8))
 exact k _ _ _ _ (R4.same.trans s48) upd_same ⟨q4, ys, rfl, s48 _ _ g4, R4.fl.mono s48⟩ ⟨q7, zs, rfl, s8 _ _ g7, ((e.mono s6).mono s7).mono s8⟩
end
end My
set_option maxHeartbeats 1000000
namespace My
open PySem PySem.Spec PyProof.Rows L2
abbrev s_readHouse : Stmt := top 58
structure LowH (h : House) : Prop where
 f : ∀ c ∈ h.fs, ∀ m ∈ c.2, Low m
 s : ∀ s ∈ h.ss, ∀ d ∈ s, LowD d
theorem rowsR_ok {h : House} (hh : HouT h) (hl : LowH h) : ∀ r ∈ rowsR h, RowT r := fun r hr => by
 rcases List.mem_append.mp hr with hr | hr
 · obtain ⟨s, hs, hm⟩ := List.mem_flatMap.mp hr
   rcases List.mem_cons.mp hm with rfl | hm
   · trivial
   · obtain ⟨d, hd, rfl⟩ := List.mem_map.mp hm
     exact ⟨(hh.s s hs).2 d hd, hl.s s hs d hd⟩
 · obtain ⟨c, hc, rfl⟩ := List.mem_map.mp hr
   exact ⟨hh.f c hc, hl.f c hc⟩
theorem rW_ok {r : Row} (h : RowT r) : rW r ≠ [] ∧ ∀ t ∈ rW r, Clean t := by
 cases r with
 | scr => exact ⟨by simp [rW], fun t ht => by rw [List.mem_singleton.mp ht]; exact clean_lit (by decide +kernel)⟩
 | ded d =>
   obtain ⟨r, er, _⟩ := ded_head (d := d)
   exact ⟨by show dW d ≠ []; rw [er]; simp, clean_dW h.1⟩
 | fst c => exact ⟨by simp [rW, cW], clean_cW (clean_lit (by decide +kernel)) h.1⟩
theorem headW_ok {h : House} (hh : HouT h) : headW h ≠ [] ∧ ∀ t ∈ headW h, Clean t := by
 refine ⟨by simp [headW], fun t ht => ?_⟩
 rcases List.mem_cons.mp ht with rfl | ht
 · exact clean_lit (by decide +kernel)
 · exact clean3 (clean_num hh.b) (clean_lit (by decide +kernel)) (clean_num hh.w) t ht
theorem rowsW_ok {h : House} (hh : HouT h) (hl : LowH h) : ∀ ws ∈ rowsW h, ws ≠ [] ∧ ∀ t ∈ ws, Clean t := fun ws hw => by
 rw [rows_R] at hw
 rcases List.mem_cons.mp hw with rfl | hw
 · exact headW_ok hh
 · obtain ⟨r, hr, rfl⟩ := List.mem_map.mp hw
   exact rW_ok (rowsR_ok hh hl r hr)
theorem clean_free {x : Str} (h : Clean x) {c : Nat} (hc : c < 48) : c ∉ x.cps.toList := fun hm => by
 have := (h c hm).1
 omega
theorem line_split {ws : List Str} (h : ws ≠ [] ∧ ∀ t ∈ ws, Clean t) : PySem.Txt.split (lineW ws) sp = ws := split_join h.1 fun t ht => clean_free (h.2 t ht) (by decide)
theorem line_free {ws : List Str} (h : ws ≠ [] ∧ ∀ t ∈ ws, Clean t) : 10 ∉ (lineW ws).cps.toList := by
 obtain ⟨h1, h2⟩ := h
 cases ws with
 | nil => exact absurd rfl h1
 | cons x l =>
   rw [line_list]
   intro hm
   rcases List.mem_append.mp hm with hm | hm
   · exact clean_free (h2 x List.mem_cons_self) (by decide) hm
   · obtain ⟨p, hp, hm⟩ := List.mem_flatMap.mp hm
     rcases List.mem_cons.mp hm with hm | hm
     · cases hm
     · exact clean_free (h2 p (List.mem_cons_of_mem _ hp)) (by decide) hm
theorem txt_split {h : House} (hh : HouT h) (hl : LowH h) : PySem.Txt.split (txtH h) nl = (rowsW h).map lineW := split_join (by simp [rowsW]) fun t ht => by
 obtain ⟨ws, hw, rfl⟩ := List.mem_map.mp ht
 exact line_free (rowsW_ok hh hl ws hw)
theorem txt_len {h : House} (hh : HouT h) : (txtH h).length ≤ sizeLine := by
 obtain ⟨h1, h2⟩ := rowsW_len hh
 have h3 := join_len (sep := nl) (xs := (rowsW h).map lineW) 500 fun x hx => by
  obtain ⟨ws, hw, rfl⟩ := List.mem_map.mp hx
  have := line_len (h2 ws hw)
  show _ + 1 ≤ 500
  omega
 rw [List.length_map] at h3
 have : (rowsW h).length * 500 ≤ 121 * 500 := Nat.mul_le_mul_right _ h1
 exact Nat.le_trans h3 (Nat.le_trans this (by decide))
noncomputable def spRH : Sp := fun vs H Q _ => ∃ h, vs = [.str (txtH h)] ∧ HouT h ∧ LowH h ∧ Wh (eH h) ∧ Good h ∧ mHs h = true ∧ ∀ v H', Same H H' → Is H' (eH h) v → Q v H'
section
variable {P : Program} {w : World} {K : PySem.W.Frag} {mg : Str → Option Value} {base : Heap}
theorem sc_readHouse : FnScope ["text", "rows", "house"] ["text"] (defScope s_readHouse) := ⟨rfl, rfl, rfl, by decide +kernel, rfl, by decide +kernel, by decide +kernel⟩
theorem ok_readHouse (D : Def K mg "read_house" s_readHouse) (T : Txt K mg) (o1 : Ok P w K mg base "read_head" 5 ["words"] spRh) (o2 : Ok P w K mg base "read_scripts_and_firsts" 7 ["rows"] spSF) (o3 : Ok P w K mg base "need_house" 23 ["thing"] spNh) : Ok P w K mg base "read_house" 24 ["text"] spRH := by
 refine mkOk D sc_readHouse (fun _ _ _ _ _ _ us hl => (match us, hl with | [_], _ => rfl)) (fun vs H Q E ⟨_, e, _⟩ => by rw [e]; rfl) fun f cdv A outer s H vs Q E hr h => ?_
 obtain ⟨h, rfl, hh, hl, hW, hG, hm, k⟩ := h
 have nd := sc_readHouse.nd
 have r5 := hr.mono (show 5 ≤ 23 by decide)
 have r7 := hr.mono (show 7 ≤ 23 by decide)
 refine ⟨_, pss_cons (ps_if (pt_not (pt_val (pe_isi T.isi T.str bt_str (pv 0)))) (pss_one ps_never) pss_nil)
  (pss_cons (ps_lc (i := 1) (own := ["line"]) (cap := []) (te := tBM K "str" rSplit (tVar 0) (tCons (tC (.str " ")) tNil)) rfl (lcScope (defScope s_readHouse) rfl rfl (by decide +kernel) (by decide +kernel) (by decide +kernel) trivial) (pi_list (pe_bm PySem.F.plainAttrs_str PySem.F.slot_str_split PySem.F.type_str_split mt_split (pv 0) (pa_cons pe_str pa_nil)))
   (fun _ _ _ _ => pg_name (i := 0) (by show (["line"] : List Str).Nodup; decide +kernel) rfl (Or.inl rfl)) (fun _ _ _ _ => pif_nil) (fun _ _ _ _ => pe_bm PySem.F.plainAttrs_str PySem.F.slot_str_split PySem.F.type_str_split mt_split (pv 0) (pa_cons pe_str pa_nil)) nd rfl rfl (by with_unfolding_all rfl))
  (pss_cons (ps_set (i := 2) nd rfl (Or.inl rfl) (pe_op op_catT (pe_fn o1 r5 (pa_cons (pe_ix ix_list (pv 1) pe_int (fun _ _ => rfl)) pa_nil)) (pe_fn o2 r7 (pa_cons (pe_slice sl_list (pv 1) (po_some pe_int) po_none) pa_nil))))
  (pss_cons (ps_expr (pe_fn o3 hr (pa_cons (pv 2) pa_nil)))
  (pss_one (ps_ret (pv 2)))))), ?_⟩
 refine ⟨_, rfl, _, "str", _, _, rfl, (show Is H (.str (txtH h)) (.str (txtH h)) from rfl).ty, kit_str K (.str (txtH h)), _, rfl, iteF ?_⟩
 have hn := (rowsW_len hh).1
 have hsp := txt_split hh hl
 refine ⟨_, rfl, rfl, txtH h, nl, rfl, rfl, rfl, txt_len hh, ?_, fun l H1 s1 hl1 g1 => ?_⟩
 · rw [hsp, List.length_map]; exact small_le (by omega)
 rw [hsp] at g1
 refine ⟨l, rfl, ⟨_, SqL.of g1⟩, ?_⟩
 refine lc_list (xs := ((rowsW h).map lineW).map V.str) (fun i zs H' => Same H1 H' ∧ ∃ qs : List Addr, zs = qs.map V.ref ∧ qs.length = i ∧ ∀ (j : Nat) (q : Addr) (ws : List Str), qs[j]? = some q → (rowsW h)[j]? = some ws → H' q = some (.lst (ws.map V.str))) ⟨Same.refl H1, [], rfl, rfl, fun j q ws z => (by cases z)⟩ (fun i zs H' hi ⟨s', qs, e, el, _⟩ => ⟨SqL.of (s' _ _ g1), by rw [e, List.length_map, el]; rw [List.length_map, List.length_map] at hi; exact small_le (by omega)⟩) ?_ ?_
 · rintro i y zs H2 hy ⟨s2, qs, rfl, el, hq⟩
   refine gIf0 ?_
   rw [List.getElem?_map, List.getElem?_map] at hy
   cases ew : (rowsW h)[i]? with
   | none => rw [ew] at hy; cases hy
   | some ws =>
   rw [ew] at hy
   cases hy
   have hm' := List.mem_of_getElem? ew
   have hok := rowsW_ok hh hl ws hm'
   have hlen := (rowsW_len hh).2 ws hm'
   have hls := line_split hok
   have hl12 := hlen.1
   have hll := line_len hlen
   refine ⟨_, rfl, rfl, lineW ws, sp, rfl, rfl, rfl, small_le (by omega), by rw [hls]; exact small_le (by omega), fun q H3 s3 hq3 g3 => ⟨s2.trans s3, qs ++ [q], by rw [List.map_append]; rfl, by rw [List.length_append, el]; rfl, fun j q' ws' h1 h2 => ?_⟩⟩
   rw [hls] at g3
   by_cases hj : j < qs.length
   · rw [List.getElem?_append_left hj] at h1
     exact s3 _ _ (hq j q' ws' h1 h2)
   · have hjl := (List.getElem?_eq_some_iff.mp h1).1
     rw [List.length_append, List.length_singleton] at hjl
     have hji : j = qs.length := by omega
     subst hji
     rw [List.getElem?_append_right (Nat.le_refl _), Nat.sub_self] at h1
     cases h1
     rw [el, ew] at h2
     cases h2
     exact g3
 rintro zs H2 ⟨s2, qs, rfl, el, hq⟩ p hp
 rw [List.length_map, List.length_map] at el
 have s3 := Same.new hp (.lst (qs.map V.ref))
 have g3 : upd H2 p (.lst (qs.map V.ref)) p = some (.lst (qs.map V.ref)) := upd_same
 generalize upd H2 p (.lst (qs.map V.ref)) = H3 at s3 g3 ⊢
 have s03 := s1.trans (s2.trans s3)
 rw [rows_R, List.length_cons, List.length_map] at el
 obtain ⟨q0, qr, rfl⟩ : ∃ q0 qr, qs = q0 :: qr := by
  cases qs with
  | nil => cases el
  | cons a r => exact ⟨a, r, rfl⟩
 have hq0 := s3 _ _ (hq 0 q0 (headW h) rfl (by rw [rows_R]; rfl))
 rw [List.map_cons] at g3
 refine ⟨_, rfl, p, _, _, _, rfl, rfl, SqL.of g3, at0, q0, h.b, h.w, rfl, hh.b, hh.w, hq0, fun ph H4 s4 g4 => ?_⟩
 refine ⟨_, rfl, 1, rfl, p, _, rfl, SqL.of (s4 _ _ g3), fun p5 hp5 => ?_⟩
 rw [cut_tail]
 have s5 := Same.new hp5 (.lst (qr.map V.ref))
 have g5 : upd H4 p5 (.lst (qr.map V.ref)) p5 = some (.lst (qr.map V.ref)) := upd_same
 generalize upd H4 p5 (.lst (qr.map V.ref)) = H5 at s5 g5 ⊢
 have s35 := s3.trans (s4.trans s5)
 rw [List.length_cons] at el
 have hrn : (rowsR h).length ≤ 200 := by
  rw [rows_R, List.length_cons, List.length_map] at hn
  omega
 refine ⟨p5, qr, rowsR h, h.ss, h.fs, rfl, ⟨g5, by omega, fun j q r h1 h2 => s35 _ _ (hq (j + 1) q (rW r) (by simpa using h1) (by rw [rows_R, List.getElem?_cons_succ, List.getElem?_map, h2]; rfl)), rowsR_ok hh hl, hrn⟩, run_all h, fun q vf vss H6 s6 g6 if' is' => ?_⟩
 refine ⟨ph, q, _, _, rfl, rfl, SqT.of (s6 _ _ (s5 _ _ g4)), SqT.of g6, by simp, by show 4 ≤ sizeLine; decide, fun z => (by cases z), fun _ u hu => ?_⟩
 have s7 := Same.new hu (.tup ([.int h.b, .int h.w] ++ [vf, vss]))
 have ih : Is (upd H6 u (.tup ([.int h.b, .int h.w] ++ [vf, vss]))) (eH h) (.ref u) := ⟨u, _, rfl, upd_same, _, _, rfl, rfl, _, _, rfl, rfl, _, _, rfl, if'.mono s7, _, _, rfl, is'.mono s7, rfl⟩
 generalize upd H6 u (.tup ([.int h.b, .int h.w] ++ [vf, vss])) = H7 at s7 ih ⊢
 refine ⟨_, rfl, h, _, rfl, ih, hW, hG, hm, fun H8 s8 => ⟨_, rfl, ?_⟩⟩
 exact k _ _ (s03.trans (s4.trans (s5.trans (s6.trans (s7.trans s8))))) (ih.mono s8)
noncomputable def ModeOk (m : Str) : Prop := m = "both" ∨ m = "come" ∨ m = "go"
structure MemsOk (w : Int) (ms : List Mem) : Prop where
 each : ∀ m ∈ ms, 0 ≤ m.1 ∧ m.1 < w ∧ ModeOk m.2
 rise : (ms.map (·.1)).Pairwise (· < ·)
noncomputable def Drawn (b : Int) (had : List Mem) (cs : List Calling) : Deed → Prop
 | .rai x k => 0 ≤ x ∧ x < b ∧ 1 ≤ k ∧ k ≤ 99
 | .awa x m => 0 ≤ x ∧ x < b ∧ 1 ≤ m ∧ m ≤ 9999
 | .com x => ∃ m, (x, m) ∈ had ∧ m ≠ "go"
 | .goo x => ∃ m, (x, m) ∈ had ∧ m ≠ "come"
 | .lea x => ∃ m, (x, m) ∈ had
 | .beg j ms => (j, ms) ∈ cs
 | .wor d => 0 ≤ d ∧ d ≤ 999
 | .say x => Four x
theorem getM_mem {had : List Mem} (hn : (had.map (·.1)).Nodup) {m : Mem} (h : m ∈ had) : getM had m.1 = some m.2 := by
 induction had with
 | nil => cases h
 | cons x r ih =>
   rw [List.map_cons, List.nodup_cons] at hn
   rcases List.mem_cons.mp h with rfl | h
   · simp [getM, List.find?_cons]
   · have ne : x.1 ≠ m.1 := fun z => hn.1 (by rw [z]; exact List.mem_map_of_mem h)
     have := ih hn.2 h
     simp only [getM, List.find?_cons] at this ⊢
     rw [decide_eq_false ne]
     exact this
noncomputable def handOk (had : List Mem) (m : Mem) : Bool := match getM had m.1 with
 | some x => inV (.str x) [.str m.2, .str "both"]
 | none => false
noncomputable def mHand (had ms : List Mem) : Bool := ms.all (handOk had)
noncomputable def stepH (had : List Mem) : Deed → List Mem
 | .lea w => offW had w
 | _ => had
noncomputable def goA : List Deed → List Mem → Bool
 | [], _ => true
 | d :: r, had => mAllowed d had && goA r (stepH had d)
noncomputable def begs : List Deed → List Calling
 | [] => []
 | .beg j ms :: r => (j, ms) :: begs r
 | _ :: r => begs r
theorem goA_snoc (d : Deed) : ∀ (ds : List Deed) (had : List Mem), goA (ds ++ [d]) had = (goA ds had && mAllowed d (ds.foldl stepH had))
 | [], had => by simp [goA]
 | e :: r, had => by simp only [List.cons_append, goA, List.foldl_cons]; rw [goA_snoc d r, Bool.and_assoc]
theorem begs_snoc (d : Deed) : ∀ ds : List Deed, begs (ds ++ [d]) = begs ds ++ begs [d]
 | [] => rfl
 | e :: r => by
   have ih := begs_snoc d r
   cases e with
   | beg j ms => simp only [List.cons_append, begs] at ih ⊢; rw [ih]
   | _ => simpa only [List.cons_append, begs] using ih
theorem begs_mem : ∀ (ds : List Deed) (c : Calling), c ∈ begs ds → Deed.beg c.1 c.2 ∈ ds
 | [], _, h => by cases h
 | d :: r, c, h => by
   cases d with
   | beg j ms =>
     rcases List.mem_cons.mp h with rfl | h
     · exact List.mem_cons_self
     · exact List.mem_cons_of_mem _ (begs_mem r c h)
   | _ => exact List.mem_cons_of_mem _ (begs_mem r c h)
theorem had_sub : ∀ (ds : List Deed) (had : List Mem), ∀ m ∈ ds.foldl stepH had, m ∈ had
 | [], _, _, h => h
 | d :: r, had, m, h => by
   have := had_sub r (stepH had d) m h
   cases d with
   | lea w => exact (List.mem_filter.mp this).1
   | _ => exact this
theorem had_nodup : ∀ (ds : List Deed) (had : List Mem), (had.map (·.1)).Nodup → ((ds.foldl stepH had).map (·.1)).Nodup
 | [], _, h => h
 | d :: r, had, h => by
   refine had_nodup r (stepH had d) ?_
   cases d with
   | lea w => exact List.Nodup.sublist (List.Sublist.map _ List.filter_sublist) h
   | _ => exact h
theorem had_len : ∀ (ds : List Deed) (had : List Mem), (ds.foldl stepH had).length ≤ had.length
 | [], _ => Nat.le_refl _
 | d :: r, had => by
   refine Nat.le_trans (had_len r (stepH had d)) ?_
   cases d with
   | lea w => exact List.length_filter_le _ _
   | _ => exact Nat.le_refl _
theorem okM_of {had : List Mem} {w : Int} {m md : Str} (h : getM had w = some m) (hm : m = "both" ∨ m = md) : okM had w md = true := by
 unfold okM
 rw [h]
 show inV (.str m) [.str "both", .str md] = true
 rcases hm with rfl | rfl <;> simp [inV, eqV]
theorem drawn_allowed {b : Int} {had : List Mem} {cs : List Calling} {d : Deed} (hn : (had.map (·.1)).Nodup) (hm : ∀ m ∈ had, ModeOk m.2) (hc : ∀ c ∈ cs, mHand had c.2 = true) (h : Drawn b had cs d) : mAllowed d had = true := by
 cases d with
 | com x =>
   obtain ⟨m, h1, h2⟩ := h
   refine okM_of (getM_mem hn h1) ?_
   rcases hm _ h1 with e | e | e
   · exact .inl e
   · exact .inr e
   · exact absurd e h2
 | goo x =>
   obtain ⟨m, h1, h2⟩ := h
   refine okM_of (getM_mem hn h1) ?_
   rcases hm _ h1 with e | e | e
   · exact .inl e
   · exact absurd e h2
   · exact .inr e
 | lea x =>
   obtain ⟨m, h1⟩ := h
   show (getM had x).isSome = true
   rw [getM_mem hn h1]
   rfl
 | beg j ms =>
   have q := hc _ h
   show (ms.all fun m => okM had m.1 m.2) = true
   unfold mHand at q
   rw [List.all_eq_true] at q ⊢
   intro m hmm
   have z := q m hmm
   unfold handOk at z
   cases e : getM had m.1 with
   | none => rw [e] at z; cases z
   | some x =>
     rw [e] at z
     refine okM_of e ?_
     have z : inV (.str x) [.str m.2, .str "both"] = true := z
     simp [inV, eqV] at z
     rcases z with z | z
     · exact .inr z.symm
     · exact .inl z.symm
 | _ => rfl
theorem Drawn.mono {b : Int} {had had' : List Mem} {cs cs' : List Calling} {d : Deed} (h1 : ∀ m ∈ had, m ∈ had') (h2 : ∀ c ∈ cs, c ∈ cs') (h : Drawn b had cs d) : Drawn b had' cs' d := by
 cases d with
 | com x => obtain ⟨m, a, c⟩ := h; exact ⟨m, h1 _ a, c⟩
 | goo x => obtain ⟨m, a, c⟩ := h; exact ⟨m, h1 _ a, c⟩
 | lea x => obtain ⟨m, a⟩ := h; exact ⟨m, h1 _ a⟩
 | beg j ms => exact h2 _ h
 | _ => exact h
mutual
noncomputable def Sh : T → Prop
 | .str x => x.length ≤ 1000
 | .tup ts => ShL ts
 | .lst ts => ShL ts
 | _ => True
noncomputable def ShL : List T → Prop
 | [] => True
 | t :: ts => Sh t ∧ ShL ts
end
theorem ShL.all {ts : List T} : ShL ts ↔ ∀ t ∈ ts, Sh t := by
 induction ts with
 | nil => simp [ShL]
 | cons t ts ih => simp [ShL, ih]
theorem Sh.wh {t : T} (h : Sh t) : Wh t := by
 rintro b w f ss rfl s hs ts rfl d hd us rfl u hu x rfl
 have h : ShL [b, w, f, .tup ss] := h
 have h1 : ShL ss := h.2.2.2.1
 have h2 : ShL ts := ShL.all.mp h1 _ hs
 have h3 : ShL us := ShL.all.mp h2 _ hd
 exact Nat.le_trans (show x.length ≤ 1000 from ShL.all.mp h3 _ hu) (by decide)
theorem goM_ok {w : Int} : ∀ (ms : List Mem) (last : Int), (∀ m ∈ ms, 0 ≤ m.1 ∧ m.1 < w ∧ ModeOk m.2) → (ms.map (·.1)).Pairwise (· < ·) → (∀ m ∈ ms, last < m.1) → goM w last (ms.map eMem) = true
 | [], _, _, _, _ => rfl
 | m :: r, last, h1, h2, h3 => by
   obtain ⟨a1, a2, a3⟩ := h1 m List.mem_cons_self
   rw [List.map_cons, List.pairwise_cons] at h2
   have hm : mMember (eMem m) w = true := by
    show (mWithin (.int m.1) 0 (w - 1) && mMode (.str m.2)) = true
    have e1 : mWithin (.int m.1) 0 (w - 1) = true := by
     show (decide ((0 : Int) ≤ m.1) && decide (m.1 ≤ w - 1)) = true
     rw [decide_eq_true a1, decide_eq_true (by omega)]
     rfl
    have e2 : mMode (.str m.2) = true := by
     rcases a3 with e | e | e <;> rw [e] <;> rfl
    rw [e1, e2]
    rfl
   rw [List.map_cons]
   show goM w last (.tup [.int m.1, .str m.2] :: r.map eMem) = true
   rw [goM_cons hm, decide_eq_true (h3 m List.mem_cons_self), Bool.true_and]
   exact goM_ok r m.1 (fun x hx => h1 x (List.mem_cons_of_mem _ hx)) h2.2 fun x hx => h2.1 _ (List.mem_map_of_mem hx)
theorem members_ok {w : Int} {ms : List Mem} (h : MemsOk w ms) : mMembers (eMs ms) w = true := goM_ok ms (-1) h.each h.rise fun m hm => by have := (h.each m hm).1; omega
theorem members_msOk {w : Int} {ms : List Mem} (h : MemsOk w ms) (hl : ms.length ≤ 6) : MsOk ms := ⟨h.rise.imp fun hab => Int.ne_of_lt hab, by omega⟩
theorem within_ok {x lo hi : Int} (h1 : lo ≤ x) (h2 : x ≤ hi) : mWithin (.int x) lo hi = true := by
 show (decide (lo ≤ x) && decide (x ≤ hi)) = true
 rw [decide_eq_true h1, decide_eq_true h2]
 rfl
theorem calling_ok {w : Int} {n : Nat} {j : Nat} {ms : List Mem} {least : Int} (h1 : least ≤ (j : Int)) (h2 : j < n) (h : MemsOk w ms) : mCalling (.tup [.int (j : Int), eMs ms]) least n w = true := by
 show (mWithin (.int (j : Int)) least ((n : Int) - 1) && mMembers (eMs ms) w) = true
 rw [within_ok h1 (by omega), members_ok h]
 rfl
theorem goS_ok {b w : Int} {n : Nat} : ∀ (ss : List T) (i : Nat), (∀ (j : Nat) t, ss[j]? = some t → mScript t ((i + j : Nat) : Int) b w n = true) → goS b w n (i : Int) ss = true
 | [], _, _ => rfl
 | s :: r, i, h => by
   show (mScript s (i : Int) b w n && goS b w n ((i : Int) + 1) r) = true
   have e : ((i : Int) + 1) = ((i + 1 : Nat) : Int) := by omega
   have h0 : mScript s (i : Int) b w n = true := h 0 s rfl
   rw [h0, e, goS_ok r (i + 1) fun j t hj => by rw [show i + 1 + j = i + (j + 1) by omega]; exact h (j + 1) t hj]
   rfl
noncomputable def DeedF (b : Int) (ms : List Mem) (i : Nat) (kn : List (List Mem)) (d : Deed) : Prop := ∃ cs, Drawn b ms cs d ∧ ∀ c ∈ cs, i < c.1 ∧ kn[c.1]? = some c.2
structure FitK (h : House) (kn : List (List Mem)) : Prop where
 len : kn.length = h.ss.length
 ms : ∀ ms ∈ kn, MemsOk h.w ms ∧ ms.length ≤ 6
 sc : ∀ (i : Nat) s ms, h.ss[i]? = some s → kn[i]? = some ms → s.length ≤ 6 ∧ goA s ms = true ∧ (begs s).length ≤ 2 ∧ ∀ d ∈ s, DeedF h.b ms i kn d
 fs : ∀ c ∈ h.fs, kn[c.1]? = some c.2
structure Fit (h : House) : Prop where
 b0 : 0 ≤ h.b
 b3 : h.b ≤ 99
 w0 : 0 ≤ h.w
 w3 : h.w ≤ 3
 n1 : 1 ≤ h.ss.length
 n3 : h.ss.length ≤ 3
 f1 : 1 ≤ h.fs.length
 f4 : h.fs.length ≤ 4
 kn : ∃ kn, FitK h kn
section
variable {h : House} {kn : List (List Mem)}
theorem FitK.at (F : FitK h kn) {i : Nat} {s : Script} (e : h.ss[i]? = some s) : ∃ ms, kn[i]? = some ms ∧ MemsOk h.w ms ∧ ms.length ≤ 6 ∧ s.length ≤ 6 ∧ goA s ms = true ∧ (begs s).length ≤ 2 ∧ ∀ d ∈ s, DeedF h.b ms i kn d := by
 have hi := (List.getElem?_eq_some_iff.mp e).1
 have hik : i < kn.length := by rw [F.len]; exact hi
 have hk : kn[i]? = some kn[i] := List.getElem?_eq_getElem hik
 obtain ⟨a, b⟩ := F.ms _ (List.mem_of_getElem? hk)
 obtain ⟨c, d, e', f⟩ := F.sc i s _ e hk
 exact ⟨_, hk, a, b, c, d, e', f⟩
theorem FitK.lt (F : FitK h kn) {j : Nat} {ms : List Mem} (e : kn[j]? = some ms) : j < h.ss.length ∧ MemsOk h.w ms ∧ ms.length ≤ 6 := by
 have hj := (List.getElem?_eq_some_iff.mp e).1
 exact ⟨by rw [← F.len]; exact hj, F.ms _ (List.mem_of_getElem? e)⟩
theorem FitK.beg (F : FitK h kn) {i : Nat} {s : Script} (e : h.ss[i]? = some s) {j : Nat} {ms : List Mem} (hb : Deed.beg j ms ∈ s) : i < j ∧ kn[j]? = some ms := by
 obtain ⟨_, _, _, _, _, _, _, q⟩ := F.at e
 obtain ⟨cs, h1, h2⟩ := q _ hb
 exact h2 _ h1
theorem fit_later (F : FitK h kn) : Later h.ss := fun i s hs j ms hm => by
 obtain ⟨h1, h2⟩ := F.beg hs hm
 exact ⟨h1, (F.lt h2).1⟩
theorem fit_begOk (F : FitK h kn) : BegOk h.ss := fun s hs j ms hm => by
 obtain ⟨i, hi, rfl⟩ := List.mem_iff_getElem.mp hs
 obtain ⟨_, h2⟩ := F.beg (List.getElem?_eq_getElem hi) hm
 obtain ⟨_, h3, h4⟩ := F.lt h2
 exact members_msOk h3 h4
theorem deedF_ok (F : FitK h kn) {ms : List Mem} (hm : MemsOk h.w ms) {i : Nat} {d : Deed} (hd : DeedF h.b ms i kn d) : mDeed (eD d) (i : Int) h.b h.w h.ss.length = true := by
 obtain ⟨cs, hD, hc⟩ := hd
 cases d with
 | rai x k =>
   obtain ⟨h1, h2, h3, h4⟩ := hD
   show (mWithin (.int x) 0 (h.b - 1) && mWithin (.int k) 1 99) = true
   rw [within_ok h1 (by omega), within_ok h3 h4]
   rfl
 | awa x m =>
   obtain ⟨h1, h2, h3, h4⟩ := hD
   show (mWithin (.int x) 0 (h.b - 1) && mWithin (.int m) 1 9999) = true
   rw [within_ok h1 (by omega), within_ok h3 h4]
   rfl
 | com x => obtain ⟨m, h1, _⟩ := hD; obtain ⟨a, b, _⟩ := hm.each _ h1; exact within_ok (hi := h.w - 1) a (by have : x < h.w := b; omega)
 | goo x => obtain ⟨m, h1, _⟩ := hD; obtain ⟨a, b, _⟩ := hm.each _ h1; exact within_ok (hi := h.w - 1) a (by have : x < h.w := b; omega)
 | lea x => obtain ⟨m, h1⟩ := hD; obtain ⟨a, b, _⟩ := hm.each _ h1; exact within_ok (hi := h.w - 1) a (by have : x < h.w := b; omega)
 | beg j ms' =>
   obtain ⟨h1, h2⟩ := hc _ hD
   obtain ⟨h3, h4, _⟩ := F.lt h2
   exact calling_ok (least := (i : Int) + 1) (by have : i < j := h1; omega) h3 h4
 | wor x => obtain ⟨h1, h2⟩ := hD; exact within_ok h1 h2
 | say x => rcases hD with rfl | rfl | rfl | rfl <;> rfl
theorem fit_wf (F : Fit h) : mWf (eH h) = true := by
 obtain ⟨b0, b3, w0, w3, n1, n3, f1, f4, kn, FK⟩ := F
 have fr : mFrame (eH h) = true := by
  show (mWithin (.int h.b) 0 99 && (mWithin (.int h.w) 0 6 && (mTupW (.tup (h.fs.map eC)) 1 40 && mTupW (.tup (h.ss.map eS)) 1 20))) = true
  have e3 : mTupW (.tup (h.fs.map eC)) 1 40 = true := by
   show (decide ((1 : Int) ≤ ((h.fs.map eC).length : Int)) && decide (((h.fs.map eC).length : Int) ≤ 40)) = true
   rw [List.length_map, decide_eq_true (by omega), decide_eq_true (by omega)]; rfl
  have e4 : mTupW (.tup (h.ss.map eS)) 1 20 = true := by
   show (decide ((1 : Int) ≤ ((h.ss.map eS).length : Int)) && decide (((h.ss.map eS).length : Int) ≤ 20)) = true
   rw [List.length_map, decide_eq_true (by omega), decide_eq_true (by omega)]; rfl
  rw [within_ok (by omega) (by omega), within_ok (by omega) (by omega), e3, e4]
  rfl
 show (mFrame (eH h) && (goS h.b h.w (h.ss.map eS).length 0 (h.ss.map eS) && (h.fs.map eC).all fun c => mCalling c 0 (h.ss.map eS).length h.w)) = true
 rw [fr, List.length_map, Bool.true_and]
 have e1 : goS h.b h.w h.ss.length 0 (h.ss.map eS) = true := by
  refine goS_ok (h.ss.map eS) 0 fun j t ht => ?_
  rw [List.getElem?_map] at ht
  cases e : h.ss[j]? with
  | none => rw [e] at ht; cases ht
  | some s =>
    rw [e] at ht
    have ht : eS s = t := Option.some.inj ht
    subst ht
    obtain ⟨ms, hk, hm, _, s6, _, _, sd⟩ := FK.at e
    show (mTupW (.tup (s.map eD)) 0 80 && ((s.map eD).all fun d => mDeed d ((0 + j : Nat) : Int) h.b h.w h.ss.length)) = true
    have e3 : mTupW (.tup (s.map eD)) 0 80 = true := by
     show (decide ((0 : Int) ≤ ((s.map eD).length : Int)) && decide (((s.map eD).length : Int) ≤ 80)) = true
     rw [List.length_map, decide_eq_true (by omega), decide_eq_true (by omega)]; rfl
    rw [e3, Bool.true_and, List.all_map, List.all_eq_true]
    intro d hd
    show mDeed (eD d) ((0 + j : Nat) : Int) h.b h.w h.ss.length = true
    rw [Nat.zero_add]
    exact deedF_ok FK hm (sd d hd)
 rw [e1, Bool.true_and, List.all_map, List.all_eq_true]
 intro c hc
 obtain ⟨c1, c2, c3⟩ := FK.lt (FK.fs c hc)
 exact calling_ok (n := h.ss.length) (least := 0) (j := c.1) (by omega) c1 c2
noncomputable def tot (ss : List Script) (st : List Calling) : Nat := (st.map fun c => (cnt ss c.1).1).sum
theorem fold_tot (ss : List Script) (N : Nat) : ∀ (ds : List Deed) (a : Nat × Nat), (∀ c ∈ begs ds, (cnt ss c.1).1 ≤ N ∧ (cnt ss c.1).2 ≤ 6 * (cnt ss c.1).1) →
  (ds.foldl (stp (cnt ss)) a).1 ≤ a.1 + N * (begs ds).length ∧ (ds.foldl (stp (cnt ss)) a).2 + 6 * a.1 ≤ a.2 + 6 * (ds.foldl (stp (cnt ss)) a).1 ∧ a.1 ≤ (ds.foldl (stp (cnt ss)) a).1
 | [], a, _ => by simp [begs]
 | d :: r, a, h => by
   rw [List.foldl_cons]
   cases d with
   | beg j ms =>
     have hj := h (j, ms) List.mem_cons_self
     obtain ⟨q1, q2, q3⟩ := fold_tot ss N r (stp (cnt ss) a (.beg j ms)) (fun c hc => h c (List.mem_cons_of_mem _ hc))
     have e1 : (stp (cnt ss) a (.beg j ms)).1 = a.1 + (cnt ss j).1 := rfl
     have e2 : (stp (cnt ss) a (.beg j ms)).2 = a.2 + (cnt ss j).2 := rfl
     have e3 : (begs (Deed.beg j ms :: r)).length = (begs r).length + 1 := rfl
     have hj1 : (cnt ss j).1 ≤ N := hj.1
     have hj2 : (cnt ss j).2 ≤ 6 * (cnt ss j).1 := hj.2
     rw [e1] at q1 q2 q3
     rw [e2] at q2
     rw [e3, Nat.mul_add]
     refine ⟨by omega, by omega, by omega⟩
   | _ => exact fold_tot ss N r a h
theorem fit_cnt (F : FitK h kn) : ∀ (m i : Nat), h.ss.length - i = m → i < h.ss.length → (cnt h.ss i).2 ≤ 6 * (cnt h.ss i).1 ∧ (cnt h.ss i).1 + 1 ≤ 2 ^ m := by
 intro m
 induction m using Nat.strongRecOn with
 | ind m ih =>
   intro i hm hi
   have hs : h.ss[i]? = some h.ss[i] := List.getElem?_eq_getElem hi
   obtain ⟨ms, hk, _, _, s6, _, s2, sd⟩ := F.at hs
   rw [cnt_eq (fit_later F) hs]
   obtain ⟨k, rfl⟩ : ∃ k, m = k + 1 := ⟨m - 1, by omega⟩
   have hpow : 2 ^ (k + 1) = 2 * 2 ^ k := by rw [Nat.pow_succ, Nat.mul_comm]
   have hp : 1 ≤ 2 ^ k := Nat.pos_of_ne_zero (fun z => by have := Nat.pow_eq_zero.mp z; omega)
   obtain ⟨q1, q2, q3⟩ := fold_tot h.ss (2 ^ k - 1) h.ss[i] (1, h.ss[i].length) fun c hc => by
    obtain ⟨h1, h2⟩ := F.beg hs (begs_mem _ c hc)
    obtain ⟨h3, _⟩ := F.lt h2
    obtain ⟨g1, g2⟩ := ih (h.ss.length - c.1) (by omega) c.1 rfl h3
    have := Nat.pow_le_pow_right (show 0 < 2 by decide) (show h.ss.length - c.1 ≤ k by omega)
    exact ⟨by omega, g1⟩
   have q1 : _ ≤ 1 + (2 ^ k - 1) * (begs h.ss[i]).length := q1
   have hmul : (2 ^ k - 1) * (begs h.ss[i]).length ≤ (2 ^ k - 1) * 2 := Nat.mul_le_mul_left _ s2
   have q2 : _ + 6 * 1 ≤ h.ss[i].length + 6 * _ := q2
   refine ⟨by omega, ?_⟩
   rw [hpow]
   omega
theorem sum_le {f : Calling → Int} {N : Int} : ∀ (fs : List Calling), (∀ c ∈ fs, 0 ≤ f c ∧ f c ≤ N) → (fs.map f).sum ≤ N * fs.length ∧ 0 ≤ (fs.map f).sum
 | [], _ => by simp
 | c :: r, h => by
   obtain ⟨q1, q2⟩ := sum_le r fun c' hc' => h c' (List.mem_cons_of_mem _ hc')
   obtain ⟨g1, g2⟩ := h c List.mem_cons_self
   rw [List.map_cons, List.sum_cons, List.length_cons]
   have : N * ((r.length + 1 : Nat) : Int) = N * r.length + N := by rw [Int.natCast_add, Int.mul_add]; simp
   omega
theorem fit_sums (F : Fit h) : hsum h ≤ 28 ∧ dsum h ≤ 168 := by
 obtain ⟨b0, b3, w0, w3, n1, n3, f1, f4, kn, FK⟩ := F
 have each : ∀ c ∈ h.fs, (cnt h.ss c.1).1 ≤ 7 ∧ (cnt h.ss c.1).2 ≤ 42 := fun c hc => by
  obtain ⟨c1, _⟩ := FK.lt (FK.fs c hc)
  obtain ⟨g1, g2⟩ := fit_cnt FK (h.ss.length - c.1) c.1 rfl c1
  have := Nat.pow_le_pow_right (show 0 < 2 by decide) (show h.ss.length - c.1 ≤ 3 by omega)
  omega
 have e1 := (sum_le (f := fun c => ((cnt h.ss c.1).1 : Int)) (N := 7) h.fs fun c hc => by have := each c hc; omega).1
 have e2 := (sum_le (f := fun c => ((cnt h.ss c.1).2 : Int)) (N := 42) h.fs fun c hc => by have := each c hc; omega).1
 unfold hsum dsum
 omega
theorem fit_good (F : Fit h) : Good h := by
 obtain ⟨e1, e2⟩ := fit_sums F
 obtain ⟨b0, b3, w0, w3, n1, n3, f1, f4, kn, FK⟩ := F
 refine ⟨⟨fit_later FK, by omega, by omega, fun c hc => (FK.lt (FK.fs c hc)).1, by omega, by omega⟩, fit_begOk FK, fun c hc => ?_⟩
 obtain ⟨_, c2, c3⟩ := FK.lt (FK.fs c hc)
 exact members_msOk c2 c3
theorem goF_of (rc : Nat → List Mem → Bool) : ∀ (ds : List Deed) (had : List Mem), goA ds had = true → (∀ c ∈ begs ds, rc c.1 c.2 = true) → goF rc ds had = true
 | [], _, _, _ => rfl
 | d :: r, had, h, hc => by
   unfold goA at h
   rw [Bool.and_eq_true] at h
   unfold goF
   rw [h.1, Bool.true_and]
   cases d with
   | lea w => exact goF_of rc r _ h.2 hc
   | beg j ms =>
     have e : rc j ms = true := hc (j, ms) List.mem_cons_self
     dsimp only
     rw [e, Bool.true_and]
     exact goF_of rc r had h.2 fun c hm => hc c (List.mem_cons_of_mem _ hm)
   | _ => exact goF_of rc r had h.2 hc
theorem fit_fits (F : FitK h kn) : ∀ (f i : Nat) (ms : List Mem), kn[i]? = some ms → mFits h.ss f i ms = true
 | 0, _, _, _ => rfl
 | f + 1, i, ms, hk => by
   obtain ⟨hi, _⟩ := F.lt hk
   have hs : h.ss[i]? = some h.ss[i] := List.getElem?_eq_getElem hi
   obtain ⟨_, hg, _, _⟩ := F.sc i _ ms hs hk
   show goF (mFits h.ss f) (h.ss.getD i []) ms = true
   have hgd : h.ss.getD i [] = h.ss[i] := by rw [List.getD_eq_getElem?_getD, hs]; rfl
   rw [hgd]
   exact goF_of _ _ _ hg fun c hc => fit_fits F f c.1 c.2 (F.beg hs (begs_mem _ c hc)).2
theorem fit_house (F : Fit h) : mHs h = true := by
 obtain ⟨e1, e2⟩ := fit_sums F
 have hw := fit_wf F
 obtain ⟨kn, FK⟩ := F.kn
 have hs : mSmall h = true := by
  unfold mSmall
  rw [decide_eq_true (by omega), decide_eq_true (by omega)]
  rfl
 have hf : (h.fs.all fun c => mFits h.ss 20 c.1 c.2) = true := by
  rw [List.all_eq_true]
  intro c hc
  exact fit_fits FK 20 c.1 c.2 (FK.fs c hc)
 unfold mHs
 rw [hw, hs, hf]
 rfl
theorem mems_sh {w : Int} {ms : List Mem} (hm : MemsOk w ms) : Sh (eMs ms) := by
 show ShL (ms.map eMem)
 rw [ShL.all]
 intro t ht
 obtain ⟨m, hmm, rfl⟩ := List.mem_map.mp ht
 have : m.2.length ≤ 1000 := by rcases (hm.each m hmm).2.2 with e | e | e <;> rw [e] <;> decide
 exact ⟨trivial, this, trivial⟩
theorem deed_sh (F : FitK h kn) {ms : List Mem} {i : Nat} {d : Deed} (hd : DeedF h.b ms i kn d) : Sh (eD d) := by
 obtain ⟨cs, hD, hc⟩ := hd
 have sh : ∀ x : Str, x.length ≤ 10 → x.length ≤ 1000 := fun x hx => by omega
 cases d with
 | beg j ms' =>
   obtain ⟨h1, h2⟩ := hc _ hD
   obtain ⟨_, h4, _⟩ := F.lt h2
   exact ⟨sh _ (by decide), trivial, mems_sh h4, trivial⟩
 | say x => exact ⟨sh _ (by decide), (by rcases hD with rfl | rfl | rfl | rfl <;> exact sh _ (by decide)), trivial⟩
 | rai _ _ => exact ⟨sh _ (by decide), trivial, trivial, trivial⟩
 | awa _ _ => exact ⟨sh _ (by decide), trivial, trivial, trivial⟩
 | com _ => exact ⟨sh _ (by decide), trivial, trivial⟩
 | goo _ => exact ⟨sh _ (by decide), trivial, trivial⟩
 | lea _ => exact ⟨sh _ (by decide), trivial, trivial⟩
 | wor _ => exact ⟨sh _ (by decide), trivial, trivial⟩
theorem script_sh (F : FitK h kn) {s : Script} (hs : s ∈ h.ss) : Sh (eS s) := by
 obtain ⟨i, hi, rfl⟩ := List.mem_iff_getElem.mp hs
 obtain ⟨ms, _, _, _, _, _, _, sd⟩ := F.at (List.getElem?_eq_getElem hi)
 show ShL (h.ss[i].map eD)
 rw [ShL.all]
 intro t ht
 obtain ⟨d, hd, rfl⟩ := List.mem_map.mp ht
 exact deed_sh F (sd d hd)
theorem firsts_sh (F : FitK h kn) : ShL (h.fs.map eC) := by
 rw [ShL.all]
 intro t ht
 obtain ⟨c, hc, rfl⟩ := List.mem_map.mp ht
 obtain ⟨_, c2, _⟩ := F.lt (F.fs c hc)
 exact ⟨trivial, mems_sh c2, trivial⟩
theorem scripts_sh (F : FitK h kn) : ShL (h.ss.map eS) := by
 rw [ShL.all]
 intro t ht
 obtain ⟨s, hs, rfl⟩ := List.mem_map.mp ht
 exact script_sh F hs
theorem fit_sh (F : Fit h) : Sh (eH h) := by
 obtain ⟨kn, FK⟩ := F.kn
 exact ⟨trivial, trivial, firsts_sh FK, scripts_sh FK, trivial⟩
end
theorem memsT {w : Int} (hw : w ≤ 3) {ms : List Mem} (h : MemsOk w ms) : ∀ m ∈ ms, MemT m ∧ Low m := fun m hm => by
 obtain ⟨h0, h1, h2⟩ := h.each m hm
 exact ⟨⟨⟨h0, by omega⟩, h2⟩, by unfold Low; omega⟩
section
variable {h : House} {kn : List (List Mem)}
theorem FitK.cal (F : FitK h kn) (hw : h.w ≤ 3) (hn : h.ss.length ≤ 3) {c : Calling} (e : kn[c.1]? = some c.2) : CalT c ∧ ∀ m ∈ c.2, Low m := by
 obtain ⟨h1, h2, h3⟩ := F.lt e
 exact ⟨⟨by omega, by omega, fun m hm => (memsT hw h2 m hm).1⟩, fun m hm => (memsT hw h2 m hm).2⟩
theorem FitK.ded (F : FitK h kn) (hb : h.b ≤ 99) (hw : h.w ≤ 3) (hn : h.ss.length ≤ 3) {ms : List Mem} (hm : MemsOk h.w ms) {i : Nat} {d : Deed} (hd : DeedF h.b ms i kn d) : DedT d ∧ LowD d := by
 obtain ⟨cs, hD, hc⟩ := hd
 cases d with
 | rai x k => obtain ⟨h1, h2, h3, h4⟩ := hD; exact ⟨⟨⟨h1, by omega⟩, ⟨by omega, by omega⟩⟩, trivial⟩
 | awa x m => obtain ⟨h1, h2, h3, h4⟩ := hD; exact ⟨⟨⟨h1, by omega⟩, ⟨by omega, by omega⟩⟩, trivial⟩
 | com x => obtain ⟨m, h1, _⟩ := hD; exact ⟨(memsT hw hm _ h1).1.1, trivial⟩
 | goo x => obtain ⟨m, h1, _⟩ := hD; exact ⟨(memsT hw hm _ h1).1.1, trivial⟩
 | lea x => obtain ⟨m, h1⟩ := hD; exact ⟨(memsT hw hm _ h1).1.1, trivial⟩
 | beg j ms' => exact F.cal hw hn (c := (j, ms')) (hc _ hD).2
 | wor x => obtain ⟨h1, h2⟩ := hD; exact ⟨⟨h1, by omega⟩, trivial⟩
 | say x => exact ⟨hD, trivial⟩
end
theorem fit_T {h : House} (F : Fit h) : HouT h ∧ LowH h := by
 obtain ⟨kn, FK⟩ := F.kn
 have each : ∀ s ∈ h.ss, s.length ≤ 10 ∧ ∀ d ∈ s, DedT d ∧ LowD d := fun s hs => by
  obtain ⟨i, hi⟩ := List.mem_iff_getElem?.mp hs
  obtain ⟨ms, _, hm, _, hl, _, _, hd⟩ := FK.at hi
  exact ⟨by omega, fun d hdd => FK.ded F.b3 F.w3 F.n3 hm (hd d hdd)⟩
 have h1 := F.b0; have h2 := F.b3; have h3 := F.w0; have h4 := F.w3; have h5 := F.n1; have h6 := F.n3; have h7 := F.f1; have h8 := F.f4
 refine ⟨⟨⟨h1, by omega⟩, ⟨h3, by omega⟩, by omega, fun z => ?_, fun c hc => (FK.cal F.w3 F.n3 (FK.fs c hc)).1, by omega, fun z => ?_, fun s hs => ⟨(each s hs).1, fun d hd => ((each s hs).2 d hd).1⟩⟩, ⟨fun c hc => (FK.cal F.w3 F.n3 (FK.fs c hc)).2, fun s hs d hd => ((each s hs).2 d hd).2⟩⟩
 · rw [z] at h7; cases h7
 · rw [z] at h5; cases h5
abbrev s_mayCall : Stmt := top 62
abbrev s_houseDeed : Stmt := top 63
abbrev s_houseE : Stmt := top 64
noncomputable def spHn : Sp := fun vs H Q _ => ∃ (hd : Addr) (had ms : List Mem) (v : V), vs = [.ref hd, v] ∧ H hd = some (.dK (eHad had)) ∧ Is H (eMs ms) v ∧ ms.length ≤ 1000 ∧ ∀ H', Same H H' → Q (.bl (mHand had ms)) H'
theorem sc_mayCall : FnScope ["have", "called", "place", "mode"] ["have", "called"] (defScope s_mayCall) := ⟨rfl, rfl, rfl, by decide +kernel, rfl, by decide +kernel, by decide +kernel⟩
theorem ok_mayCall (D : Def K mg "_law_e_may_call" s_mayCall) (T : Txt K mg) : Ok P w K mg base "_law_e_may_call" 1 ["have", "called"] spHn := by
 refine mkOk D sc_mayCall (fun _ _ _ _ _ _ us hl => (match us, hl with | [_, _], _ => rfl)) (fun vs H Q E ⟨_, _, _, _, e, _⟩ => by rw [e]; rfl) fun f cdv A outer sh H vs Q E hr h => ?_
 obtain ⟨hd, had, ms, v, rfl, hhd, hv, hml0, k⟩ := h
 have hu := hu_of hr
 have nd := sc_mayCall.nd
 refine ⟨_, pss_cons (ps_for PassesOwn.never rfl (pi_tup (pv 1)) (pg_tup rfl (pgs_cons (pg_name (i := 2) nd rfl (Or.inl rfl)) (pgs_cons (pg_name (i := 3) nd rfl (Or.inl rfl)) pgs_nil)))
   (pss_one (ps_if (PW.pt (pw_or (pt_cmp (pc_dnotin hu (pv 2) (pv 0))) (pw_or1 (pt_cmpR op_notIn_seq (pe_dget hu (pv 0) (pv 2) (fun _ _ => rfl)) (pe_tup (pa_cons (pv 3) (pa_cons pe_str pa_nil))) rfl)))) (pss_one (ps_ret pe_bl)) pss_nil)))
  (pss_one (ps_ret pe_bl)), ?_⟩
 obtain ⟨am, xm, rfl, ham, hlm⟩ := hv
 have hml := hlm.length
 rw [List.length_map] at hml
 refine ⟨_, rfl, am, rfl, ⟨xm, SqT.of ham⟩, ?_⟩
 refine for_tup (xs := xm) (fun i σ H3 => Same H H3 ∧ (ms.take i).all (handOk had) = true ∧ ∃ x2 x3, σ = [some (.ref hd), some (.ref am), x2, x3]) ⟨Same.refl H, rfl, none, none, rfl⟩ (fun i σ H3 hi ⟨s3, _⟩ => SqT.of (s3 _ _ ham)) ?_ ?_
 · rintro i x σ H3 hx ⟨s3, hall, x2, x3, rfl⟩
   obtain ⟨tt, htt, hxt⟩ := hlm.get' hx
   rw [List.getElem?_map] at htt
   obtain ⟨m, hm, rfl⟩ : ∃ m, ms[i]? = some m ∧ eMem m = tt := by
    cases e : ms[i]? with
    | none => rw [e] at htt; cases htt
    | some z => rw [e] at htt; exact ⟨z, rfl, Option.some.inj htt⟩
   obtain ⟨a6, rfl, ha6⟩ := mem_open (hxt.mono s3)
   refine ⟨a6, _, rfl, SqT.of ha6, rfl, _, _, rfl, _, _, rfl, rfl, ?_⟩
   have hhd3 := s3 _ _ hhd
   have get3 : DGet H3 hd (.int m.1) ((getM had m.1).map V.str) := by
    have q := DGet.k (k := (Sum.inl m.1 : Key)) hhd3
    rw [val_had] at q
    exact q
   have bad : handOk had m = false → mHand had ms = false := fun e => by
    unfold mHand
    rw [List.all_eq_false]
    exact ⟨m, List.mem_of_getElem? hm, by rw [e]; decide⟩
   cases e : getM had m.1 with
   | none =>
     rw [e] at get3
     have b := bad (by unfold handOk; rw [e])
     refine ⟨_, rfl, _, rfl, hd, _, rfl, get3, _, rfl, iteT (iteT ?_)⟩
     rw [← b]
     exact k _ s3
   | some x =>
     rw [e] at get3
     refine ⟨_, rfl, _, rfl, hd, _, rfl, get3, _, rfl, iteF ?_⟩
     refine ⟨_, rfl, _, rfl, hd, _, rfl, get3, _, rfl, (by show 2 ≤ sizeLine; decide), fun p2 hp2 => ⟨p2, _, rfl, .inr (SqT.of upd_same), rfl, rfl, _, rfl, ?_⟩⟩
     have s4 := s3.trans (Same.new hp2 (.tup [.str m.2, .str "both"]))
     generalize upd H3 p2 (.tup [.str m.2, .str "both"]) = H4 at s4 ⊢
     rw [if_pos rfl]
     have ho : handOk had m = inV (.str x) [.str m.2, .str "both"] := by unfold handOk; rw [e]
     cases z : inV (.str x) [.str m.2, .str "both"] with
     | false =>
       have b := bad (by rw [ho, z])
       refine iteT ?_
       rw [← b]
       exact k _ s4
     | true =>
       refine iteF ⟨s4, ?_, _, _, rfl⟩
       rw [List.take_add_one, hm, List.all_append, hall]
       show (true && (handOk had m && true)) = true
       rw [ho, z]
       rfl
 rintro σ H3 ⟨s3, hall, x2, x3, rfl⟩
 rw [hml, List.take_length] at hall
 have e : mHand had ms = true := hall
 rw [← e]
 exact k _ s3
theorem bt_sorted : bootBuiltins "sorted" = some (.builtin "sorted") := by decide +kernel
theorem But.new {a p : Addr} {H : Hp} {o : HO} (h : H p = none) : But a H (L2.upd H p o) := fun b u _ e => by rw [upd_ne (ne_of_none e h)]; exact e
theorem tIf_and {t1 t2 : TT} {tb tn : TS} {D : Ends} {σ : L2.St} {H : Hp} (G : Hp → Prop) (b : Bool) (g : G H) (h1 : ∀ Q : Bool → Hp → Prop, Q b H → t1 σ H Q) (s : ∀ H', G H' → tn D σ H')
  (r : (∀ H', G H' → tn D σ H') → b = true → t2 σ H fun c H1 => if c = true then tb D σ H1 else tn D σ H1) : tIfS (tAnd t1 t2) tb tn D σ H := by
 refine h1 _ ?_
 cases b with
 | true => exact iteT (r s rfl)
 | false => exact iteF (iteF (s H g))
theorem tIf_one {t1 : TT} {tb tn : TS} {D : Ends} {σ : L2.St} {H : Hp} (G : Hp → Prop) (b : Bool) (g : G H) (h1 : ∀ Q : Bool → Hp → Prop, Q b H → t1 σ H Q) (s : ∀ H', G H' → tn D σ H')
  (r : b = true → tb D σ H) : tIfS t1 tb tn D σ H := by
 refine h1 _ ?_
 cases b with
 | true => exact iteT (r rfl)
 | false => exact iteF (s H g)
theorem tIf_any {t1 : TT} {tb : TS} {D : Ends} {σ : L2.St} {H : Hp} (R : L2.St → Hp → Prop) (b : Bool) (h1 : ∀ Q : Bool → Hp → Prop, Q b H → t1 σ H Q) (hn : ∀ σ' H', R σ' H' → D.nx σ' H')
  (h0 : b = false → R σ H) (ht : b = true → (∀ σ' H', R σ' H' → D.nx σ' H') → tb D σ H) : tIfS t1 tb tNext D σ H := by
 refine h1 _ ?_
 cases b with
 | true => exact iteT (ht rfl hn)
 | false => exact iteF (hn _ _ (h0 rfl))
abbrev Lat := List (Calling × V)
noncomputable def kvL (cs : Lat) : List (Key × V) := cs.map fun x => ((Sum.inl (x.1.1 : Int) : Key), x.2)
noncomputable def kyL (cs : Lat) : List Int := cs.map fun x => (x.1.1 : Int)
theorem kvL_keys (cs : Lat) : (kvL cs).map (·.1) = (kyL cs).map (Sum.inl : Int → Key) := by
 unfold kvL kyL
 rw [List.map_map, List.map_map]
 rfl
theorem kvL_get : ∀ {cs : Lat}, (kyL cs).Nodup → ∀ {x : Calling × V}, x ∈ cs → valV (kvL cs) (Sum.inl (x.1.1 : Int) : Key) = some x.2
 | y :: r, hn, x, hx => by
   unfold kyL at hn
   rw [List.map_cons, List.nodup_cons] at hn
   unfold valV kvL
   rw [List.map_cons, List.find?_cons]
   rcases List.mem_cons.mp hx with rfl | hx
   · rw [decide_eq_true rfl]; rfl
   · have ne : ((Sum.inl (y.1.1 : Int) : Key)) ≠ Sum.inl (x.1.1 : Int) := fun z => hn.1 (by rw [show ((y.1.1 : Nat) : Int) = x.1.1 from Sum.inl.inj z]; exact List.mem_map_of_mem (f := fun x : Calling × V => (x.1.1 : Int)) hx)
     rw [decide_eq_false ne]
     exact kvL_get (cs := r) hn.2 hx
theorem had_keys (had : List Mem) : (eHad had).map (·.1) = (had.map (·.1)).map (Sum.inl : Int → Key) := by
 unfold eHad
 rw [List.map_map, List.map_map]
 rfl
structure LatAt (H : Hp) (lt : Addr) (cs : Lat) : Prop where
 at' : H lt = some (.dK (kvL cs))
 nd : (kyL cs).Nodup
 few : cs.length ≤ 10
 each : ∀ x ∈ cs, Is H (eMs x.1.2) x.2 ∧ x.1.2.length ≤ 10
noncomputable def mayOf (had : List Mem) (cs : Lat) : List Calling := (cs.map (·.1)).filter fun c => mHand had c.2
noncomputable def spHd (K : PySem.W.Frag) : Sp := fun vs H Q _ => ∃ (a s : Addr) (ns : List Int) (b : Int) (hd : Addr) (had : List Mem) (lt : Addr) (cs : Lat), vs = [.ref a, .int b, .ref hd, .ref lt] ∧ Tape K H a s ns ∧ 0 ≤ b ∧ b ≤ 99 ∧
 H hd = some (.dK (eHad had)) ∧ (had.map (·.1)).Nodup ∧ had.length ≤ 10 ∧ LatAt H lt cs ∧ ∀ d v H', Drawn b had (mayOf had cs) d → But a H H' → Tape K H' a s ns → Is H' (eD d) v → Q v H'
theorem pick4 {j : Int} (h0 : 0 ≤ j) (h1 : j < 4) : ∃ m, atI ([.int 1, .int 1, .int 2, .int 99] : List V) j = some (.int m) ∧ 1 ≤ m ∧ m ≤ 99 := by
 have : j = 0 ∨ j = 1 ∨ j = 2 ∨ j = 3 := by omega
 rcases this with rfl | rfl | rfl | rfl <;> exact ⟨_, rfl, by decide, by decide⟩
theorem pick6 {j : Int} (h0 : 0 ≤ j) (h1 : j < 6) : ∃ m, atI ([.int 1, .int 1, .int 2, .int 3, .int 99, .int 9999] : List V) j = some (.int m) ∧ 1 ≤ m ∧ m ≤ 9999 := by
 have : j = 0 ∨ j = 1 ∨ j = 2 ∨ j = 3 ∨ j = 4 ∨ j = 5 := by omega
 rcases this with rfl | rfl | rfl | rfl | rfl | rfl <;> exact ⟨_, rfl, by decide, by decide⟩
theorem pickW {j : Int} (h0 : 0 ≤ j) (h1 : j < 4) : ∃ m, atI ([.int 0, .int 1, .int 7, .int 999] : List V) j = some (.int m) ∧ 0 ≤ m ∧ m ≤ 999 := by
 have : j = 0 ∨ j = 1 ∨ j = 2 ∨ j = 3 := by omega
 rcases this with rfl | rfl | rfl | rfl <;> exact ⟨_, rfl, by decide, by decide⟩
theorem pickS {j : Int} (h0 : 0 ≤ j) (h1 : j < 4) : ∃ m, atI ([.str "a", .str "come", .str "go", .str "zzzzzzzz"] : List V) j = some (.str m) ∧ Four m := by
 have : j = 0 ∨ j = 1 ∨ j = 2 ∨ j = 3 := by omega
 rcases this with rfl | rfl | rfl | rfl
 · exact ⟨"a", rfl, .inl rfl⟩
 · exact ⟨"come", rfl, .inr (.inl rfl)⟩
 · exact ⟨"go", rfl, .inr (.inr (.inl rfl))⟩
 · exact ⟨"zzzzzzzz", rfl, .inr (.inr (.inr rfl))⟩
theorem at_of {xs : List V} {j : Int} (h0 : 0 ≤ j) (h1 : j < (xs.length : Int)) : ∃ x, atI xs j = some x ∧ x ∈ xs := by
 obtain ⟨n, rfl⟩ : ∃ n : Nat, j = (n : Int) := ⟨j.toNat, by omega⟩
 have hn : n < xs.length := by omega
 exact ⟨xs[n], atI_nat (List.getElem?_eq_getElem hn), List.getElem_mem hn⟩
theorem ms_tups {H H' : Hp} (t : Tups H H') {ms : List Mem} {v : V} (i : Is H (eMs ms) v) : Is H' (eMs ms) v := by
 obtain ⟨a, xs, rfl, h, l⟩ := i
 exact ⟨a, xs, rfl, t _ _ h, l.tups t (froMs ms)⟩
theorem LatAt.to {H H' : Hp} {lt : Addr} {cs : Lat} (L : LatAt H lt cs) (t : Tups H H') (e : H' lt = H lt) : LatAt H' lt cs := ⟨by rw [e]; exact L.at', L.nd, L.few, fun x hx => ⟨ms_tups t (L.each x hx).1, (L.each x hx).2⟩⟩
noncomputable def WdOk (b : Int) (had : List Mem) (cs : List Calling) (pl : Int) (x : V) : Prop := ∃ w d, x = .str w ∧ eD d = .tup [.str w, .int pl] ∧ Drawn b had cs d
theorem sc_houseDeed : FnScope ["deck", "boxes", "have", "later", "way", "had", "place", "some", "fit", "at"] ["deck", "boxes", "have", "later"] (defScope s_houseDeed) := ⟨rfl, rfl, rfl, by decide +kernel, rfl, by decide +kernel, by decide +kernel⟩
theorem ok_houseDeed (D : Def K mg "_law_e_house_deed" s_houseDeed) (T : Txt K mg) (o1 : Ok P w K mg base "_law_e_pick" 2 ["deck", "many"] (spPk K)) (o2 : Ok P w K mg base "_law_e_may_call" 1 ["have", "called"] spHn) : Ok P w K mg base "_law_e_house_deed" 3 ["deck", "boxes", "have", "later"] (spHd K) := by
 refine mkOk D sc_houseDeed (fun _ _ _ _ _ _ us hl => (match us, hl with | [_, _, _, _], _ => rfl)) (fun vs H Q E ⟨_, _, _, _, _, _, _, _, e, _⟩ => by rw [e]; rfl) fun f cdv A outer sh H vs Q E hr h => ?_
 obtain ⟨a, s, ns, nb, hd, had, lt, cs, rfl, hT, hb0, hb9, hhd, hnd, hhl, hL, k⟩ := h
 have r1 := hr.mono (show 1 ≤ 2 by decide)
 have hu := hu_of hr
 have nd := sc_houseDeed.nd
 refine ⟨_, pss_cons (ps_set (i := 4) nd rfl (Or.inl rfl) (pe_fn o1 hr (pa_cons (pv 0) (pa_cons pe_int pa_nil))))
  (pss_cons (ps_set (i := 5) nd rfl (Or.inl rfl) (pe_callB (call_sortD rfl) rfl T.sorted bt_sorted (pa_cons (pv 2) pa_nil)))
  (pss_cons (ps_if (PW.pt (pw_and (pt_cmpR op_lt (pv 4) pe_int (nomark _)) (pw_and1 (pt_cmpR op_gt (pv 1) pe_int (nomark _)))))
   (pss_one (ps_ret (pe_tup (pa_cons pe_str (pa_cons (pe_fn o1 hr (pa_cons (pv 0) (pa_cons (pv 1) pa_nil))) (pa_cons (pe_ix ix_list (pe_lst (pa_cons pe_int (pa_cons pe_int (pa_cons pe_int (pa_cons pe_int pa_nil))))) (pe_fn o1 hr (pa_cons (pv 0) (pa_cons pe_int pa_nil))) (fun _ _ => rfl)) pa_nil)))))) pss_nil)
  (pss_cons (ps_if (PW.pt (pw_and (pt_cmpR op_lt (pv 4) pe_int (nomark _)) (pw_and1 (pt_cmpR op_gt (pv 1) pe_int (nomark _)))))
   (pss_one (ps_ret (pe_tup (pa_cons pe_str (pa_cons (pe_fn o1 hr (pa_cons (pv 0) (pa_cons (pv 1) pa_nil))) (pa_cons (pe_ix ix_list (pe_lst (pa_cons pe_int (pa_cons pe_int (pa_cons pe_int (pa_cons pe_int (pa_cons pe_int (pa_cons pe_int pa_nil))))))) (pe_fn o1 hr (pa_cons (pv 0) (pa_cons pe_int pa_nil))) (fun _ _ => rfl)) pa_nil)))))) pss_nil)
  (pss_cons (ps_if (PW.pt (pw_and (pt_cmpR op_lt (pv 4) pe_int (nomark _)) (pw_and1 (pt_cmpR (op_neL0 hr.units0) (pv 5) (pe_lst pa_nil) (nomark _)))))
   (pss_cons (ps_set (i := 6) nd rfl (Or.inl rfl) (pe_ix ix_list (pv 5) (pe_fn o1 hr (pa_cons (pv 0) (pa_cons (pe_callB call_len_seq rfl T.len bt_len (pa_cons (pv 5) pa_nil)) pa_nil))) (fun _ _ => rfl)))
   (pss_cons (ps_set (i := 7) nd rfl (Or.inl rfl) (pe_lst (pa_cons pe_str pa_nil)))
   (pss_cons (ps_if (pt_cmpR op_ne (pe_dget hu (pv 2) (pv 6) (fun _ _ => rfl)) pe_str (nomark _)) (pss_one (ps_set (i := 7) nd rfl (Or.inl rfl) (pe_op op_cat (pv 7) (pe_lst (pa_cons pe_str (pa_cons pe_str pa_nil)))))) pss_nil)
   (pss_cons (ps_if (pt_cmpR op_ne (pe_dget hu (pv 2) (pv 6) (fun _ _ => rfl)) pe_str (nomark _)) (pss_one (ps_set (i := 7) nd rfl (Or.inl rfl) (pe_op op_cat (pv 7) (pe_lst (pa_cons pe_str (pa_cons pe_str pa_nil)))))) pss_nil)
   (pss_one (ps_ret (pe_tup (pa_cons (pe_ix ix_list (pv 7) (pe_fn o1 hr (pa_cons (pv 0) (pa_cons (pe_callB call_len_seq rfl T.len bt_len (pa_cons (pv 7) pa_nil)) pa_nil))) (fun _ _ => rfl)) (pa_cons (pv 6) pa_nil))))))))) pss_nil)
  (pss_cons (ps_lc (i := 8) (own := ["at"]) (cap := [2, 3]) rfl (lcScope (defScope s_houseDeed) rfl rfl (by decide +kernel) (by decide +kernel) (by decide +kernel) ⟨⟨_, rfl, .inl rfl, noLoc rfl⟩, ⟨_, rfl, .inl rfl, noLoc rfl⟩, trivial⟩)
   (pi_list (pe_callB (call_sortD rfl) rfl T.sorted bt_sorted (pa_cons (pv 3) pa_nil))) (fun _ _ _ _ => pg_name (i := 0) (by show (["at", "have", "later"] : List Str).Nodup; decide +kernel) rfl (Or.inl rfl))
   (fun _ _ _ _ => pif_one (pt_val (pe_fn o2 r1 (pa_cons (pv 1) (pa_cons (pe_dget hu (pv 2) (pv 0) (fun _ _ => rfl)) pa_nil))))) (fun _ _ _ _ => pv 0) nd rfl rfl (by with_unfolding_all rfl))
  (pss_cons (ps_if (PW.pt (pw_and (pt_cmpR op_eq (pv 4) pe_int (nomark _)) (pw_and1 (pt_cmpR (op_neL0 hr.units0) (pv 8) (pe_lst pa_nil) (nomark _)))))
   (pss_cons (ps_set (i := 9) nd rfl (Or.inl rfl) (pe_ix ix_list (pv 8) (pe_fn o1 hr (pa_cons (pv 0) (pa_cons (pe_callB call_len_seq rfl T.len bt_len (pa_cons (pv 8) pa_nil)) pa_nil))) (fun _ _ => rfl)))
   (pss_one (ps_ret (pe_tup (pa_cons pe_str (pa_cons (pv 9) (pa_cons (pe_dget hu (pv 3) (pv 9) (fun _ _ => rfl)) pa_nil))))))) pss_nil)
  (pss_cons (ps_if (pt_cmpR op_eq (pv 4) pe_int (nomark _))
   (pss_one (ps_ret (pe_tup (pa_cons pe_str (pa_cons (pe_ix ix_list (pe_lst (pa_cons pe_str (pa_cons pe_str (pa_cons pe_str (pa_cons pe_str pa_nil))))) (pe_fn o1 hr (pa_cons (pv 0) (pa_cons pe_int pa_nil))) (fun _ _ => rfl)) pa_nil))))) pss_nil)
  (pss_one (ps_ret (pe_tup (pa_cons pe_str (pa_cons (pe_ix ix_list (pe_lst (pa_cons pe_int (pa_cons pe_int (pa_cons pe_int (pa_cons pe_int pa_nil))))) (pe_fn o1 hr (pa_cons (pv 0) (pa_cons pe_int pa_nil))) (fun _ _ => rfl)) pa_nil)))))))))))), ?_⟩
 refine ⟨_, rfl, a, s, ns, 10, rfl, hT, by decide, by decide, fun way H1 w0 w1 b1 t1 => ?_⟩
 obtain ⟨p0, r0, ha0, _, _⟩ := hT.at'
 have hda : hd ≠ a := ne_of hhd ha0 (by intro z; cases z)
 have lta : lt ≠ a := ne_of hL.at' ha0 (by intro z; cases z)
 have hhd1 := b1 _ _ hda hhd
 have hnl : (had.map (·.1)).length < 64 := by rw [List.length_map]; omega
 refine ⟨_, rfl, hd, eHad had, had.map (·.1), rfl, .inl hhd1, had_keys had, hnl, fun ns' l hp ho hl => ?_⟩
 have s2 := Same.new hl (.lst (ns'.map V.int))
 have g2 : upd H1 l (.lst (ns'.map V.int)) l = some (.lst (ns'.map V.int)) := upd_same
 have la : l ≠ a := fun z => by
  obtain ⟨_, _, e, _⟩ := t1.at'
  rw [z, e] at hl
  cases hl
 generalize upd H1 l (.lst (ns'.map V.int)) = H2 at s2 g2 ⊢
 have t2 := t1.same s2
 have b2 : But a H H2 := b1.trans (Same.but s2)
 have hhd2 := s2 _ _ hhd1
 have hL2 : LatAt H2 lt cs := hL.to (hT.tups b2) (by rw [b2 _ _ lta hL.at', hL.at'])
 have hnn : ns'.length = had.length := by
  have := hp.length_eq
  rw [List.length_map] at this
  exact this
 have G0 : But a H2 H2 ∧ Tape K H2 a s ns := ⟨But.refl a H2, t2⟩
 have facts : ∀ H', But a H2 H' ∧ Tape K H' a s ns → H' hd = some (.dK (eHad had)) ∧ H' l = some (.lst (ns'.map V.int)) ∧ LatAt H' lt cs := fun H' ⟨b, t⟩ =>
  ⟨b _ _ hda hhd2, b _ _ la g2, hL2.to (t2.tups b) (by rw [b _ _ lta hL2.at', hL2.at'])⟩
 have newer : ∀ {H0 H' : Hp} {p : Addr} {z : HO}, (But a H0 H' ∧ Tape K H' a s ns) → H' p = none → (But a H0 (upd H' p z) ∧ Tape K (upd H' p z) a s ns) := fun {H0 H' p z} g hp => ⟨g.1.trans (But.new hp), g.2.same (Same.new hp _)⟩
 have fresh : ∀ {H' : Hp} {p : Addr}, Tape K H' a s ns → H' p = none → p ≠ a := fun {H' p} t hp z => by
  obtain ⟨_, _, e, _⟩ := t.at'
  rw [z, e] at hp
  cases hp
 dsimp only [tSeq, tNext]
 refine tIf_and (fun H' => But a H2 H' ∧ Tape K H' a s ns) _ G0 (fun Q q => ⟨_, rfl, way, 2, rfl, rfl, _, rfl, q⟩) (fun H4 g4 => ?_) (fun rest _ => ?_)
 rotate_left
 · refine ⟨_, rfl, _, _, rfl, rfl, _, rfl, ite2 (fun c2 => ?_) (fun _ => rest H2 G0)⟩
   have c2 : nb > 0 := of_decide_eq_true c2
   refine ⟨_, rfl, _, rfl, a, s, ns, nb, rfl, G0.2, c2, by omega, fun x Hx x0 x1 bx tx => ⟨(by show 4 ≤ sizeLine; decide), fun pl hpl => ⟨_, rfl, a, s, ns, 4, rfl, tx.same (Same.new hpl _), by decide, by decide, fun y Hy y0 y1 by' ty => ?_⟩⟩⟩
   obtain ⟨m, hat, m1, m2⟩ := pick4 y0 y1
   refine ⟨pl, _, y, _, rfl, rfl, SqL.of (by' _ _ (fresh tx hpl) upd_same), hat, by show 3 ≤ sizeLine; decide, fun q hq => ?_⟩
   exact k (.rai x m) _ _ ⟨x0, x1, m1, m2⟩ (b2.trans (G0.1.trans (bx.trans ((But.new hpl).trans (by'.trans (But.new hq)))))) (ty.same (Same.new hq _)) (Is.newTup hq (IsL.three rfl rfl rfl))
 dsimp only [tSeq, tNext]
 refine tIf_and (fun H' => But a H2 H' ∧ Tape K H' a s ns) _ g4 (fun Q q => ⟨_, rfl, way, 4, rfl, rfl, _, rfl, q⟩) (fun H5 g5 => ?_) (fun rest _ => ?_)
 rotate_left
 · refine ⟨_, rfl, _, _, rfl, rfl, _, rfl, ite2 (fun c2 => ?_) (fun _ => rest H4 g4)⟩
   have c2 : nb > 0 := of_decide_eq_true c2
   refine ⟨_, rfl, _, rfl, a, s, ns, nb, rfl, g4.2, c2, by omega, fun x Hx x0 x1 bx tx => ⟨(by show 6 ≤ sizeLine; decide), fun pl hpl => ⟨_, rfl, a, s, ns, 6, rfl, tx.same (Same.new hpl _), by decide, by decide, fun y Hy y0 y1 by' ty => ?_⟩⟩⟩
   obtain ⟨m, hat, m1, m2⟩ := pick6 y0 y1
   refine ⟨pl, _, y, _, rfl, rfl, SqL.of (by' _ _ (fresh tx hpl) upd_same), hat, by show 3 ≤ sizeLine; decide, fun q hq => ?_⟩
   exact k (.awa x m) _ _ ⟨x0, x1, m1, m2⟩ (b2.trans (g4.1.trans (bx.trans ((But.new hpl).trans (by'.trans (But.new hq)))))) (ty.same (Same.new hq _)) (Is.newTup hq (IsL.three rfl rfl rfl))
 dsimp only [tSeq, tNext]
 refine tIf_and (fun H' => But a H2 H' ∧ Tape K H' a s ns) _ g5 (fun Q q => ⟨_, rfl, way, 7, rfl, rfl, _, rfl, q⟩) (fun H6 g6 => ?_) (fun rest _ => ?_)
 rotate_left
 · refine ⟨_, rfl, (by show 0 ≤ sizeLine; decide), fun pe hpe => ⟨l, pe, _, rfl, rfl, SqL.of (facts _ (newer g5 hpe)).2.1, SqL.of upd_same, _, rfl, ite2 (fun c2 => ?_) (fun _ => rest _ (newer g5 hpe))⟩⟩
   have g5' := newer (z := .lst []) g5 hpe
   generalize upd H5 pe (.lst []) = H5' at g5' ⊢
   have hpos : 0 < ns'.length := by
    cases ns' with
    | nil => cases c2
    | cons x r => exact Nat.succ_pos _
   have F5 := facts _ g5'
   refine ⟨_, rfl, _, rfl, _, rfl, l, _, rfl, .inl (SqL.of F5.2.1), a, s, ns, _, rfl, g5'.2, by rw [List.length_map]; omega, by rw [List.length_map]; omega, fun j H6 j0 j1 b6 t6 => ?_⟩
   have g6 : But a H2 H6 ∧ Tape K H6 a s ns := ⟨g5'.1.trans b6, t6⟩
   obtain ⟨x, hx, hmem⟩ := at_of j0 j1
   obtain ⟨pl, hpl, rfl⟩ := List.mem_map.mp hmem
   obtain ⟨m, hm, rfl⟩ := List.mem_map.mp (hp.mem_iff.mp hpl)
   refine ⟨l, _, j, _, rfl, rfl, SqL.of (facts _ g6).2.1, hx, ?_⟩
   refine ⟨by show 1 ≤ sizeLine; decide, fun p7 hp7 => ?_⟩
   have g7 := newer (z := .lst [.str "leave"]) g6 hp7
   have q7 : upd H6 p7 (.lst [.str "leave"]) p7 = some (.lst [.str "leave"]) := upd_same
   have p7a := fresh t6 hp7
   generalize upd H6 p7 (.lst [.str "leave"]) = H7 at g7 q7 ⊢
   have dget : ∀ H', But a H2 H' ∧ Tape K H' a s ns → DGet H' hd (.int m.1) (some (.str m.2)) := fun H' g => by
    have q := DGet.k (k := (Sum.inl m.1 : Key)) (facts _ g).1
    rw [val_had, getM_mem hnd hm] at q
    exact q
   have wl : WdOk nb had (mayOf had cs) m.1 (.str "leave") := ⟨"leave", .lea m.1, rfl, rfl, m.2, hm⟩
   dsimp only [tSeq, tNext]
   refine tIf_any (fun σ' H' => ∃ q xs, σ' = [some (.ref a), some (.int nb), some (.ref hd), some (.ref lt), some (.int way), some (.ref l), some (.int m.1), some (.ref q), none, none] ∧ (But a H2 H' ∧ Tape K H' a s ns) ∧ H' q = some (.lst xs) ∧ q ≠ a ∧ xs ≠ [] ∧ xs.length ≤ 3 ∧ ∀ x ∈ xs, WdOk nb had (mayOf had cs) m.1 x)
    (!decide (V.str m.2 = V.str "go")) (fun Q q => ⟨_, rfl, _, rfl, hd, _, rfl, dget _ g7, rfl, _, rfl, q⟩) (fun σ8 H8 r8 => ?_) (fun _ => ⟨p7, _, rfl, g7, q7, p7a, by simp, by show 1 ≤ 3; decide, fun x hx => by rw [List.mem_singleton.mp hx]; exact wl⟩) (fun e nx => ?_)
   rotate_left
   · have ne : m.2 ≠ "go" := fun z => by rw [z] at e; simp at e
     have wc : WdOk nb had (mayOf had cs) m.1 (.str "come") := ⟨"come", .com m.1, rfl, rfl, m.2, hm, ne⟩
     refine ⟨_, rfl, by show 2 ≤ sizeLine; decide, fun pa hpa => ⟨p7, pa, _, _, rfl, rfl, Same.new hpa _ _ _ q7, upd_same, by show 3 ≤ sizeLine; decide, fun pb hpb => ?_⟩⟩
     have g8 := newer (z := .lst [.str "come", .str "come"]) g7 hpa
     refine nx _ _ ⟨pb, _, rfl, newer g8 hpb, upd_same, fresh g8.2 hpb, by simp, by show 3 ≤ 3; decide, fun x hx => ?_⟩
     rcases List.mem_append.mp hx with hx | hx
     · rw [List.mem_singleton.mp hx]; exact wl
     · rcases List.mem_cons.mp hx with rfl | hx
       · exact wc
       · rw [List.mem_singleton.mp hx]; exact wc
   obtain ⟨q8, xs8, rfl, g8, h8, q8a, n8, l8, w8⟩ := r8
   dsimp only [tSeq, tNext]
   refine tIf_any (fun σ' H' => ∃ q xs, σ' = [some (.ref a), some (.int nb), some (.ref hd), some (.ref lt), some (.int way), some (.ref l), some (.int m.1), some (.ref q), none, none] ∧ (But a H2 H' ∧ Tape K H' a s ns) ∧ H' q = some (.lst xs) ∧ q ≠ a ∧ xs ≠ [] ∧ xs.length ≤ 5 ∧ ∀ x ∈ xs, WdOk nb had (mayOf had cs) m.1 x)
    (!decide (V.str m.2 = V.str "come")) (fun Q q => ⟨_, rfl, _, rfl, hd, _, rfl, dget _ g8, rfl, _, rfl, q⟩) (fun σ9 H9 r9 => ?_) (fun _ => ⟨q8, _, rfl, g8, h8, q8a, n8, by omega, w8⟩) (fun e nx => ?_)
   rotate_left
   · have ne : m.2 ≠ "come" := fun z => by rw [z] at e; simp at e
     have wc : WdOk nb had (mayOf had cs) m.1 (.str "go") := ⟨"go", .goo m.1, rfl, rfl, m.2, hm, ne⟩
     refine ⟨_, rfl, by show 2 ≤ sizeLine; decide, fun pa hpa => ⟨q8, pa, _, _, rfl, rfl, Same.new hpa _ _ _ h8, upd_same, small_le (by show _ + 2 ≤ 1000; omega), fun pb hpb => ?_⟩⟩
     have g9 := newer (z := .lst [.str "go", .str "go"]) g8 hpa
     refine nx _ _ ⟨pb, _, rfl, newer g9 hpb, upd_same, fresh g9.2 hpb, by simp, by rw [List.length_append]; show _ + 2 ≤ 5; omega, fun x hx => ?_⟩
     rcases List.mem_append.mp hx with hx | hx
     · exact w8 x hx
     · rcases List.mem_cons.mp hx with rfl | hx
       · exact wc
       · rw [List.mem_singleton.mp hx]; exact wc
   obtain ⟨q9, xs9, rfl, g9, h9, q9a, n9, l9, w9⟩ := r9
   have hp9 : 0 < xs9.length := List.length_pos_iff.mpr n9
   refine ⟨_, rfl, _, rfl, _, rfl, q9, _, rfl, .inl (SqL.of h9), a, s, ns, _, rfl, g9.2, by omega, by omega, fun j H10 j0 j1 b10 t10 => ?_⟩
   have h10 := b10 _ _ q9a h9
   obtain ⟨x, hx, hmem⟩ := at_of j0 j1
   obtain ⟨wd, d, rfl, ed, hD⟩ := w9 x hmem
   refine ⟨q9, _, j, _, rfl, rfl, SqL.of h10, hx, _, rfl, by show 2 ≤ sizeLine; decide, fun pz hpz => ?_⟩
   exact k d _ _ hD (b2.trans (g9.1.trans (b10.trans (But.new hpz)))) (t10.same (Same.new hpz _)) (by rw [ed]; exact Is.newTup hpz (IsL.two rfl rfl))
 have F6 := facts _ g6
 have hkl : (kyL cs).length = cs.length := List.length_map _
 have hfew := hL.few
 refine ⟨_, rfl, lt, kvL cs, kyL cs, rfl, .inl F6.2.2.at', kvL_keys cs, by omega, fun ns2 l2 p2 o2 hl2 => ?_⟩
 have g7 := newer (z := .lst (ns2.map V.int)) g6 hl2
 have q7 : upd H6 l2 (.lst (ns2.map V.int)) l2 = some (.lst (ns2.map V.int)) := upd_same
 generalize upd H6 l2 (.lst (ns2.map V.int)) = H7 at g7 q7 ⊢
 have F7 := facts _ g7
 have hn2 : ns2.length ≤ 10 := by have := p2.length_eq; omega
 refine ⟨l2, rfl, ⟨_, SqL.of q7⟩, ?_⟩
 refine lc_list (xs := ns2.map V.int) (fun i zs H' => Same H7 H' ∧ zs.length ≤ i ∧ ∀ z ∈ zs, ∃ x ∈ cs, z = .int (x.1.1 : Int) ∧ mHand had x.1.2 = true) ⟨Same.refl H7, Nat.le_refl _, fun z hz => (by cases hz)⟩ (fun i zs H' hi ⟨s', hz, _⟩ => ⟨SqL.of (s' _ _ q7), small_le (by rw [List.length_map] at hi; omega)⟩) ?_ ?_
 · rintro i y zs H8 hy ⟨s8, hz8, hall⟩
   rw [List.getElem?_map] at hy
   cases en : ns2[i]? with
   | none => rw [en] at hy; cases hy
   | some n =>
   rw [en] at hy
   cases hy
   obtain ⟨x, hx, rfl⟩ := List.mem_map.mp (p2.mem_iff.mp (List.mem_of_getElem? en))
   have dg : DGet H8 lt (.int (x.1.1 : Int)) (some x.2) := by
    have q := DGet.k (k := (Sum.inl (x.1.1 : Int) : Key)) (s8 _ _ F7.2.2.at')
    rw [kvL_get F7.2.2.nd hx] at q
    exact q
   obtain ⟨ix, lx⟩ := F7.2.2.each x hx
   refine ⟨_, rfl, _, rfl, _, rfl, lt, _, rfl, dg, hd, had, x.1.2, x.2, rfl, s8 _ _ F7.1, ix.mono s8, by omega, fun H9 s9 => ⟨_, rfl, ite2 (fun c => ⟨_, rfl, ?_⟩) (fun c => ⟨s8.trans s9, Nat.le_succ_of_le hz8, hall⟩)⟩⟩
   refine ⟨s8.trans s9, by rw [List.length_append]; exact Nat.succ_le_succ hz8, fun z hz => ?_⟩
   rcases List.mem_append.mp hz with hz | hz
   · exact hall z hz
   · rw [List.mem_singleton.mp hz]
     exact ⟨x, hx, rfl, c⟩
 rintro zs H8 ⟨s8, hz8, hall⟩ l8 hl8
 rw [List.length_map] at hz8
 have s9 := s8.trans (Same.new hl8 (.lst zs))
 have q9 : upd H8 l8 (.lst zs) l8 = some (.lst zs) := upd_same
 have t9 := g7.2.same s9
 have l8a := fresh (g7.2.same s8) hl8
 generalize upd H8 l8 (.lst zs) = H9 at s9 q9 t9 ⊢
 have b9 : But a H H9 := b2.trans (g7.1.trans (Same.but s9))
 have hL9 : LatAt H9 lt cs := F7.2.2.to (fun b ys e => s9 _ _ e) (by rw [s9 _ _ F7.2.2.at', F7.2.2.at'])
 have G9 : But a H9 H9 ∧ Tape K H9 a s ns := ⟨But.refl a H9, t9⟩
 have facts9 : ∀ H', But a H9 H' ∧ Tape K H' a s ns → H' l8 = some (.lst zs) ∧ LatAt H' lt cs := fun H' ⟨b, t⟩ => ⟨b _ _ l8a q9, hL9.to (t9.tups b) (by rw [b _ _ lta hL9.at', hL9.at'])⟩
 dsimp only [tSeq, tNext]
 refine tIf_and (fun H' => But a H9 H' ∧ Tape K H' a s ns) _ G9 (fun Q q => ⟨_, rfl, rfl, _, rfl, q⟩) (fun H10 g10 => ?_) (fun rest _ => ?_)
 rotate_left
 · refine ⟨_, rfl, (by show 0 ≤ sizeLine; decide), fun pe hpe => ⟨l8, pe, _, rfl, rfl, SqL.of (facts9 _ (newer G9 hpe)).1, SqL.of upd_same, _, rfl, ite2 (fun c2 => ?_) (fun _ => rest _ (newer G9 hpe))⟩⟩
   have g10 := newer (z := .lst []) G9 hpe
   generalize upd H9 pe (.lst []) = H10 at g10 ⊢
   have hpos : 0 < zs.length := by
    cases zs with
    | nil => cases c2
    | cons x r => exact Nat.succ_pos _
   refine ⟨_, rfl, _, rfl, _, rfl, l8, _, rfl, .inl (SqL.of (facts9 _ g10).1), a, s, ns, _, rfl, g10.2, by omega, by omega, fun j H11 j0 j1 b11 t11 => ?_⟩
   have g11 : But a H9 H11 ∧ Tape K H11 a s ns := ⟨g10.1.trans b11, t11⟩
   have F11 := facts9 _ g11
   obtain ⟨z, hx, hmem⟩ := at_of j0 j1
   obtain ⟨x, hxc, rfl, hmh⟩ := hall z hmem
   have dg : DGet H11 lt (.int (x.1.1 : Int)) (some x.2) := by
    have q := DGet.k (k := (Sum.inl (x.1.1 : Int) : Key)) F11.2.at'
    rw [kvL_get F11.2.nd hxc] at q
    exact q
   refine ⟨l8, _, j, _, rfl, rfl, SqL.of F11.1, hx, _, rfl, _, rfl, _, rfl, lt, _, rfl, dg, by show 3 ≤ sizeLine; decide, fun pz hpz => ?_⟩
   exact k (.beg x.1.1 x.1.2) _ _ (List.mem_filter.mpr ⟨List.mem_map_of_mem (f := fun x : Calling × V => x.1) hxc, hmh⟩) (b9.trans (g11.1.trans (But.new hpz))) (t11.same (Same.new hpz _)) (Is.newTup hpz (IsL.three rfl rfl (F11.2.each x hxc).1))
 dsimp only [tSeq, tNext]
 refine tIf_one (fun H' => But a H9 H' ∧ Tape K H' a s ns) _ g10 (fun Q q => ⟨_, rfl, rfl, _, rfl, q⟩) (fun H11 g11 => ?_) (fun _ => ?_)
 rotate_left
 · refine ⟨(by show 4 ≤ sizeLine; decide), fun pl hpl => ⟨_, rfl, a, s, ns, 4, rfl, (newer g10 hpl).2, by decide, by decide, fun y H12 y0 y1 b12 t12 => ?_⟩⟩
   obtain ⟨m, hat, m1⟩ := pickS y0 y1
   refine ⟨pl, _, y, _, rfl, rfl, SqL.of (b12 _ _ (fresh g10.2 hpl) upd_same), hat, by show 2 ≤ sizeLine; decide, fun p hp => ?_⟩
   exact k (.say m) _ _ m1 (b9.trans ((newer g10 hpl).1.trans (b12.trans (But.new hp)))) (t12.same (Same.new hp _)) (Is.newTup hp (IsL.two rfl rfl))
 refine ⟨(by show 4 ≤ sizeLine; decide), fun pl hpl => ⟨_, rfl, a, s, ns, 4, rfl, (newer g11 hpl).2, by decide, by decide, fun y H12 y0 y1 b12 t12 => ?_⟩⟩
 obtain ⟨m, hat, m1, m2⟩ := pickW y0 y1
 refine ⟨pl, _, y, _, rfl, rfl, SqL.of (b12 _ _ (fresh g11.2 hpl) upd_same), hat, by show 2 ≤ sizeLine; decide, fun p hp => ?_⟩
 exact k (.wor m) _ _ ⟨m1, m2⟩ (b9.trans ((newer g11 hpl).1.trans (b12.trans (But.new hp)))) (t12.same (Same.new hp _)) (Is.newTup hp (IsL.two rfl rfl))
noncomputable def spHE (K : PySem.W.Frag) : Sp := fun vs H Q _ => ∃ (a s : Addr) (ns : List Int), vs = [.ref a] ∧ Tape K H a s ns ∧ ∀ h v H', Fit h → But a H H' → Tape K H' a s ns → Is H' (eH h) v → Q v H'
theorem froKn (kn : List (List Mem)) : FroL (kn.map eMs) := FroL.all.mpr fun t ht => by
 obtain ⟨m, _, rfl⟩ := List.mem_map.mp ht
 exact froMs m
theorem pickB {j : Int} (h0 : 0 ≤ j) (h1 : j < 5) : ∃ m, atI ([.int 0, .int 1, .int 2, .int 3, .int 99] : List V) j = some (.int m) ∧ 0 ≤ m ∧ m ≤ 99 := by
 have : j = 0 ∨ j = 1 ∨ j = 2 ∨ j = 3 ∨ j = 4 := by omega
 rcases this with rfl | rfl | rfl | rfl | rfl <;> exact ⟨_, rfl, by decide, by decide⟩
theorem pickM {j : Int} (h0 : 0 ≤ j) (h1 : j < 4) : ∃ m, atI ([.str "both", .str "both", .str "come", .str "go"] : List V) j = some (.str m) ∧ ModeOk m := by
 have : j = 0 ∨ j = 1 ∨ j = 2 ∨ j = 3 := by omega
 rcases this with rfl | rfl | rfl | rfl
 · exact ⟨"both", rfl, .inl rfl⟩
 · exact ⟨"both", rfl, .inl rfl⟩
 · exact ⟨"come", rfl, .inr (.inl rfl)⟩
 · exact ⟨"go", rfl, .inr (.inr rfl)⟩
noncomputable def SOK (b : Int) (kn : List (List Mem)) (j : Nat) (sc : Script) (ms : List Mem) : Prop := sc.length ≤ 6 ∧ goA sc ms = true ∧ (begs sc).length ≤ 2 ∧ ∀ d ∈ sc, DeedF b ms j kn d
structure Tn (H : Hp) (a s cl sl hd lt dl : Addr) (nb : Int) (kn : List (List Mem)) (cv : List V) (rs : List Script) (xs : List V) (i : Nat) (ms : List Mem) (t : Nat) (H' : Hp) (ds : Script) (ys : List V) (cs : Lat) : Prop where
 b : But a H H'
 tp : TpAt H' a s
 c : H' cl = some (.lst cv)
 cl' : L2.IsL H' (kn.map eMs) cv
 sc : H' sl = some (.lst xs)
 sl' : L2.IsL H' (rs.map eS) xs
 h : H' hd = some (.dK (eHad (ds.foldl stepH ms)))
 l : LatAt H' lt cs
 d : H' dl = some (.lst ys)
 dl' : L2.IsL H' (ds.map eD) ys
 len : ds.length = t
 go : goA ds ms = true
 bg : (begs ds).length ≤ 1
 bg0 : cs ≠ [] → begs ds = []
 lat : ∀ x ∈ cs, i < x.1.1 ∧ kn[x.1.1]? = some x.1.2
 each : ∀ d ∈ ds, DeedF nb ms i kn d
noncomputable def isB : Deed → Bool
 | .beg _ _ => true
 | _ => false
theorem begs_one {d : Deed} : (begs [d]).length = (if isB d = true then 1 else 0) := by cases d <;> rfl
section
variable {K : PySem.W.Frag} {H : Hp} {a s cl sl hd lt dl : Addr} {nb : Int} {kn : List (List Mem)} {cv : List V} {rs : List Script} {xs : List V} {i : Nat} {ms : List Mem} {t : Nat} {H' : Hp} {ds : Script} {ys : List V} {cs : Lat}
theorem Tn.move {H2 : Hp} (N : Tn H a s cl sl hd lt dl nb kn cv rs xs i ms t H' ds ys cs) (tu : Tups H' H2) (b2 : But a H' H2) (t2 : TpAt H2 a s) (ca : cl ≠ a) (sa : sl ≠ a) (ha : hd ≠ a) (la : lt ≠ a) (da : dl ≠ a) : Tn H a s cl sl hd lt dl nb kn cv rs xs i ms t H2 ds ys cs :=
 ⟨N.b.trans b2, t2, b2 _ _ ca N.c, N.cl'.tups tu (froKn kn), b2 _ _ sa N.sc, N.sl'.tups tu (froS rs), b2 _ _ ha N.h, N.l.to tu (by rw [b2 _ _ la N.l.at', N.l.at']), b2 _ _ da N.d, N.dl'.tups tu (froDs ds), N.len, N.go, N.bg, N.bg0, N.lat, N.each⟩
theorem Tn.next {H2 : Hp} {d : Deed} {v : V} {cs2 : Lat} (N : Tn H a s cl sl hd lt dl nb kn cv rs xs i ms t H' ds ys cs) (hM : (ms.map (·.1)).Nodup) (hmo : ∀ m ∈ ms, ModeOk m.2) (iv : Is H' (eD d) v) (hD : Drawn nb (ds.foldl stepH ms) (mayOf (ds.foldl stepH ms) cs) d) (tu : Tups H' H2) (b2 : But a H H2) (t2 : TpAt H2 a s)
  (hc : H2 cl = H' cl) (hs : H2 sl = H' sl) (hh : H2 hd = some (.dK (eHad (stepH (ds.foldl stepH ms) d)))) (hl : LatAt H2 lt cs2) (hd' : H2 dl = some (.lst (ys ++ [v]))) (hcs : cs2 = [] ∨ (cs2 = cs ∧ isB d = false)) :
  Tn H a s cl sl hd lt dl nb kn cv rs xs i ms (t + 1) H2 (ds ++ [d]) (ys ++ [v]) cs2 := by
 have hsub := had_sub ds ms
 have hmay : ∀ c ∈ mayOf (ds.foldl stepH ms) cs, (i < c.1 ∧ kn[c.1]? = some c.2) ∧ mHand (ds.foldl stepH ms) c.2 = true := fun c hc => by
  obtain ⟨h1, h2⟩ := List.mem_filter.mp hc
  obtain ⟨x, hx, rfl⟩ := List.mem_map.mp h1
  exact ⟨N.lat x hx, h2⟩
 have hb0 : isB d = true → begs ds = [] := fun e => by
  refine N.bg0 fun z => ?_
  rw [z] at hD
  cases d with
  | beg j m => cases hD
  | _ => cases e
 refine ⟨b2, t2, by rw [hc]; exact N.c, N.cl'.tups tu (froKn kn), by rw [hs]; exact N.sc, N.sl'.tups tu (froS rs), by rw [List.foldl_append]; exact hh, hl, hd', ?_, by rw [List.length_append, N.len]; rfl, ?_, ?_, ?_, ?_, ?_⟩
 · rw [List.map_append]
   exact IsL.append (N.dl'.tups tu (froDs ds)) ((show L2.IsL H' [eD d] [v] from IsL.one iv).tups tu (froDs [d]))
 · rw [goA_snoc, N.go, drawn_allowed (had_nodup ds ms hM) (fun m hm => hmo m (hsub m hm)) (fun c hc => (hmay c hc).2) hD]
   rfl
 · rw [begs_snoc, List.length_append, begs_one]
   have := N.bg
   by_cases e : isB d = true
   · rw [hb0 e, if_pos e]; decide
   · rw [if_neg e]; omega
 · intro z
   rcases hcs with e | ⟨e, e2⟩
   · exact absurd e z
   · rw [e] at z
     have h1 := N.bg0 z
     have h2 : (begs (ds ++ [d])).length = 0 := by
      rw [begs_snoc, List.length_append, begs_one, h1, e2]
      rfl
     exact List.length_eq_zero_iff.mp h2
 · rcases hcs with e | ⟨e, _⟩
   · rw [e]; intro x hx; cases hx
   · rw [e]; exact N.lat
 · intro d' hd''
   rcases List.mem_append.mp hd'' with h | h
   · exact N.each d' h
   · rw [List.mem_singleton.mp h]
     exact ⟨_, hD.mono hsub (fun c hc => hc), fun c hc => (hmay c hc).1⟩
end
noncomputable def latJ (kn : List (List Mem)) (cv : List V) (i j : Nat) : Lat := (List.range j).map fun t => ((i + 1 + t, kn.getD (i + 1 + t) []), cv.getD (i + 1 + t) .non)
theorem latJ_succ (kn : List (List Mem)) (cv : List V) (i j : Nat) : latJ kn cv i (j + 1) = latJ kn cv i j ++ [((i + 1 + j, kn.getD (i + 1 + j) []), cv.getD (i + 1 + j) .non)] := by
 unfold latJ
 rw [List.range_succ, List.map_append]
 rfl
theorem latJ_keys (kn : List (List Mem)) (cv : List V) (i j : Nat) : kyL (latJ kn cv i j) = (List.range j).map fun t => (((i + 1 + t : Nat)) : Int) := by
 unfold kyL latJ
 rw [List.map_map]
 rfl
theorem latJ_nodup (kn : List (List Mem)) (cv : List V) (i j : Nat) : (kyL (latJ kn cv i j)).Nodup := by
 rw [latJ_keys]
 exact List.Pairwise.map _ (fun a b h z => h (by omega)) (List.nodup_range (n := j))
theorem latJ_put (kn : List (List Mem)) (cv : List V) (i j : Nat) : putK (kvL (latJ kn cv i j)) (Sum.inl ((i + 1 + j : Nat) : Int) : Key) (cv.getD (i + 1 + j) .non) = kvL (latJ kn cv i (j + 1)) := by
 unfold putK
 have e : ((kvL (latJ kn cv i j)).any fun kv => decide (kv.1 = (Sum.inl ((i + 1 + j : Nat) : Int) : Key))) = false := by
  rw [List.any_eq_false]
  intro kv hkv
  unfold kvL latJ at hkv
  rw [List.map_map] at hkv
  obtain ⟨t, ht, rfl⟩ := List.mem_map.mp hkv
  have := List.mem_range.mp ht
  intro z
  have z := of_decide_eq_true z
  have z : ((i + 1 + t : Nat) : Int) = ((i + 1 + j : Nat) : Int) := Sum.inl.inj z
  omega
 rw [e, if_neg Bool.false_ne_true, latJ_succ]
 unfold kvL
 rw [List.map_append]
 rfl
theorem deed3 (d : Deed) : (∃ w, d = .lea w) ∨ (∃ j m, d = .beg j m) ∨ (dw d ≠ "leave" ∧ dw d ≠ "begin" ∧ (∀ had, stepH had d = had) ∧ isB d = false) := by
 cases d with
 | lea w => exact .inl ⟨w, rfl⟩
 | beg j m => exact .inr (.inl ⟨j, m, rfl⟩)
 | rai i j => exact .inr (.inr ⟨(by decide : ("raise" : Str) ≠ "leave"), (by decide : ("raise" : Str) ≠ "begin"), fun _ => rfl, rfl⟩)
 | awa i j => exact .inr (.inr ⟨(by decide : ("await" : Str) ≠ "leave"), (by decide : ("await" : Str) ≠ "begin"), fun _ => rfl, rfl⟩)
 | com i => exact .inr (.inr ⟨(by decide : ("come" : Str) ≠ "leave"), (by decide : ("come" : Str) ≠ "begin"), fun _ => rfl, rfl⟩)
 | goo i => exact .inr (.inr ⟨(by decide : ("go" : Str) ≠ "leave"), (by decide : ("go" : Str) ≠ "begin"), fun _ => rfl, rfl⟩)
 | wor i => exact .inr (.inr ⟨(by decide : ("work" : Str) ≠ "leave"), (by decide : ("work" : Str) ≠ "begin"), fun _ => rfl, rfl⟩)
 | say i => exact .inr (.inr ⟨(by decide : ("say" : Str) ≠ "leave"), (by decide : ("say" : Str) ≠ "begin"), fun _ => rfl, rfl⟩)
theorem sc_houseE : FnScope ["deck", "boxes", "places", "many", "called", "at", "some", "scripts", "have", "later", "other", "script", "turn", "deed", "firsts"] ["deck"] (defScope s_houseE) := ⟨rfl, rfl, rfl, by decide +kernel, rfl, by decide +kernel, by decide +kernel⟩
theorem ok_houseE (D : Def K mg "_law_e_house" s_houseE) (T : Txt K mg) (o1 : Ok P w K mg base "_law_e_pick" 2 ["deck", "many"] (spPk K)) (o2 : Ok P w K mg base "_law_e_house_deed" 3 ["deck", "boxes", "have", "later"] (spHd K)) : Ok P w K mg base "_law_e_house" 4 ["deck"] (spHE K) := by
 refine mkOk D sc_houseE (fun _ _ _ _ _ _ us hl => (match us, hl with | [_], _ => rfl)) (fun vs H Q E ⟨_, _, _, e, _⟩ => by rw [e]; rfl) fun f cdv A outer sh H vs Q E hr h => ?_
 obtain ⟨a, s, ns, rfl, hT, k⟩ := h
 have r2 := hr.mono (show 2 ≤ 3 by decide)
 have hu := hu_of hr
 have nd := sc_houseE.nd
 refine ⟨_, pss_cons (ps_set (i := 1) nd rfl (Or.inl rfl) (pe_ix ix_list (pe_lst (pa_cons pe_int (pa_cons pe_int (pa_cons pe_int (pa_cons pe_int (pa_cons pe_int pa_nil)))))) (pe_fn o1 r2 (pa_cons (pv 0) (pa_cons pe_int pa_nil))) (fun _ _ => rfl)))
  (pss_cons (ps_set (i := 2) nd rfl (Or.inl rfl) (pe_fn o1 r2 (pa_cons (pv 0) (pa_cons pe_int pa_nil))))
  (pss_cons (ps_set (i := 3) nd rfl (Or.inr rfl) (pe_op op_add pe_int (pe_fn o1 r2 (pa_cons (pv 0) (pa_cons pe_int pa_nil)))))
  (pss_cons (ps_set (i := 4) nd rfl (Or.inr rfl) (pe_lst pa_nil))
  (pss_cons (ps_for PassesOwn.never rfl (pi_range1 rfl T.range (pa_cons (pv 3) pa_nil)) (pg_name (i := 5) nd rfl (Or.inl rfl))
   (pss_cons (ps_lc (i := 6) (own := ["place"]) (cap := [0]) rfl (lcScope (defScope s_houseE) rfl rfl (by decide +kernel) (by decide +kernel) (by decide +kernel) ⟨⟨_, rfl, .inl rfl, noLoc rfl⟩, trivial⟩) (pi_range1 rfl T.range (pa_cons (pv 2) pa_nil))
    (fun _ _ _ _ => pg_name (i := 0) (by show (["place", "deck"] : List Str).Nodup; decide +kernel) rfl (Or.inl rfl)) (fun _ _ _ _ => pif_one (pt_cmpR op_gt (pe_fn o1 r2 (pa_cons (pv 1) (pa_cons pe_int pa_nil))) pe_int (nomark _))) (fun _ _ _ _ => pv 0) nd rfl rfl (by with_unfolding_all rfl))
   (pss_one (ps_expr (pe_bm PySem.F.plainAttrs_list PySem.F.slot_list_append PySem.F.type_list_append mt_append (pv 4) (pa_cons (pe_callTy call_tuple_of rfl T.tuple bt_tuple (pa_cons (pe_lc (own := ["place"]) (cap := [0]) rfl (lcScope (defScope s_houseE) rfl rfl (by decide +kernel) (by decide +kernel) (by decide +kernel) ⟨⟨_, rfl, .inl rfl, noLoc rfl⟩, trivial⟩) (pi_list (pv 6))
    (fun _ _ _ _ => pg_name (i := 0) (by show (["place", "deck"] : List Str).Nodup; decide +kernel) rfl (Or.inl rfl)) (fun _ _ _ _ => pif_nil) (fun _ _ _ _ => pe_tup (pa_cons (pv 0) (pa_cons (pe_ix (r := rIxL K) ix_list (pe_lst (pa_cons pe_str (pa_cons pe_str (pa_cons pe_str (pa_cons pe_str pa_nil))))) (pe_fn o1 r2 (pa_cons (pv 1) (pa_cons pe_int pa_nil))) (fun _ _ => rfl)) pa_nil)))) pa_nil)) pa_nil))))))
  (pss_cons (ps_set (i := 7) nd rfl (Or.inl rfl) (pe_lst pa_nil))
  (pss_cons (ps_for PassesOwn.never rfl (pi_range1 rfl T.range (pa_cons (pv 3) pa_nil)) (pg_name (i := 5) nd rfl (Or.inl rfl))
   (pss_cons (ps_set (i := 8) nd rfl (Or.inl rfl) (pe_callTy (call_dictP rfl) rfl T.dict bt_dict (pa_cons (pe_ix ix_list (pv 4) (pv 5) (fun _ _ => rfl)) pa_nil)))
   (pss_cons (ps_set (i := 9) nd rfl (Or.inl rfl) pe_dnewK)
   (pss_cons (ps_for PassesOwn.never rfl (pi_range2 rfl T.range (pa_cons (pe_op op_add (pv 5) pe_int) (pa_cons (pv 3) pa_nil))) (pg_name (i := 10) nd rfl (Or.inl rfl)) (pss_one (ps_dput hu (pv 9) (pv 10) (pe_ix ix_list (pv 4) (pv 10) (fun _ _ => rfl)) rfl)))
   (pss_cons (ps_set (i := 11) nd rfl (Or.inl rfl) (pe_lst pa_nil))
   (pss_cons (ps_for PassesOwn.never rfl (pi_range1 rfl T.range (pa_cons (pe_fn o1 r2 (pa_cons (pv 0) (pa_cons pe_int pa_nil))) pa_nil)) (pg_name (i := 12) nd rfl (Or.inl rfl))
    (pss_cons (ps_set (i := 13) nd rfl (Or.inl rfl) (pe_fn o2 hr (pa_cons (pv 0) (pa_cons (pv 1) (pa_cons (pv 8) (pa_cons (pv 9) pa_nil))))))
    (pss_cons (ps_expr (pe_bm PySem.F.plainAttrs_list PySem.F.slot_list_append PySem.F.type_list_append mt_append (pv 11) (pa_cons (pv 13) pa_nil)))
    (pss_cons (ps_if (pt_cmpR op_eq (pe_ix ix_tup (pv 13) pe_int (fun _ _ => rfl)) pe_str (nomark _)) (pss_one (ps_expr (pe_dpop1 (pv 8) (pe_ix ix_tup (pv 13) pe_int (fun _ _ => rfl)) ⟨rfl, rfl, rfl, rfl⟩))) pss_nil)
    (pss_one (ps_if (pt_cmpR op_eq (pe_ix ix_tup (pv 13) pe_int (fun _ _ => rfl)) pe_str (nomark _)) (pss_one (ps_expr (pe_bm0 PySem.F.plainAttrs_dict PySem.F.slot_dict_clear PySem.F.type_dict_clear mt_dclear (pv 9)))) pss_nil))))))
   (pss_one (ps_expr (pe_bm PySem.F.plainAttrs_list PySem.F.slot_list_append PySem.F.type_list_append mt_append (pv 7) (pa_cons (pe_callTy call_tuple_of rfl T.tuple bt_tuple (pa_cons (pv 11) pa_nil)) pa_nil))))))))))
  (pss_cons (ps_lc (i := 14) (own := ["turn"]) (cap := [0, 3]) rfl (lcScope (defScope s_houseE) rfl rfl (by decide +kernel) (by decide +kernel) (by decide +kernel) ⟨⟨_, rfl, .inl rfl, noLoc rfl⟩, ⟨_, rfl, .inl rfl, noLoc rfl⟩, trivial⟩) (pi_range1 rfl T.range (pa_cons (pe_op op_add pe_int (pe_fn o1 r2 (pa_cons (pv 0) (pa_cons pe_int pa_nil)))) pa_nil))
   (fun _ _ _ _ => pg_name (i := 0) (by show (["turn", "deck", "many"] : List Str).Nodup; decide +kernel) rfl (Or.inl rfl)) (fun _ _ _ _ => pif_nil) (fun _ _ _ _ => pe_fn o1 r2 (pa_cons (pv 1) (pa_cons (pv 2) pa_nil))) nd rfl rfl (by with_unfolding_all rfl))
  (pss_one (ps_ret (pe_tup (pa_cons (pv 1) (pa_cons (pv 2) (pa_cons (pe_callTy call_tuple_of rfl T.tuple bt_tuple (pa_cons (pe_lc (own := ["at"]) (cap := [4]) rfl (lcScope (defScope s_houseE) rfl rfl (by decide +kernel) (by decide +kernel) (by decide +kernel) ⟨⟨_, rfl, .inl rfl, noLoc rfl⟩, trivial⟩) (pi_list (pv 14))
   (fun _ _ _ _ => pg_name (i := 0) (by show (["at", "called"] : List Str).Nodup; decide +kernel) rfl (Or.inl rfl)) (fun _ _ _ _ => pif_nil) (fun _ _ _ _ => pe_tup (pa_cons (pv 0) (pa_cons (pe_ix (r := rIxL K) ix_list (pv 1) (pv 0) (fun _ _ => rfl)) pa_nil)))) pa_nil)) (pa_cons (pe_callTy call_tuple_of rfl T.tuple bt_tuple (pa_cons (pv 7) pa_nil)) pa_nil)))))))))))))), ?_⟩
 have mkT : ∀ {Hx : Hp}, But a H Hx → TpAt Hx a s → Tape K Hx a s ns := fun b h => hT.at2 b h
 have fresh : ∀ {H' : Hp} {p : Addr}, TpAt H' a s → H' p = none → p ≠ a := fun {H' p} t hp z => by
  obtain ⟨_, _, e, _⟩ := t
  rw [z, e] at hp
  cases hp
 have none0 : ∀ {H' : Hp} {p : Addr}, But a H H' → TpAt H' a s → H' p = none → H p = none := fun {H' p} b t hp => by
  cases z : H p with
  | none => rfl
  | some o => rw [b _ _ (fresh t hp) z] at hp; cases hp
 have tpS : ∀ {H1 H2 : Hp}, TpAt H1 a s → Same H1 H2 → TpAt H2 a s := fun t s => by
  obtain ⟨p, r, e, h⟩ := t
  exact ⟨p, r, s _ _ e, h⟩
 have tpU : ∀ {H1 : Hp} {z : Addr} {o : HO}, TpAt H1 a s → z ≠ a → TpAt (upd H1 z o) a s := fun t hz => by
  obtain ⟨p, r, e, h⟩ := t
  exact ⟨p, r, by rw [upd_ne (Ne.symm hz)]; exact e, h⟩
 refine ⟨by show 5 ≤ sizeLine; decide, fun pb hpb => ⟨_, rfl, a, s, ns, 5, rfl, hT.same (Same.new hpb _), by decide, by decide, fun j H1 j0 j1 b1 t1 => ?_⟩⟩
 have pba := fresh hT.at' hpb
 obtain ⟨nb, hat, nb0, nb9⟩ := pickB j0 j1
 refine ⟨pb, _, j, _, rfl, rfl, SqL.of (b1 _ _ pba upd_same), hat, ?_⟩
 have b01 : But a H H1 := (But.new hpb).trans b1
 refine ⟨_, rfl, a, s, ns, 4, rfl, t1, by decide, by decide, fun nw H2 x2 y2 b2 t2 => ?_⟩
 refine ⟨_, rfl, a, s, ns, 3, rfl, t2, by decide, by decide, fun d3 H3 x3 y3 b3 t3 => ⟨1, d3, rfl, rfl, ?_⟩⟩
 obtain ⟨many, hmany⟩ : ∃ many : Nat, 1 + d3 = (many : Int) := ⟨(1 + d3).toNat, by omega⟩
 show gName 3 (V.int (1 + d3)) _ _ _
 rw [hmany]
 have hm1 : 1 ≤ many := by omega
 have hm3 : many ≤ 3 := by omega
 have b03 : But a H H3 := b01.trans (b2.trans b3)
 refine ⟨Nat.zero_le _, fun cl hcl => ?_⟩
 have cla := fresh t3.at' hcl
 have hclH := none0 b03 t3.at' hcl
 have s4 := Same.new hcl (.lst [])
 have g4 : upd H3 cl (.lst []) cl = some (.lst []) := upd_same
 generalize upd H3 cl (.lst []) = H4 at s4 g4 ⊢
 have b04 : But a H H4 := b03.trans (Same.but s4)
 have tp4 := tpS t3.at' s4
 refine ⟨_, rfl, (many : Int), rfl, by omega, by omega, ?_⟩
 refine for_range (lo := 0) (n := (many : Int).toNat) (fun i σ H' => ∃ (kn : List (List Mem)) (cv : List V) (x5 x6 : Option V), σ = [some (.ref a), some (.int nb), some (.int nw), some (.int (many : Int)), some (.ref cl), x5, x6, none, none, none, none, none, none, none, none] ∧ But a H H' ∧ TpAt H' a s ∧ H' cl = some (.lst cv) ∧ L2.IsL H' (kn.map eMs) cv ∧ kn.length = i ∧ ∀ ms ∈ kn, MemsOk nw ms ∧ ms.length ≤ 6)
  ⟨[], [], none, none, rfl, b04, tp4, g4, rfl, rfl, fun ms hms => (by cases hms)⟩ ?_ ?_
 · rintro i σ H5 hi ⟨kn, cv, x5, x6, rfl, b5, t5, hc5, hl5, hn5, hk5⟩
   rw [Int.toNat_natCast] at hi
   obtain ⟨nwN, hnw⟩ : ∃ n : Nat, nw = (n : Int) := ⟨nw.toNat, by omega⟩
   refine ⟨_, rfl, nw, rfl, by omega, by omega, ?_⟩
   refine lc_range (lo := 0) (n := nw.toNat) (fun j ys H' => But a H H' ∧ But a H5 H' ∧ TpAt H' a s ∧ ∃ ps : List Int, ys = ps.map V.int ∧ ps.Pairwise (· < ·) ∧ (∀ p ∈ ps, 0 ≤ p ∧ p < (j : Int)) ∧ ps.length ≤ j) ⟨b5, But.refl a H5, t5, [], rfl, .nil, fun p hp => (by cases hp), Nat.le_refl _⟩ (fun j ys H' hj ⟨_, _, _, ps, e, _, _, hl⟩ => by rw [e, List.length_map]; exact small_le (by omega)) ?_ ?_
   · rintro j ys H6 hj ⟨b6, b56, t6, ps, rfl, hp1, hp2, hp3⟩
     refine ⟨_, rfl, a, s, ns, 3, rfl, mkT b6 t6, by decide, by decide, fun x H7 xx0 xx1 b7 t7 => ⟨x, 0, rfl, rfl, _, rfl, ite2 (fun _ => ⟨_, rfl, ?_⟩) (fun _ => ?_)⟩⟩
     · refine ⟨b6.trans b7, b56.trans b7, t7.at', ps ++ [(0 : Int) + (j : Int)], by rw [List.map_append]; rfl, ?_, fun p hp => ?_, by rw [List.length_append]; exact Nat.succ_le_succ hp3⟩
       · refine List.pairwise_append.mpr ⟨hp1, List.pairwise_singleton _ _, fun p hp q hq => ?_⟩
         rw [List.mem_singleton.mp hq]
         have := (hp2 p hp).2
         omega
       · rcases List.mem_append.mp hp with hp | hp
         · have := hp2 p hp
           omega
         · rw [List.mem_singleton.mp hp]
           omega
     · exact ⟨b6.trans b7, b56.trans b7, t7.at', ps, rfl, hp1, fun p hp => by have := hp2 p hp; omega, by omega⟩
   rintro ys H6 ⟨b6, b56, t6, ps, rfl, hp1, hp2, hp3⟩ l6 hl6
   have l6a := fresh t6 hl6
   have s7 := Same.new hl6 (.lst (ps.map V.int))
   have g7 : upd H6 l6 (.lst (ps.map V.int)) l6 = some (.lst (ps.map V.int)) := upd_same
   have hc6 := b56 _ _ cla hc5
   have clx : cl ≠ l6 := ne_of_none hc6 hl6
   generalize upd H6 l6 (.lst (ps.map V.int)) = H7 at s7 g7 ⊢
   have hc7 := s7 _ _ hc6
   have b7 : But a H H7 := b6.trans (Same.but s7)
   have t7 := tpS t6 s7
   have hl7 : L2.IsL H7 (kn.map eMs) cv := (hl5.tups ((mkT b5 t5).tups b56) (froKn kn)).mono s7
   refine ⟨_, rfl, .inl ⟨rfl, _, SqL.of hc7⟩, _, rfl, l6, rfl, ⟨_, SqL.of g7⟩, ?_⟩
   refine lc_list (xs := ps.map V.int) (fun j ys H' => But a H7 H' ∧ TpAt H' a s ∧ ∃ ms : List Mem, L2.IsL H' (ms.map eMem) ys ∧ ms.map (·.1) = ps.take j ∧ ∀ m ∈ ms, ModeOk m.2) ⟨But.refl a H7, t7, [], rfl, rfl, fun m hm => (by cases hm)⟩ (fun j ys H' hj ⟨b, _, ms, e, em, _⟩ => ⟨SqL.of (b _ _ l6a g7), by
    have h1 := e.length
    have h2 := congrArg List.length em
    rw [List.length_map] at h1
    rw [List.length_map, List.length_take] at h2
    exact small_le (by omega)⟩) ?_ ?_
   · rintro j y ys H8 hy ⟨b8, t8, ms, e8, em, hm8⟩
     rw [List.getElem?_map] at hy
     cases ep : ps[j]? with
     | none => rw [ep] at hy; cases hy
     | some pl =>
     rw [ep] at hy
     cases hy
     refine gIf0 ?_
     refine ⟨_, rfl, by show 4 ≤ sizeLine; decide, fun pm hpm => ⟨_, rfl, a, s, ns, 4, rfl, (mkT (b7.trans b8) t8).same (Same.new hpm _), by decide, by decide, fun q H9 q0 q1 b9 t9 => ?_⟩⟩
     obtain ⟨md, hat, hmd⟩ := pickM q0 q1
     have b79 : But a H7 H9 := b8.trans ((But.new hpm).trans b9)
     have e9 : L2.IsL H9 (ms.map eMem) ys := (e8.mono (Same.new hpm _)).tups (((mkT (b7.trans b8) t8).same (Same.new hpm _)).tups b9) (froMs ms)
     refine ⟨pm, _, q, _, rfl, rfl, SqL.of (b9 _ _ (fresh t8 hpm) upd_same), hat, by show 2 ≤ sizeLine; decide, fun pt hpt => ?_⟩
     have s10 := Same.new hpt (.tup [.int pl, .str md])
     refine ⟨b79.trans (Same.but s10), tpS t9.at' s10, ms ++ [(pl, md)], ?_, ?_, fun m hm => ?_⟩
     · rw [List.map_append]
       exact IsL.append (e9.mono s10) (IsL.one ⟨pt, _, rfl, upd_same, IsL.two rfl rfl⟩)
     · rw [List.map_append, em, List.take_add_one, ep]
       rfl
     · rcases List.mem_append.mp hm with hm | hm
       · exact hm8 m hm
       · rw [List.mem_singleton.mp hm]; exact hmd
   rintro ys H8 ⟨b8, t8, ms, e8, em, hm8⟩ l8 hl8
   rw [List.length_map, List.take_length] at em
   have s9 := Same.new hl8 (.lst ys)
   have g9 : upd H8 l8 (.lst ys) l8 = some (.lst ys) := upd_same
   have hc8 := b8 _ _ cla hc7
   have hl8' : L2.IsL H8 (kn.map eMs) cv := hl7.tups ((mkT b7 t7).tups b8) (froKn kn)
   generalize upd H8 l8 (.lst ys) = H9 at s9 g9 ⊢
   refine ⟨l8, ys, rfl, .inl ⟨SqL.of g9, fun q hq => ?_⟩⟩
   have s10 := Same.new hq (.tup ys)
   have g10 : upd H9 q (.tup ys) q = some (.tup ys) := upd_same
   generalize upd H9 q (.tup ys) = H10 at s10 g10 ⊢
   have s810 := s9.trans s10
   have hc10 := s810 _ _ hc8
   have b10 : But a H H10 := (b7.trans b8).trans (Same.but s810)
   have t10 := tpS t8 s810
   refine ⟨cl, _, _, rfl, rfl, hc10, ?_, ?_⟩
   · rw [hl5.length, List.length_map]; exact small1000 (by omega)
   have tpx : Tups H10 (upd H10 cl (.lst (cv ++ [.ref q]))) := Tups.upd hc10 (fun zs z => by cases z)
   refine ⟨kn ++ [ms], _, _, _, rfl, fun c o n e => by rw [upd_ne (ne_of_none e hclH)]; exact b10 c o n e, tpU t10 cla, upd_same, ?_, by rw [List.length_append, hn5]; rfl, fun m' hm' => ?_⟩
   · rw [List.map_append]
     exact IsL.append ((hl8'.mono s810).tups tpx (froKn kn)) ((show L2.IsL H10 [eMs ms] [.ref q] from IsL.one ⟨q, ys, rfl, g10, e8.mono s810⟩).tups tpx (froKn [ms]))
   · rcases List.mem_append.mp hm' with hm' | hm'
     · exact hk5 m' hm'
     · rw [List.mem_singleton.mp hm']
       have hpl := congrArg List.length em
       rw [List.length_map] at hpl
       refine ⟨⟨fun m hm => ?_, by rw [em]; exact hp1⟩, by omega⟩
       have hmp : m.1 ∈ ps := by rw [← em]; exact List.mem_map_of_mem hm
       have := hp2 m.1 hmp
       exact ⟨this.1, by omega, hm8 m hm⟩
 rintro σ H5 ⟨kn, cv, x5, x6, rfl, b5, t5, hc5, hl5, hn5, hk5⟩
 rw [Int.toNat_natCast] at hn5
 have hkm : kn.length = many := hn5
 have hcvl := hl5.length
 rw [List.length_map] at hcvl
 refine ⟨Nat.zero_le _, fun sl hsl => ?_⟩
 have sla := fresh t5 hsl
 have hslH := none0 b5 t5 hsl
 have cls : cl ≠ sl := ne_of_none hc5 hsl
 have s6 := Same.new hsl (.lst [])
 have g6 : upd H5 sl (.lst []) sl = some (.lst []) := upd_same
 generalize upd H5 sl (.lst []) = H6 at s6 g6 ⊢
 refine ⟨_, rfl, (many : Int), rfl, by omega, by omega, ?_⟩
 refine for_range (lo := 0) (n := (many : Int).toNat) (fun i σ H' => ∃ (rs : List Script) (xs : List V) (y5 y8 y9 y10 y11 y12 y13 : Option V), σ = [some (.ref a), some (.int nb), some (.int nw), some (.int (many : Int)), some (.ref cl), y5, x6, some (.ref sl), y8, y9, y10, y11, y12, y13, none] ∧ But a H H' ∧ TpAt H' a s ∧ H' cl = some (.lst cv) ∧ L2.IsL H' (kn.map eMs) cv ∧ H' sl = some (.lst xs) ∧ L2.IsL H' (rs.map eS) xs ∧ rs.length = i ∧ ∀ (j : Nat) sc ms, rs[j]? = some sc → kn[j]? = some ms → SOK nb kn j sc ms)
  ⟨[], [], _, none, none, none, none, none, none, rfl, b5.trans (Same.but s6), tpS t5 s6, s6 _ _ hc5, hl5.mono s6, g6, rfl, rfl, fun j sc ms z => (by cases z)⟩ ?_ ?_
 · rintro i σ H7 hi ⟨rs, xs, y5, y8, y9, y10, y11, y12, y13, rfl, b7, t7, hc7, hl7, hs7, hx7, hr7, hk7⟩
   rw [Int.toNat_natCast] at hi
   have e0 : (0 : Int) + (i : Int) = (i : Int) := by omega
   rw [e0]
   have hki : kn[i]? = some kn[i] := List.getElem?_eq_getElem (by omega)
   obtain ⟨hMo, hM6⟩ := hk5 _ (List.mem_of_getElem? hki)
   generalize kn[i] = ms at hki hMo hM6
   have hMs := members_msOk hMo hM6
   have hmo : ∀ m ∈ ms, ModeOk m.2 := fun m hm => (hMo.each m hm).2.2
   have hci : cv[i]? = some cv[i] := List.getElem?_eq_getElem (by omega)
   obtain ⟨tt, htt, hit⟩ := hl7.get' hci
   rw [List.getElem?_map, hki] at htt
   cases htt
   generalize cv[i] = vi at hci hit
   obtain ⟨am, xm, rfl, ham, hlm⟩ := hit
   obtain ⟨bs, rfl, hbs⟩ := members_at hlm
   refine ⟨_, rfl, _, rfl, cl, _, _, _, rfl, rfl, SqL.of hc7, atI_nat hci, am, bs, _, rfl, ham, hbs, fun hd hhd => ?_⟩
   rw [merge_had hMs.1]
   have hda := fresh t7 hhd
   have hhdH := none0 b7 t7 hhd
   have hdc : hd ≠ cl := Ne.symm (ne_of_none hc7 hhd)
   have hds : hd ≠ sl := Ne.symm (ne_of_none hs7 hhd)
   have s8 := Same.new hhd (.dK (eHad ms))
   have g8 : upd H7 hd (.dK (eHad ms)) hd = some (.dK (eHad ms)) := upd_same
   generalize upd H7 hd (.dK (eHad ms)) = H8 at s8 g8 ⊢
   intro lt hlt
   have b8 : But a H H8 := b7.trans (Same.but s8)
   have t8 := tpS t7 s8
   have lta := fresh t8 hlt
   have hltH := none0 b8 t8 hlt
   have ltc : lt ≠ cl := Ne.symm (ne_of_none (s8 _ _ hc7) hlt)
   have lts : lt ≠ sl := Ne.symm (ne_of_none (s8 _ _ hs7) hlt)
   have lth : lt ≠ hd := Ne.symm (ne_of_none g8 hlt)
   have s9 := Same.new hlt (.dK [])
   have g9 : upd H8 lt (.dK []) lt = some (.dK []) := upd_same
   generalize upd H8 lt (.dK []) = H9 at s9 g9 ⊢
   have s79 := s8.trans s9
   have b9 : But a H H9 := b8.trans (Same.but s9)
   have t9 := tpS t8 s9
   have hc9 := s79 _ _ hc7
   have hs9 := s79 _ _ hs7
   have hh9 := s9 _ _ g8
   have hl9 := hl7.mono s79
   have hx9 := hx7.mono s79
   refine ⟨_, rfl, (i : Int), 1, rfl, rfl, _, rfl, (i : Int) + 1, (many : Int), rfl, ⟨by omega, by omega, by omega, by omega⟩, ?_⟩
   refine for_range (lo := (i : Int) + 1) (n := ((many : Int) - ((i : Int) + 1)).toNat) (fun j σ H' => ∃ z10 : Option V, σ = [some (.ref a), some (.int nb), some (.int nw), some (.int (many : Int)), some (.ref cl), some (.int (i : Int)), x6, some (.ref sl), some (.ref hd), some (.ref lt), z10, y11, y12, y13, none] ∧ But lt H9 H' ∧ H' lt = some (.dK (kvL (latJ kn cv i j))))
    ⟨y10, rfl, But.refl lt H9, g9⟩ ?_ ?_
   · rintro j σ H10 hj ⟨z10, rfl, b10, g10⟩
     have ej : (i : Int) + 1 + (j : Int) = ((i + 1 + j : Nat) : Int) := by omega
     rw [ej]
     have hcj : cv[i + 1 + j]? = some cv[i + 1 + j] := List.getElem?_eq_getElem (by omega)
     have hgd : cv.getD (i + 1 + j) .non = cv[i + 1 + j] := by rw [List.getD_eq_getElem?_getD, hcj]; rfl
     refine ⟨_, rfl, _, rfl, cl, _, _, _, rfl, rfl, SqL.of (b10 _ _ (Ne.symm ltc) hc9), atI_nat hcj, _, rfl, _, rfl, lt, _, rfl, DPut.k (k := (Sum.inl ((i + 1 + j : Nat) : Int) : Key)) g10 (small1000 (by unfold kvL latJ; rw [List.length_map, List.length_map, List.length_range]; omega)), ?_⟩
     rw [← hgd, latJ_put]
     exact ⟨_, rfl, b10.trans But.upd, upd_same⟩
   rintro σ H10 ⟨z10, rfl, b10, g10⟩
   have hjn : ((many : Int) - ((i : Int) + 1)).toNat = many - (i + 1) := by omega
   rw [hjn] at g10
   have tu10 : Tups H9 H10 := fun c zs e => b10 _ _ (ne_of e g9 (by intro z; cases z)) e
   have hb10 : But a H H10 := fun c o n e => b10 _ _ (ne_of_none e hltH) (b9 _ _ n e)
   have t10 : TpAt H10 a s := by
    obtain ⟨p, r, e, h⟩ := t9
    exact ⟨p, r, b10 _ _ (Ne.symm lta) e, h⟩
   have hl10 : L2.IsL H10 (kn.map eMs) cv := hl9.tups tu10 (froKn kn)
   have L10 : LatAt H10 lt (latJ kn cv i (many - (i + 1))) := by
    refine ⟨g10, latJ_nodup _ _ _ _, by unfold latJ; rw [List.length_map, List.length_range]; omega, fun x hx => ?_⟩
    obtain ⟨t, ht, rfl⟩ := List.mem_map.mp hx
    have ht := List.mem_range.mp ht
    have h1 : kn[i + 1 + t]? = some kn[i + 1 + t] := List.getElem?_eq_getElem (by omega)
    have h2 : cv[i + 1 + t]? = some cv[i + 1 + t] := List.getElem?_eq_getElem (by omega)
    obtain ⟨tt, htt, hit⟩ := hl10.get' h2
    rw [List.getElem?_map, h1] at htt
    cases htt
    have e1 : kn.getD (i + 1 + t) [] = kn[i + 1 + t] := by rw [List.getD_eq_getElem?_getD, h1]; rfl
    have e2 : cv.getD (i + 1 + t) .non = cv[i + 1 + t] := by rw [List.getD_eq_getElem?_getD, h2]; rfl
    show Is H10 (eMs (kn.getD (i + 1 + t) [])) (cv.getD (i + 1 + t) .non) ∧ (kn.getD (i + 1 + t) []).length ≤ 10
    rw [e1, e2]
    have := (hk5 _ (List.mem_of_getElem? h1)).2
    exact ⟨hit, by omega⟩
   refine ⟨Nat.zero_le _, fun dl hdl => ?_⟩
   have dla := fresh t10 hdl
   have hdlH := none0 hb10 t10 hdl
   have hc10 := b10 _ _ (Ne.symm ltc) hc9
   have hs10 := b10 _ _ (Ne.symm lts) hs9
   have hh10 := b10 _ _ (Ne.symm lth) hh9
   have dlc : dl ≠ cl := Ne.symm (ne_of_none hc10 hdl)
   have dls : dl ≠ sl := Ne.symm (ne_of_none hs10 hdl)
   have dlh : dl ≠ hd := Ne.symm (ne_of_none hh10 hdl)
   have dlt : dl ≠ lt := Ne.symm (ne_of_none g10 hdl)
   have s11 := Same.new hdl (.lst [])
   have g11 : upd H10 dl (.lst []) dl = some (.lst []) := upd_same
   have N11 : Tn H a s cl sl hd lt dl nb kn cv rs xs i ms 0 (upd H10 dl (.lst [])) [] [] (latJ kn cv i (many - (i + 1))) := ⟨hb10.trans (Same.but s11), tpS t10 s11, s11 _ _ hc10, hl10.mono s11, s11 _ _ hs10, (hx9.tups tu10 (froS rs)).mono s11, s11 _ _ hh10, L10.to (fun b ys e => s11 _ _ e) (by rw [s11 _ _ L10.at', L10.at']), g11, rfl, rfl, rfl, Nat.zero_le _, fun _ => rfl, fun x hx => by
    obtain ⟨t, ht, rfl⟩ := List.mem_map.mp hx
    have ht := List.mem_range.mp ht
    have h1 : kn[i + 1 + t]? = some kn[i + 1 + t] := List.getElem?_eq_getElem (by omega)
    have e1 : kn.getD (i + 1 + t) [] = kn[i + 1 + t] := by rw [List.getD_eq_getElem?_getD, h1]; rfl
    show i < i + 1 + t ∧ kn[i + 1 + t]? = some (kn.getD (i + 1 + t) [])
    rw [e1]
    exact ⟨by omega, h1⟩, fun d hd => (by cases hd)⟩
   generalize upd H10 dl (.lst []) = H11 at N11 ⊢
   refine ⟨_, rfl, a, s, ns, 7, rfl, mkT N11.b N11.tp, by decide, by decide, fun dn H12 n0 n1 b12 t12 => ⟨dn, rfl, by omega, by omega, ?_⟩⟩
   have N12 := N11.move ((mkT N11.b N11.tp).tups b12) b12 t12.at' cla sla hda lta dla
   refine for_range (lo := 0) (n := dn.toNat) (fun t σ H' => ∃ (ds : Script) (ys : List V) (cs : Lat) (z12 z13 : Option V), σ = [some (.ref a), some (.int nb), some (.int nw), some (.int (many : Int)), some (.ref cl), some (.int (i : Int)), x6, some (.ref sl), some (.ref hd), some (.ref lt), z10, some (.ref dl), z12, z13, none] ∧ Tn H a s cl sl hd lt dl nb kn cv rs xs i ms t H' ds ys cs)
    ⟨[], [], _, y12, y13, rfl, N12⟩ ?_ ?_
   · rintro t σ H13 ht ⟨ds, ys, cs, z12, z13, rfl, N⟩
     have hhl := had_len ds ms
     refine ⟨_, rfl, _, rfl, _, rfl, _, rfl, a, s, ns, nb, hd, ds.foldl stepH ms, lt, cs, rfl, mkT N.b N.tp, nb0, nb9, N.h, had_nodup ds ms hMs.1, by omega, N.l, fun d v H14 hD b14 t14 iv => ?_⟩
     have N14 := N.move ((mkT N.b N.tp).tups b14) b14 t14.at' cla sla hda lta dla
     have hyl := N14.dl'.length
     rw [List.length_map, N14.len] at hyl
     refine ⟨_, rfl, .inl ⟨rfl, _, SqL.of N14.d⟩, _, rfl, dl, _, _, rfl, rfl, N14.d, by rw [hyl]; exact small1000 (by omega), ?_⟩
     have hD' := hD
     have tp15 : Tups H14 (upd H14 dl (.lst (ys ++ [v]))) := Tups.upd N14.d (fun zs z => by cases z)
     have g15 : upd H14 dl (.lst (ys ++ [v])) dl = some (.lst (ys ++ [v])) := upd_same
     have c15 : upd H14 dl (.lst (ys ++ [v])) cl = H14 cl := upd_ne (Ne.symm dlc)
     have sc15 : upd H14 dl (.lst (ys ++ [v])) sl = H14 sl := upd_ne (Ne.symm dls)
     have h15 : upd H14 dl (.lst (ys ++ [v])) hd = some (.dK (eHad (ds.foldl stepH ms))) := by rw [upd_ne (Ne.symm dlh)]; exact N14.h
     have L15 : LatAt (upd H14 dl (.lst (ys ++ [v]))) lt cs := N14.l.to tp15 (upd_ne (Ne.symm dlt))
     have b15 : But a H (upd H14 dl (.lst (ys ++ [v]))) := fun c o n e => by rw [upd_ne (ne_of_none e hdlH)]; exact N14.b c o n e
     have t15 := tpU (o := .lst (ys ++ [v])) N14.tp dla
     obtain ⟨rr, er⟩ := eD_at d
     have iv' := iv
     rw [er] at iv'
     obtain ⟨ad, zs, rfl, had14, v1, r1, rfl, e1, _⟩ := iv'
     cases (show v1 = .str (dw d) from e1)
     generalize upd H14 dl (.lst (ys ++ [.ref ad])) = H15 at tp15 g15 c15 sc15 h15 L15 b15 t15 ⊢
     have had15 := tp15 _ _ had14
     refine ⟨_, rfl, ad, _, _, _, rfl, rfl, SqT.of had15, at0, rfl, _, rfl, ?_⟩
     rcases deed3 d with ⟨w', rfl⟩ | ⟨j', m', rfl⟩ | ⟨h1, h2, h3, h4⟩
     · rw [decide_eq_true (show V.str (dw (.lea w')) = V.str "leave" from rfl)]
       obtain ⟨md, hmd⟩ := hD
       obtain ⟨ad', e2, had2⟩ := two_open rfl (show Is H14 (.tup [.str "leave", .int w']) (.ref ad) from iv) fun u hu => hu
       cases e2
       have had2' := tp15 _ _ had2
       have hv : valV (eHad (ds.foldl stepH ms)) (Sum.inl w' : Key) = some (.str md) := by rw [val_had, getM_mem (had_nodup ds ms hMs.1) hmd]; rfl
       refine iteT ⟨_, rfl, hd, rfl, .inl ⟨_, .inl h15⟩, _, rfl, ad, _, _, _, rfl, rfl, SqT.of had2', at1, _, (Sum.inl w' : Key), _, h15, rfl, hv, ?_⟩
       rw [drop_had]
       have tp16 : Tups H15 (upd H15 hd (.dK (eHad (offW (ds.foldl stepH ms) w')))) := Tups.upd h15 (fun zs z => by cases z)
       have had16 := tp16 _ _ had15
       have b16 : But a H (upd H15 hd (.dK (eHad (offW (ds.foldl stepH ms) w')))) := fun c o n e => by rw [upd_ne (ne_of_none e hhdH)]; exact b15 c o n e
       refine ⟨_, rfl, ad, _, _, _, rfl, rfl, SqT.of had16, at0, rfl, _, rfl, ?_⟩
       rw [vs_ne (show dw (.lea w') ≠ "begin" from by show ("leave" : Str) ≠ "begin"; decide)]
       exact iteF ⟨_, _, cs, _, _, rfl, N14.next hMs.1 hmo iv hD' (fun b y e => tp16 _ _ (tp15 _ _ e)) b16 (tpU t15 hda) (by rw [upd_ne (Ne.symm hdc)]; exact c15) (by rw [upd_ne (Ne.symm hds)]; exact sc15) upd_same (L15.to tp16 (upd_ne lth)) (by rw [upd_ne dlh]; exact g15) (.inr ⟨rfl, rfl⟩)⟩
     · rw [vs_ne (show dw (.beg j' m') ≠ "leave" from by show ("begin" : Str) ≠ "leave"; decide)]
       refine iteF ⟨_, rfl, ad, _, _, _, rfl, rfl, SqT.of had15, at0, rfl, _, rfl, ?_⟩
       rw [decide_eq_true (show V.str (dw (.beg j' m')) = V.str "begin" from rfl)]
       refine iteT ⟨_, rfl, .inr (.inr (.inl ⟨rfl, .inl ⟨_, L15.at'⟩⟩)), lt, _, rfl, rfl, L15.at', ?_⟩
       have tp16 : Tups H15 (upd H15 lt (.dK [])) := Tups.upd L15.at' (fun zs z => by cases z)
       have b16 : But a H (upd H15 lt (.dK [])) := fun c o n e => by rw [upd_ne (ne_of_none e hltH)]; exact b15 c o n e
       exact ⟨_, _, [], _, _, rfl, N14.next hMs.1 hmo iv hD' (fun b y e => tp16 _ _ (tp15 _ _ e)) b16 (tpU t15 lta) (by rw [upd_ne (Ne.symm ltc)]; exact c15) (by rw [upd_ne (Ne.symm lts)]; exact sc15) (by rw [upd_ne (Ne.symm lth)]; exact h15) ⟨upd_same, List.nodup_nil, Nat.zero_le _, fun x hx => (by cases hx)⟩ (by rw [upd_ne dlt]; exact g15) (.inl rfl)⟩
     · rw [vs_ne h1]
       refine iteF ⟨_, rfl, ad, _, _, _, rfl, rfl, SqT.of had15, at0, rfl, _, rfl, ?_⟩
       rw [vs_ne h2]
       exact iteF ⟨_, _, cs, _, _, rfl, N14.next hMs.1 hmo iv hD' tp15 b15 t15 c15 sc15 (by rw [h3]; exact h15) L15 g15 (.inr ⟨rfl, h4⟩)⟩
   rintro σ H13 ⟨ds, ys, cs, z12, z13, rfl, N⟩
   have hlen := N.len
   refine ⟨_, rfl, .inl ⟨rfl, _, SqL.of N.sc⟩, _, rfl, dl, ys, rfl, .inl ⟨SqL.of N.d, fun q hq => ?_⟩⟩
   have s14 := Same.new hq (.tup ys)
   have g14 : upd H13 q (.tup ys) q = some (.tup ys) := upd_same
   generalize upd H13 q (.tup ys) = H14 at s14 g14 ⊢
   have sc14 := s14 _ _ N.sc
   have hxl := hx7.length
   rw [List.length_map] at hxl
   refine ⟨sl, _, _, rfl, rfl, sc14, by rw [hxl]; exact small1000 (by omega), ?_⟩
   have tp15 : Tups H14 (upd H14 sl (.lst (xs ++ [.ref q]))) := Tups.upd sc14 (fun zs z => by cases z)
   have tuA : Tups H13 (upd H14 sl (.lst (xs ++ [.ref q]))) := fun b y e => tp15 _ _ (s14 _ _ e)
   refine ⟨rs ++ [ds], xs ++ [.ref q], _, _, _, _, _, _, _, rfl, fun c o n e => by rw [upd_ne (ne_of_none e hslH)]; exact s14 _ _ (N.b c o n e), tpU (tpS N.tp s14) sla, by rw [upd_ne cls]; exact s14 _ _ N.c, N.cl'.tups tuA (froKn kn), upd_same, ?_, by rw [List.length_append, hr7]; rfl, fun j sc ms' h1 h2 => ?_⟩
   · rw [List.map_append]
     exact IsL.append (N.sl'.tups tuA (froS rs)) (IsL.one ⟨q, ys, rfl, tp15 _ _ g14, N.dl'.tups tuA (froDs ds)⟩)
   · by_cases hj : j < rs.length
     · rw [List.getElem?_append_left hj] at h1
       exact hk7 j sc ms' h1 h2
     · have hjl := (List.getElem?_eq_some_iff.mp h1).1
       rw [List.length_append, List.length_singleton] at hjl
       have hji : j = rs.length := by omega
       subst hji
       rw [List.getElem?_append_right (Nat.le_refl _), Nat.sub_self] at h1
       cases h1
       rw [hr7, hki] at h2
       cases h2
       rw [hr7]
       exact ⟨by rw [hlen]; omega, N.go, by have := N.bg; omega, N.each⟩
 rintro σ H7 ⟨rs, xs, y5, y8, y9, y10, y11, y12, y13, rfl, b7, t7, hc7, hl7, hs7, hx7, hr7, hk7⟩
 rw [Int.toNat_natCast] at hr7
 refine ⟨_, rfl, a, s, ns, 3, rfl, mkT b7 t7, by decide, by decide, fun f3 H8 f0 f1 b8 t8 => ⟨1, f3, rfl, rfl, 1 + f3, rfl, by omega, by omega, ?_⟩⟩
 have b08 := b7.trans b8
 refine lc_range (lo := 0) (n := (1 + f3).toNat) (fun j zs H' => But a H8 H' ∧ TpAt H' a s ∧ ∃ fs : List Nat, zs = fs.map (fun (n : Nat) => V.int (n : Int)) ∧ fs.length = j ∧ ∀ n ∈ fs, n < many) ⟨But.refl a H8, t8.at', [], rfl, rfl, fun n hn => (by cases hn)⟩ (fun j zs H' hj ⟨_, _, fs, e, el, _⟩ => by rw [e, List.length_map, el]; exact small_le (by omega)) ?_ ?_
 · rintro j zs H9 hj ⟨b9, t9, fs, rfl, el, hf⟩
   refine gIf0 ?_
   refine ⟨_, rfl, _, rfl, a, s, ns, (many : Int), rfl, mkT (b08.trans b9) t9, by omega, by omega, fun x H10 xx0 xx1 b10 t10 => ⟨b9.trans b10, t10.at', fs ++ [x.toNat], ?_, by rw [List.length_append, el]; rfl, fun n hn => ?_⟩⟩
   · rw [List.map_append]
     show _ = _ ++ [V.int ((x.toNat : Nat) : Int)]
     rw [Int.toNat_of_nonneg xx0]
   · rcases List.mem_append.mp hn with hn | hn
     · exact hf n hn
     · rw [List.mem_singleton.mp hn]; omega
 rintro zs H9 ⟨b9, t9, fs, rfl, el, hf⟩ l9 hl9
 have b09 := b08.trans b9
 have b79 : But a H7 H9 := b8.trans b9
 have tu9 : Tups H7 H9 := (mkT b7 t7).tups b79
 have s10 := Same.new hl9 (.lst (fs.map fun (n : Nat) => V.int (n : Int)))
 have g10 : upd H9 l9 (.lst (fs.map fun (n : Nat) => V.int (n : Int))) l9 = some (.lst (fs.map fun (n : Nat) => V.int (n : Int))) := upd_same
 generalize upd H9 l9 (.lst (fs.map fun (n : Nat) => V.int (n : Int))) = H10 at s10 g10 ⊢
 have hc10 := s10 _ _ (b79 _ _ cla hc7)
 have hs10 := s10 _ _ (b79 _ _ sla hs7)
 have hl10 : L2.IsL H10 (kn.map eMs) cv := (hl7.tups tu9 (froKn kn)).mono s10
 have hx10 : L2.IsL H10 (rs.map eS) xs := (hx7.tups tu9 (froS rs)).mono s10
 refine ⟨_, rfl, _, rfl, _, rfl, l9, rfl, ⟨_, SqL.of g10⟩, ?_⟩
 refine lc_list (xs := fs.map fun (n : Nat) => V.int (n : Int)) (fun j zs H' => Same H10 H' ∧ L2.IsL H' (((fs.take j).map fun n => ((n, kn.getD n []) : Calling)).map eC) zs) ⟨Same.refl H10, rfl⟩ (fun j zs H' hj ⟨s', e⟩ => ⟨SqL.of (s' _ _ g10), by
  have := e.length
  rw [List.length_map, List.length_map, List.length_take] at this
  exact small_le (by omega)⟩) ?_ ?_
 · rintro j y zs H11 hy ⟨s11, e⟩
   rw [List.getElem?_map] at hy
   cases en : fs[j]? with
   | none => rw [en] at hy; cases hy
   | some n =>
   rw [en] at hy
   cases hy
   have hnm := hf n (List.mem_of_getElem? en)
   have h1 : kn[n]? = some kn[n] := List.getElem?_eq_getElem (by omega)
   have h2 : cv[n]? = some cv[n] := List.getElem?_eq_getElem (by omega)
   obtain ⟨tt, htt, hit⟩ := (hl10.mono s11).get' h2
   rw [List.getElem?_map, h1] at htt
   cases htt
   have e1 : kn.getD n [] = kn[n] := by rw [List.getD_eq_getElem?_getD, h1]; rfl
   refine gIf0 ?_
   refine ⟨_, rfl, _, rfl, _, rfl, cl, _, _, _, rfl, rfl, SqL.of (s11 _ _ hc10), atI_nat h2, by show 2 ≤ sizeLine; decide, fun pt hpt => ?_⟩
   have s12 := Same.new hpt (.tup [.int (n : Int), cv[n]])
   refine ⟨s11.trans s12, ?_⟩
   rw [List.take_add_one, en, List.map_append, List.map_append]
   refine IsL.append (e.mono s12) (IsL.one ⟨pt, _, rfl, upd_same, IsL.two rfl ?_⟩)
   show Is _ (eMs (kn.getD n [])) _
   rw [e1]
   exact hit.mono s12
 rintro zs H11 ⟨s11, e⟩ l11 hl11
 rw [List.length_map, List.take_length] at e
 have s12 := Same.new hl11 (.lst zs)
 have g12 : upd H11 l11 (.lst zs) l11 = some (.lst zs) := upd_same
 generalize upd H11 l11 (.lst zs) = H12 at s12 g12 ⊢
 refine ⟨l11, zs, rfl, .inl ⟨SqL.of g12, fun qf hqf => ?_⟩⟩
 have s13 := Same.new hqf (.tup zs)
 have g13 : upd H12 qf (.tup zs) qf = some (.tup zs) := upd_same
 generalize upd H12 qf (.tup zs) = H13 at s13 g13 ⊢
 have s1013 := s11.trans (s12.trans s13)
 refine ⟨_, rfl, sl, xs, rfl, .inl ⟨SqL.of (s1013 _ _ hs10), fun qs hqs => ?_⟩⟩
 have s14 := Same.new hqs (.tup xs)
 have g14 : upd H13 qs (.tup xs) qs = some (.tup xs) := upd_same
 generalize upd H13 qs (.tup xs) = H14 at s14 g14 ⊢
 refine ⟨by show 4 ≤ sizeLine; decide, fun qh hqh => ?_⟩
 have s15 := Same.new hqh (.tup [.int nb, .int nw, .ref qf, .ref qs])
 have s915 := s10.trans (s1013.trans (s14.trans s15))
 have hkr : kn.length = rs.length := by omega
 have FK : FitK ⟨nb, nw, fs.map fun n => ((n, kn.getD n []) : Calling), rs⟩ kn := ⟨hkr, hk5, hk7, fun c hc => by
  obtain ⟨n, hn, rfl⟩ := List.mem_map.mp hc
  have hlt : n < kn.length := by have := hf n hn; omega
  have h1 : kn[n]? = some kn[n] := List.getElem?_eq_getElem hlt
  show kn[n]? = some (kn.getD n [])
  rw [List.getD_eq_getElem?_getD, h1]
  rfl⟩
 have hfl : (fs.map fun n => ((n, kn.getD n []) : Calling)).length = fs.length := List.length_map _
 refine k ⟨nb, nw, fs.map fun n => ((n, kn.getD n []) : Calling), rs⟩ _ _ ⟨nb0, nb9, by show 0 ≤ nw; omega, by show nw ≤ 3; omega, by show 1 ≤ rs.length; omega, by show rs.length ≤ 3; omega, by show 1 ≤ (fs.map _).length; omega, by show (fs.map _).length ≤ 4; omega, kn, FK⟩ (b09.trans (Same.but s915)) ((mkT b09 t9).same s915) ?_
 exact ⟨qh, _, rfl, upd_same, _, _, rfl, rfl, _, _, rfl, rfl, _, _, rfl, ⟨qf, zs, rfl, (s14.trans s15) _ _ g13, ((((e.mono s12).mono s13).mono s14).mono s15)⟩, _, _, rfl, ⟨qs, xs, rfl, s15 _ _ g14, (((hx10.mono s1013).mono s14).mono s15)⟩, rfl⟩
abbrev s_lawN : Stmt := top 68
noncomputable def tLstK (K : PySem.W.Frag) (t : TA) : TE := fun σ H Q => t σ H fun xs H1 => xs.length ≤ sizeLine ∧ ∀ p, H1 p = none → K.lookup p = none → Q (.ref p) (upd H1 p (.lst xs))
theorem pe_lstK {X : Cx} {es : List Expr} {t : TA} {pos : Pos} (h : PA X es t) : PE X (.List es pos) (tLstK X.K t) := by
 intro pins s σ H Q I hq
 refine wpAny_List_spliced (thn (h pos pins s σ H _ I hq) fun us s1 ⟨xs, H1, I1, r, z, q⟩ => ⟨by rw [← r.length]; exact z, ?_⟩)
 have hf : H1 s1.heap.objs.size = none := I1.hok.fresh (Nat.le_refl _)
 have hk : X.K.lookup s1.heap.objs.size = none := by
  cases e : X.K.lookup s1.heap.objs.size with
  | none => rfl
  | some o => exact absurd (Heap.lt_size (I1.kIn _ _ e)) (Nat.lt_irrefl _)
 exact ⟨.ref s1.heap.objs.size, upd H1 s1.heap.objs.size (.lst xs), I1.laid (t' := s1.toks) (fun b u e => Heap.get?_push_of_some _ e) (Nat.le_refl _) ⟨z, us, 0, r, Heap.get?_push_size _ rfl⟩, rfl, q _ hf hk⟩
theorem for_range2 {lo : Int} {n : Nat} {g : TG} {tb : TS} {D : Ends} {σ : L2.St} {H : Hp} (Fi : L2.St → Hp → Prop) (Pv : Nat → L2.St → Hp → Prop) (h0 : Pv 0 σ H) (fin : ∀ σ H, Fi σ H → D.nx σ H)
  (hs : (∀ σ H, Fi σ H → D.nx σ H) → ∀ i σ H, i < n → Pv i σ H → g (.int (lo + i)) σ H fun σ2 H2 => tb { D with nx := Pv (i + 1), ct := Pv (i + 1), bk := D.nx } σ2 H2) (hd : ∀ σ H, Pv n σ H → Fi σ H) :
  ∃ W : Nat → Nat → L2.St → Hp → Prop, (∃ m, W 0 m σ H) ∧ ∀ i m σ H, W i m σ H →
    ((Itr lo n).stop i H ∧ D.nx σ H) ∨ ((Itr lo n).go i H ∧ ∃ N : L2.St → Hp → Prop, (∀ σ' H', N σ' H' → ∃ m', m' < m ∧ W (i + 1) m' σ' H') ∧ ∀ x H', (Itr lo n).yld i H x H' → g x σ H' fun σ2 H2 => tb { D with nx := N, ct := N, bk := D.nx } σ2 H2) :=
 for_range Pv h0 (hs fin) (fun σ H p => fin σ H (hd σ H p))
theorem depthAll_le {d : Nat} : ∀ {ts : List T}, (∀ t ∈ ts, (toD t).depth ≤ d) → PyData.depthAll (toDs ts) ≤ d
 | [], _ => Nat.zero_le _
 | t :: ts, h => by
   unfold toDs PyData.depthAll
   exact Nat.max_le.mpr ⟨h t List.mem_cons_self, depthAll_le fun u hu => h u (List.mem_cons_of_mem _ hu)⟩
noncomputable def Fine (n : Nat) (t : T) : Prop := (toD t).canLay0 = true ∧ (toD t).depth ≤ n
theorem fine_int (n : Nat) (i : Int) : Fine n (.int i) := ⟨by unfold toD; rfl, by unfold toD; exact Nat.zero_le _⟩
theorem fine_str (n : Nat) {x : Str} (h : Clean x) : Fine n (.str x) := ⟨by unfold toD; exact str_ok h, by unfold toD; exact Nat.zero_le _⟩
theorem fine_tup {n : Nat} {ts : List T} (h : ∀ t ∈ ts, Fine n t) : Fine (n + 1) (.tup ts) := by
 refine ⟨?_, ?_⟩
 · unfold toD PyData.canLay0
   exact layAll fun t ht => (h t ht).1
 · unfold toD PyData.depth
   exact Nat.succ_le_succ (depthAll_le fun t ht => (h t ht).2)
theorem Fine.up {n m : Nat} {t : T} (h : Fine n t) (hm : n ≤ m) : Fine m t := ⟨h.1, Nat.le_trans h.2 hm⟩
theorem fine2 {n : Nat} {x y : T} (hx : Fine n x) (hy : Fine n y) : ∀ t ∈ [x, y], Fine n t := fun t ht => by
 rcases List.mem_cons.mp ht with rfl | ht
 · exact hx
 · rw [List.mem_singleton.mp ht]; exact hy
theorem fine3 {n : Nat} {x y z : T} (hx : Fine n x) (hy : Fine n y) (hz : Fine n z) : ∀ t ∈ [x, y, z], Fine n t := fun t ht => by
 rcases List.mem_cons.mp ht with rfl | ht
 · exact hx
 · exact fine2 hy hz t ht
theorem fine_mem {m : Mem} (h : MemT m) : Fine 1 (eMem m) := fine_tup (fine2 (fine_int 0 _) (fine_str 0 (by rcases h.2 with e | e | e <;> rw [e] <;> exact clean_lit (by decide +kernel))))
theorem fine_ms {ms : List Mem} (h : ∀ m ∈ ms, MemT m) : Fine 2 (eMs ms) := fine_tup fun t ht => by
 obtain ⟨m, hm, rfl⟩ := List.mem_map.mp ht
 exact fine_mem (h m hm)
theorem fine_cal {c : Calling} (h : CalT c) : Fine 3 (eC c) := fine_tup (fine2 (fine_int 2 _) (fine_ms h.2.2))
theorem fine_ded {d : Deed} (h : DedT d) : Fine 3 (eD d) := by
 cases d with
 | rai i j => exact fine_tup (fine3 (fine_str 2 (clean_lit (by decide +kernel))) (fine_int 2 _) (fine_int 2 _))
 | awa i j => exact fine_tup (fine3 (fine_str 2 (clean_lit (by decide +kernel))) (fine_int 2 _) (fine_int 2 _))
 | com i => exact fine_tup (fine2 (fine_str 2 (clean_lit (by decide +kernel))) (fine_int 2 _))
 | goo i => exact fine_tup (fine2 (fine_str 2 (clean_lit (by decide +kernel))) (fine_int 2 _))
 | lea i => exact fine_tup (fine2 (fine_str 2 (clean_lit (by decide +kernel))) (fine_int 2 _))
 | wor i => exact fine_tup (fine2 (fine_str 2 (clean_lit (by decide +kernel))) (fine_int 2 _))
 | say x => exact fine_tup (fine2 (fine_str 2 (clean_lit (by decide +kernel))) (fine_str 2 (clean_four h)))
 | beg j ms => exact fine_tup (fine3 (fine_str 2 (clean_lit (by decide +kernel))) (fine_int 2 _) (fine_ms h.2.2))
theorem fine_house {h : House} (hh : HouT h) : Fine 6 (eH h) := by
 refine fine_tup fun t ht => ?_
 rcases List.mem_cons.mp ht with rfl | ht
 · exact fine_int 5 _
 · refine fine3 (fine_int 5 _) ((fine_tup (n := 3) fun t ht => ?_).up (by decide)) (fine_tup (n := 4) fun t ht => ?_) t ht
   · obtain ⟨c, hc, rfl⟩ := List.mem_map.mp ht
     exact fine_cal (hh.f c hc)
   · obtain ⟨s, hs, rfl⟩ := List.mem_map.mp ht
     exact fine_tup (n := 3) fun t ht => by
      obtain ⟨d, hd, rfl⟩ := List.mem_map.mp ht
      exact fine_ded ((hh.s s hs).2 d hd)
noncomputable def spLaw (K : PySem.W.Frag) : Sp := fun vs H Q _ => ∃ (a : Addr) (ns : List Int), vs = [.ref a] ∧ SqL K H a (ns.map V.int) ∧ ns.length ≤ 63 ∧ ∀ H', Q (.bl true) H'
theorem sc_lawN : FnScope ["script", "deck", "k", "house", "turn", "told", "found"] ["script"] (defScope s_lawN) := ⟨rfl, rfl, rfl, by decide +kernel, rfl, by decide +kernel, by decide +kernel⟩
theorem ok_lawN {f0 : Addr} {fd0 : FuncData} (F : Fun K "law" "law" s_lawN f0 fd0) (T : Txt K mg) (o1 : Ok P w K mg base "_law_e_house" 4 ["deck"] (spHE K)) (o2 : Ok P w K mg base "is_house" 22 ["thing"] spHo) (o3 : Ok P w K mg base "show_house" 24 ["house"] spSh) (o4 : Ok P w K mg base "_law_e_text" 3 ["house"] spLt) (o5 : Ok P w K mg base "read_house" 24 ["text"] spRH) :
  FnOk P w K mg base CX0 25 f0 fd0 ["script"] (spLaw K) := by
 refine F.ok sc_lawN (fun vs H Q E ⟨_, _, e, _⟩ => by rw [e]; rfl) fun cdv A outer sh H vs Q E hr h => ?_
 obtain ⟨s, ns, rfl, hS, h63, kk⟩ := h
 have nd := sc_lawN.nd
 have r4 := hr.mono (show 4 ≤ 24 by decide)
 have r22 := hr.mono (show 22 ≤ 24 by decide)
 have r3 := hr.mono (show 3 ≤ 24 by decide)
 refine ⟨_, pss_cons (ps_set (i := 1) nd rfl (Or.inl rfl) (pe_lstK (pa_cons (pv 0) (pa_cons pe_int (pa_cons pe_int pa_nil)))))
  (pss_cons (ps_for PassesOwn.never rfl (pi_range1 rfl T.range (pa_cons pe_int pa_nil)) (pg_name (i := 2) nd rfl (Or.inl rfl))
  (pss_cons (ps_if (PW.pt (pw_and (pt_cmpR op_gt (pv 2) pe_int (nomark _)) (pw_and1 (pt_cmpR op_ge (pe_ix ix_list (pv 1) pe_int (fun _ _ => rfl)) (pe_callB call_len_seq (by rfl) T.len bt_len (pa_cons (pv 0) pa_nil)) (nomark _))))) (pss_one ps_break) pss_nil)
  (pss_cons (ps_set (i := 3) nd rfl (Or.inl rfl) (pe_fn o1 r4 (pa_cons (pv 1) pa_nil)))
  (pss_cons (ps_if (pt_cmpR op_isnotB (pe_fn o2 r22 (pa_cons (pv 3) pa_nil)) pe_bl (nomark _)) (pss_one (ps_ret pe_bl)) pss_nil)
  (pss_one (ps_for PassesOwn.never rfl (pi_range1 rfl T.range (pa_cons pe_int pa_nil)) (pg_name (i := 4) nd rfl (Or.inl rfl))
  (pss_cons (ps_set (i := 5) nd rfl (Or.inl rfl) (pe_fn o3 hr (pa_cons (pv 3) pa_nil)))
  (pss_cons (ps_if (PW.pt (pw_or (pt_not (pt_val (pe_isi T.isi T.str bt_str (pv 5)))) (pw_or1 (pt_cmpR op_ne (pv 5) (pe_fn o4 r3 (pa_cons (pv 3) pa_nil)) (nomark _))))) (pss_one (ps_ret pe_bl)) pss_nil)
  (pss_cons (ps_set (i := 6) nd rfl (Or.inl rfl) (pe_fn o5 hr (pa_cons (pv 5) pa_nil)))
  (pss_one (ps_if (PW.pt (pw_or (pt_cmpR (op_neTr hr.units) (pv 6) (pv 3) (nomark _)) (pw_or1 (pt_cmpR op_isnotB (pe_fn o2 r22 (pa_cons (pv 6) pa_nil)) pe_bl (nomark _))))) (pss_one (ps_ret pe_bl)) pss_nil)))))))))))
  (pss_one (ps_ret pe_bl))), ?_⟩
 refine ⟨_, rfl, (by show 3 ≤ sizeLine; decide), fun a ha hKa => ?_⟩
 have sa := Same.new ha (.lst [.ref s, .int 0, .int 0])
 have T0 : Tape K (upd H a (.lst [.ref s, .int 0, .int 0])) a s ns := by
  have e : s ≠ a := fun z => by
   rcases hS with (q | ⟨o, q⟩) | ⟨o, its, n, q, _⟩
   · rw [z, ha] at q; cases q
   · rw [z, ha] at q; cases q
   · have hKa : K.lookup a = none := hKa
     rw [z, hKa] at q; cases q
  exact ⟨⟨0, 0, upd_same, Int.le_refl 0, Int.le_refl 0⟩, sa.seq hS, e, h63⟩
 generalize upd H a (.lst [.ref s, .int 0, .int 0]) = H0 at T0 sa ⊢
 refine ⟨4, rfl, by decide, by decide, ?_⟩
 refine for_range2 (lo := 0) (n := (4 : Int).toNat) (fun σ H' => True) (fun i σ H' => Tape K H' a s ns ∧ ∃ x2 x3 x4 x5 x6, σ = [some (.ref s), some (.ref a), x2, x3, x4, x5, x6]) ⟨T0, none, none, none, none, none, rfl⟩ (fun σ H1 _ => kk _) ?_ (fun σ H' q => trivial)
 rintro fin i σ H1 hi ⟨T1, x2, x3, x4, x5, x6, rfl⟩
 obtain ⟨p1, q1, hta, _, _⟩ := T1.at'
 dsimp only [tSeq, tNext]
 refine tIf_and (fun H' => H' = H1) _ rfl (fun Q q => ⟨_, rfl, _, _, rfl, rfl, _, rfl, q⟩) (fun H' e => ?_) (fun rest _ => ?_)
 rotate_left
 · exact ⟨_, rfl, a, _, _, _, rfl, rfl, SqL.of hta, rfl, _, rfl, s, _, rfl, .inl T1.seq, _, _, rfl, rfl, _, rfl, ite2 (fun _ => fin _ _ trivial) (fun _ => rest H1 rfl)⟩
 subst e
 dsimp only [tSeq, tNext]
 refine ⟨_, rfl, a, s, ns, rfl, T1, fun h vh H2 Fh b2 T2 hv => ?_⟩
 obtain ⟨hh, hl⟩ := fit_T Fh
 have hW : Wh (eH h) := (fit_sh Fh).wh
 have hG := fit_good Fh
 have hm := fit_house Fh
 have fh := fine_house hh
 have h20 : (toD (eH h)).depth ≤ 20 := Nat.le_trans fh.2 (by decide)
 refine ⟨_, rfl, eH h, vh, rfl, hv, hW, .inl ⟨h, rfl, hG, fun H3 s3 => ⟨_, true, rfl, rfl, _, rfl, ?_⟩⟩⟩
 rw [hm]
 refine iteF ?_
 refine ⟨2, rfl, by decide, by decide, ?_⟩
 refine for_range (lo := 0) (n := (2 : Int).toNat) (fun j σ H' => Same H2 H' ∧ ∃ y4 y5 y6, σ = [some (.ref s), some (.ref a), some (.int (0 + (i : Int))), some vh, y4, y5, y6]) ⟨s3, _, _, _, rfl⟩ ?_ ?_
 rotate_left
 · rintro σ H4 ⟨s4, y4, y5, y6, rfl⟩
   exact ⟨T2.same s4, _, _, _, _, _, rfl⟩
 rintro j σ H4 hj ⟨s4, y4, y5, y6, rfl⟩
 refine ⟨_, rfl, h, vh, rfl, hv.mono s4, hW, hG, hm, hh, fun H5 s5 => ?_⟩
 refine ⟨_, rfl, _, "str", _, _, rfl, (show Is H5 (.str (txtH h)) (.str (txtH h)) from rfl).ty, kit_str K (.str (txtH h)), _, rfl, iteF ?_⟩
 refine ⟨_, rfl, _, rfl, h, vh, rfl, (hv.mono s4).mono s5, hh, fun H6 s6 => ⟨rfl, _, rfl, ?_⟩⟩
 rw [decide_eq_true rfl]
 refine iteF ⟨_, rfl, h, rfl, hh, hl, hW, hG, hm, fun vf H7 s7 iv => ?_⟩
 have s47 := s5.trans (s6.trans s7)
 refine ⟨_, rfl, _, rfl, eH h, eH h, iv, (hv.mono s4).mono s47, fh.1, fh.1, h20, _, rfl, ?_⟩
 rw [SeqAt.eqv_refl _ fh.1]
 refine iteF ⟨_, rfl, eH h, vf, rfl, iv, hW, .inl ⟨h, rfl, hG, fun H8 s8 => ⟨_, true, rfl, rfl, _, rfl, ?_⟩⟩⟩
 rw [hm]
 exact iteF ⟨s4.trans (s47.trans s8), _, _, _, rfl⟩
theorem def_of {K : PySem.W.Frag} {h : Heap} {mg : Str → Option Value} {x : Str} {st : Stmt} {f : Addr} {oc : Value} {od an : Option Addr} {osl : Array (Option Value)} {kV doc pm cdv ct : Value} (X : K.In h) (G : h.Ns mainGlobals mg) (e : PySem.W.nsIn K mainGlobals x = some (some (.ref f)))
 (l : K.lookup f = some ⟨oc, od, .func (PySem.W.fnOf x x (defArgs st) (defBody st) (defScope st) .none kV doc pm an cdv ct), osl⟩) (c : PySem.W.codeIn K cdv x = true) (k : PySem.W.keepIn K (.ref f) = true) : Def K mg x st := ⟨f, _, fun_mk l c k, PySem.W.mg_of X G e⟩
structure Tops (K : PySem.W.Frag) (mg : Str → Option Value) : Prop where
 d_is_whole : Def K mg "is_whole" s_is_whole
 d_is_within : Def K mg "is_within" s_is_within
 d_is_tuple_within : Def K mg "is_tuple_within" s_is_tuple_within
 d_is_letters : Def K mg "is_letters" s_is_letters
 d_is_word : Def K mg "is_word" s_is_word
 d_is_box : Def K mg "is_box" s_is_box
 d_is_wall : Def K mg "is_wall" s_is_wall
 d_is_member : Def K mg "is_member" s_is_member
 d_are_members : Def K mg "are_members" s_are_members
 d_is_calling : Def K mg "is_calling" s_is_calling
 d_is_deed : Def K mg "is_deed" s_is_deed
 d_is_script : Def K mg "is_script" s_is_script
 d_is_frame : Def K mg "is_frame" s_is_frame
 d_is_well_formed : Def K mg "is_well_formed" s_is_well_formed
 d_brought_by_scripts : Def K mg "brought_by_scripts" s_brought
 d_is_small_enough : Def K mg "is_small_enough" s_is_small
 d_is_allowed : Def K mg "is_allowed" s_is_allowed
 d_fits : Def K mg "fits" s_fits
 d_is_house : Def K mg "is_house" s_is_house
 d_need_house : Def K mg "need_house" s_needHouse
 d_is_number : Def K mg "is_number" s_isNumber
 d_read_word : Def K mg "read_word" s_readWord
 d_read_words : Def K mg "read_words" s_readWords
 d_show_calling : Def K mg "show_calling" s_showCalling
 d_show_deed : Def K mg "show_deed" s_showDeed
 d_show_house : Def K mg "show_house" s_showHouse
 d_need_read : Def K mg "need_read" s_needRead
 d_read_head : Def K mg "read_head" s_readHead
 d_read_member : Def K mg "read_member" s_readMember
 d_read_calling : Def K mg "read_calling" s_readCalling
 d_read_deed : Def K mg "read_deed" s_readDeed
 d_read_scripts_and_firsts : Def K mg "read_scripts_and_firsts" s_readSF
 d_read_house : Def K mg "read_house" s_readHouse
 d_law_e_mixed : Def K mg "_law_e_mixed" s_mixed
 d_law_e_pick : Def K mg "_law_e_pick" s_pick
 d_law_e_may_call : Def K mg "_law_e_may_call" s_mayCall
 d_law_e_house_deed : Def K mg "_law_e_house_deed" s_houseDeed
 d_law_e_house : Def K mg "_law_e_house" s_houseE
 d_law_e_members_text : Def K mg "_law_e_members_text" s_memText
 d_law_e_deed_text : Def K mg "_law_e_deed_text" s_deedText
 d_law_e_text : Def K mg "_law_e_text" s_lawText
 d_law : Def K mg "law" s_lawN
 txt : Txt K mg
theorem whole (B : DeedsK w K mg) (A : Tops K mg) {f0 : Addr} {fd0 : FuncData} (F : Fun K "law" "law" s_lawN f0 fd0) : FnOk P w K mg base CX0 25 f0 fd0 ["script"] (spLaw K) := by
 have T := A.txt
 have o1 := ok_is_whole (P := P) (w := w) (base := base) A.d_is_whole T
 have o2 := ok_is_within A.d_is_within T o1
 have o3 := ok_is_tuple_within (P := P) (w := w) (base := base) A.d_is_tuple_within T
 have o4a := ok_is_letters (P := P) (w := w) (base := base) A.d_is_letters T
 have o4 := ok_is_word A.d_is_word T o4a
 have o5 := ok_is_box A.d_is_box T o2
 have o6 := ok_is_wall A.d_is_wall T o2
 have o7 := ok_is_member A.d_is_member T o3 o6
 have o8 := ok_are_members A.d_are_members T o7
 have o9 := ok_is_calling A.d_is_calling T o3 o2 o8
 have o10 := ok_is_deed A.d_is_deed T o3 o2 o9 o5 o6 o4
 have o11 := ok_is_script A.d_is_script T o3 o10
 have o12 := ok_is_frame A.d_is_frame T o3 o2
 have o13 := ok_is_well_formed A.d_is_well_formed T o12 o11 o9
 have o14 := ok_brought (P := P) (w := w) (base := base) A.d_brought_by_scripts T
 have o15 := ok_is_small A.d_is_small_enough T o14
 have o16 := ok_is_allowed (P := P) (w := w) (base := base) A.d_is_allowed T
 have o17 := ok_fits A.d_fits T o16 20
 have o18 := ok_is_house A.d_is_house T o13 o15 o17
 have n1 := ok_needHouse A.d_need_house T o18
 have n2 := ok_isNumber (P := P) (w := w) (base := base) A.d_is_number T
 have n3 := ok_readWord A.d_read_word T n2 o4 o4a
 have n4 := ok_readWords A.d_read_words T n3
 have n5 := ok_showCalling (P := P) (w := w) (base := base) A.d_show_calling T
 have n6 := ok_showDeed A.d_show_deed T n5
 have n7 := ok_showHouse A.d_show_house T n1 n6 n5
 have n8 := ok_needRead (P := P) (w := w) (base := base) A.d_need_read
 have n9 := ok_readHead A.d_read_head T n4 n8
 have n10 := ok_readMember A.d_read_member T n3 n8
 have n11 := ok_readCalling A.d_read_calling T n3 n8 n10
 have n12 := ok_readDeed A.d_read_deed T B n11 n8 n4
 have n13 := ok_readSF A.d_read_scripts_and_firsts T n11 n12
 have n14 := ok_readHouse A.d_read_house T n9 n13 n1
 have e1 := ok_mixed (P := P) (w := w) (base := base) A.d_law_e_mixed
 have e2 := ok_pick A.d_law_e_pick T e1
 have e3 := ok_mayCall (P := P) (w := w) (base := base) A.d_law_e_may_call T
 have e4 := ok_houseDeed A.d_law_e_house_deed T e2 e3
 have e5 := ok_houseE A.d_law_e_house T e2 e4
 have e6 := ok_memText (P := P) (w := w) (base := base) A.d_law_e_members_text T
 have e7 := ok_deedText A.d_law_e_deed_text T e6
 have e8 := ok_lawText A.d_law_e_text T e6 e7
 exact ok_lawN F T e5 o18 n7 e8 n14
theorem all_mk {l : PySem.W.OpenLaw} {w : World} {K : PySem.W.Frag} {h : Heap} {mg : Str → Option Value} {fa : Addr} (X : K.In h) (G : h.Ns mainGlobals mg) (hfa : mg "law" = some (.ref fa))
  {dq : Addr} {dep : Nat} {dt0 : Tok} {db0 : Addr} {dd0 : Option Addr} {ds0 : Array (Option Value)} {dn0 : Nat} {du0_0 : Tok} {du0_1 : Tok} {dt1 : Tok} {db1 : Addr} {dd1 : Option Addr} {ds1 : Array (Option Value)} {dn1 : Nat} {du1_0 : Tok} {du1_1 : Tok} {dt2 : Tok} {db2 : Addr} {dd2 : Option Addr} {ds2 : Array (Option Value)} {dn2 : Nat} {du2_0 : Tok} {dt3 : Tok} {db3 : Addr} {dd3 : Option Addr} {ds3 : Array (Option Value)} {dn3 : Nat} {du3_0 : Tok} {dt4 : Tok} {db4 : Addr} {dd4 : Option Addr} {ds4 : Array (Option Value)} {dn4 : Nat} {du4_0 : Tok} {dt5 : Tok} {db5 : Addr} {dd5 : Option Addr} {ds5 : Array (Option Value)} {dn5 : Nat} {du5_0 : Tok} {dt6 : Tok} {db6 : Addr} {dd6 : Option Addr} {ds6 : Array (Option Value)} {dn6 : Nat} {du6_0 : Tok}
  (dq1 : PySem.W.nsIn K mainGlobals "DEEDS" = some (some (.ref dq))) (dq2 : K.lookup dq = some ⟨.type "dict", none, .dict #[⟨hashStr w "raise", .str "raise" dt0, .ref db0⟩, ⟨hashStr w "await", .str "await" dt1, .ref db1⟩, ⟨hashStr w "come", .str "come" dt2, .ref db2⟩, ⟨hashStr w "go", .str "go" dt3, .ref db3⟩, ⟨hashStr w "leave", .str "leave" dt4, .ref db4⟩, ⟨hashStr w "work", .str "work" dt5, .ref db5⟩, ⟨hashStr w "say", .str "say" dt6, .ref db6⟩] dep, #[]⟩)
  (dl0 : K.lookup db0 = some ⟨.type "tuple", dd0, .seq #[.str "number" du0_0, .str "number" du0_1] dn0, ds0⟩)
  (dl1 : K.lookup db1 = some ⟨.type "tuple", dd1, .seq #[.str "number" du1_0, .str "number" du1_1] dn1, ds1⟩)
  (dl2 : K.lookup db2 = some ⟨.type "tuple", dd2, .seq #[.str "number" du2_0] dn2, ds2⟩)
  (dl3 : K.lookup db3 = some ⟨.type "tuple", dd3, .seq #[.str "number" du3_0] dn3, ds3⟩)
  (dl4 : K.lookup db4 = some ⟨.type "tuple", dd4, .seq #[.str "number" du4_0] dn4, ds4⟩)
  (dl5 : K.lookup db5 = some ⟨.type "tuple", dd5, .seq #[.str "number" du5_0] dn5, ds5⟩)
  (dl6 : K.lookup db6 = some ⟨.type "tuple", dd6, .seq #[.str "letters" du6_0] dn6, ds6⟩) (dq0 : (dq == sysModules) = false)
  {f0 : Addr} {od0 an0 : Option Addr} {sl0 : Array (Option Value)} {oc0 kV0 dc0 pm0 cd0 ct0 : Value}
  {f1 : Addr} {od1 an1 : Option Addr} {sl1 : Array (Option Value)} {oc1 kV1 dc1 pm1 cd1 ct1 : Value}
  {f2 : Addr} {od2 an2 : Option Addr} {sl2 : Array (Option Value)} {oc2 kV2 dc2 pm2 cd2 ct2 : Value}
  {f3 : Addr} {od3 an3 : Option Addr} {sl3 : Array (Option Value)} {oc3 kV3 dc3 pm3 cd3 ct3 : Value}
  {f4 : Addr} {od4 an4 : Option Addr} {sl4 : Array (Option Value)} {oc4 kV4 dc4 pm4 cd4 ct4 : Value}
  {f5 : Addr} {od5 an5 : Option Addr} {sl5 : Array (Option Value)} {oc5 kV5 dc5 pm5 cd5 ct5 : Value}
  {f6 : Addr} {od6 an6 : Option Addr} {sl6 : Array (Option Value)} {oc6 kV6 dc6 pm6 cd6 ct6 : Value}
  {f7 : Addr} {od7 an7 : Option Addr} {sl7 : Array (Option Value)} {oc7 kV7 dc7 pm7 cd7 ct7 : Value}
  {f8 : Addr} {od8 an8 : Option Addr} {sl8 : Array (Option Value)} {oc8 kV8 dc8 pm8 cd8 ct8 : Value}
  {f9 : Addr} {od9 an9 : Option Addr} {sl9 : Array (Option Value)} {oc9 kV9 dc9 pm9 cd9 ct9 : Value}
  {f10 : Addr} {od10 an10 : Option Addr} {sl10 : Array (Option Value)} {oc10 kV10 dc10 pm10 cd10 ct10 : Value}
  {f11 : Addr} {od11 an11 : Option Addr} {sl11 : Array (Option Value)} {oc11 kV11 dc11 pm11 cd11 ct11 : Value}
  {f12 : Addr} {od12 an12 : Option Addr} {sl12 : Array (Option Value)} {oc12 kV12 dc12 pm12 cd12 ct12 : Value}
  {f13 : Addr} {od13 an13 : Option Addr} {sl13 : Array (Option Value)} {oc13 kV13 dc13 pm13 cd13 ct13 : Value}
  {f14 : Addr} {od14 an14 : Option Addr} {sl14 : Array (Option Value)} {oc14 kV14 dc14 pm14 cd14 ct14 : Value}
  {f15 : Addr} {od15 an15 : Option Addr} {sl15 : Array (Option Value)} {oc15 kV15 dc15 pm15 cd15 ct15 : Value}
  {f16 : Addr} {od16 an16 : Option Addr} {sl16 : Array (Option Value)} {oc16 kV16 dc16 pm16 cd16 ct16 : Value}
  {f17 : Addr} {od17 an17 : Option Addr} {sl17 : Array (Option Value)} {oc17 kV17 dc17 pm17 cd17 ct17 : Value}
  {f18 : Addr} {od18 an18 : Option Addr} {sl18 : Array (Option Value)} {oc18 kV18 dc18 pm18 cd18 ct18 : Value}
  {f19 : Addr} {od19 an19 : Option Addr} {sl19 : Array (Option Value)} {oc19 kV19 dc19 pm19 cd19 ct19 : Value}
  {f20 : Addr} {od20 an20 : Option Addr} {sl20 : Array (Option Value)} {oc20 kV20 dc20 pm20 cd20 ct20 : Value}
  {f21 : Addr} {od21 an21 : Option Addr} {sl21 : Array (Option Value)} {oc21 kV21 dc21 pm21 cd21 ct21 : Value}
  {f22 : Addr} {od22 an22 : Option Addr} {sl22 : Array (Option Value)} {oc22 kV22 dc22 pm22 cd22 ct22 : Value}
  {f23 : Addr} {od23 an23 : Option Addr} {sl23 : Array (Option Value)} {oc23 kV23 dc23 pm23 cd23 ct23 : Value}
  {f24 : Addr} {od24 an24 : Option Addr} {sl24 : Array (Option Value)} {oc24 kV24 dc24 pm24 cd24 ct24 : Value}
  {f25 : Addr} {od25 an25 : Option Addr} {sl25 : Array (Option Value)} {oc25 kV25 dc25 pm25 cd25 ct25 : Value}
  {f26 : Addr} {od26 an26 : Option Addr} {sl26 : Array (Option Value)} {oc26 kV26 dc26 pm26 cd26 ct26 : Value}
  {f27 : Addr} {od27 an27 : Option Addr} {sl27 : Array (Option Value)} {oc27 kV27 dc27 pm27 cd27 ct27 : Value}
  {f28 : Addr} {od28 an28 : Option Addr} {sl28 : Array (Option Value)} {oc28 kV28 dc28 pm28 cd28 ct28 : Value}
  {f29 : Addr} {od29 an29 : Option Addr} {sl29 : Array (Option Value)} {oc29 kV29 dc29 pm29 cd29 ct29 : Value}
  {f30 : Addr} {od30 an30 : Option Addr} {sl30 : Array (Option Value)} {oc30 kV30 dc30 pm30 cd30 ct30 : Value}
  {f31 : Addr} {od31 an31 : Option Addr} {sl31 : Array (Option Value)} {oc31 kV31 dc31 pm31 cd31 ct31 : Value}
  {f32 : Addr} {od32 an32 : Option Addr} {sl32 : Array (Option Value)} {oc32 kV32 dc32 pm32 cd32 ct32 : Value}
  {f33 : Addr} {od33 an33 : Option Addr} {sl33 : Array (Option Value)} {oc33 kV33 dc33 pm33 cd33 ct33 : Value}
  {f34 : Addr} {od34 an34 : Option Addr} {sl34 : Array (Option Value)} {oc34 kV34 dc34 pm34 cd34 ct34 : Value}
  {f35 : Addr} {od35 an35 : Option Addr} {sl35 : Array (Option Value)} {oc35 kV35 dc35 pm35 cd35 ct35 : Value}
  {f36 : Addr} {od36 an36 : Option Addr} {sl36 : Array (Option Value)} {oc36 kV36 dc36 pm36 cd36 ct36 : Value}
  {f37 : Addr} {od37 an37 : Option Addr} {sl37 : Array (Option Value)} {oc37 kV37 dc37 pm37 cd37 ct37 : Value}
  {f38 : Addr} {od38 an38 : Option Addr} {sl38 : Array (Option Value)} {oc38 kV38 dc38 pm38 cd38 ct38 : Value}
  {f39 : Addr} {od39 an39 : Option Addr} {sl39 : Array (Option Value)} {oc39 kV39 dc39 pm39 cd39 ct39 : Value}
  {f40 : Addr} {od40 an40 : Option Addr} {sl40 : Array (Option Value)} {oc40 kV40 dc40 pm40 cd40 ct40 : Value}
  {f41 : Addr} {od41 an41 : Option Addr} {sl41 : Array (Option Value)} {oc41 kV41 dc41 pm41 cd41 ct41 : Value}
  {t0 : Tok}
  {t1 : Tok}
  {t2 : Tok}
  {t3 : Tok}
  {t4 : Tok}
  {t5 : Tok}
  {t6 : Tok}
  {t7 : Tok}
  {t8 : Tok}
  {t9 : Tok}
  {t10 : Tok}
  {t11 : Tok}
  {t12 : Tok}
  {t13 : Tok}
  {t14 : Tok}
  {am15 : Addr} {mt15_0 : Tok} {mt15_1 : Tok} {mt15_2 : Tok} {mn15 : Nat} {dm15 : Option Addr} {slm15 : Array (Option Value)}
  {t16 : Tok}
  (a0 : PySem.W.nsIn K mainGlobals "is_whole" = some (some (.ref f0))) (l0 : K.lookup f0 = some ⟨oc0, od0, .func (PySem.W.fnOf "is_whole" "is_whole" (defArgs s_is_whole) (defBody s_is_whole) (defScope s_is_whole) .none kV0 dc0 pm0 an0 cd0 ct0), sl0⟩) (c0 : PySem.W.codeIn K cd0 "is_whole" = true) (k0 : PySem.W.keepIn K (.ref f0) = true)
  (a1 : PySem.W.nsIn K mainGlobals "is_within" = some (some (.ref f1))) (l1 : K.lookup f1 = some ⟨oc1, od1, .func (PySem.W.fnOf "is_within" "is_within" (defArgs s_is_within) (defBody s_is_within) (defScope s_is_within) .none kV1 dc1 pm1 an1 cd1 ct1), sl1⟩) (c1 : PySem.W.codeIn K cd1 "is_within" = true) (k1 : PySem.W.keepIn K (.ref f1) = true)
  (a2 : PySem.W.nsIn K mainGlobals "is_tuple_within" = some (some (.ref f2))) (l2 : K.lookup f2 = some ⟨oc2, od2, .func (PySem.W.fnOf "is_tuple_within" "is_tuple_within" (defArgs s_is_tuple_within) (defBody s_is_tuple_within) (defScope s_is_tuple_within) .none kV2 dc2 pm2 an2 cd2 ct2), sl2⟩) (c2 : PySem.W.codeIn K cd2 "is_tuple_within" = true) (k2 : PySem.W.keepIn K (.ref f2) = true)
  (a3 : PySem.W.nsIn K mainGlobals "is_letters" = some (some (.ref f3))) (l3 : K.lookup f3 = some ⟨oc3, od3, .func (PySem.W.fnOf "is_letters" "is_letters" (defArgs s_is_letters) (defBody s_is_letters) (defScope s_is_letters) .none kV3 dc3 pm3 an3 cd3 ct3), sl3⟩) (c3 : PySem.W.codeIn K cd3 "is_letters" = true) (k3 : PySem.W.keepIn K (.ref f3) = true)
  (a4 : PySem.W.nsIn K mainGlobals "is_word" = some (some (.ref f4))) (l4 : K.lookup f4 = some ⟨oc4, od4, .func (PySem.W.fnOf "is_word" "is_word" (defArgs s_is_word) (defBody s_is_word) (defScope s_is_word) .none kV4 dc4 pm4 an4 cd4 ct4), sl4⟩) (c4 : PySem.W.codeIn K cd4 "is_word" = true) (k4 : PySem.W.keepIn K (.ref f4) = true)
  (a5 : PySem.W.nsIn K mainGlobals "is_box" = some (some (.ref f5))) (l5 : K.lookup f5 = some ⟨oc5, od5, .func (PySem.W.fnOf "is_box" "is_box" (defArgs s_is_box) (defBody s_is_box) (defScope s_is_box) .none kV5 dc5 pm5 an5 cd5 ct5), sl5⟩) (c5 : PySem.W.codeIn K cd5 "is_box" = true) (k5 : PySem.W.keepIn K (.ref f5) = true)
  (a6 : PySem.W.nsIn K mainGlobals "is_wall" = some (some (.ref f6))) (l6 : K.lookup f6 = some ⟨oc6, od6, .func (PySem.W.fnOf "is_wall" "is_wall" (defArgs s_is_wall) (defBody s_is_wall) (defScope s_is_wall) .none kV6 dc6 pm6 an6 cd6 ct6), sl6⟩) (c6 : PySem.W.codeIn K cd6 "is_wall" = true) (k6 : PySem.W.keepIn K (.ref f6) = true)
  (a7 : PySem.W.nsIn K mainGlobals "is_member" = some (some (.ref f7))) (l7 : K.lookup f7 = some ⟨oc7, od7, .func (PySem.W.fnOf "is_member" "is_member" (defArgs s_is_member) (defBody s_is_member) (defScope s_is_member) .none kV7 dc7 pm7 an7 cd7 ct7), sl7⟩) (c7 : PySem.W.codeIn K cd7 "is_member" = true) (k7 : PySem.W.keepIn K (.ref f7) = true)
  (a8 : PySem.W.nsIn K mainGlobals "are_members" = some (some (.ref f8))) (l8 : K.lookup f8 = some ⟨oc8, od8, .func (PySem.W.fnOf "are_members" "are_members" (defArgs s_are_members) (defBody s_are_members) (defScope s_are_members) .none kV8 dc8 pm8 an8 cd8 ct8), sl8⟩) (c8 : PySem.W.codeIn K cd8 "are_members" = true) (k8 : PySem.W.keepIn K (.ref f8) = true)
  (a9 : PySem.W.nsIn K mainGlobals "is_calling" = some (some (.ref f9))) (l9 : K.lookup f9 = some ⟨oc9, od9, .func (PySem.W.fnOf "is_calling" "is_calling" (defArgs s_is_calling) (defBody s_is_calling) (defScope s_is_calling) .none kV9 dc9 pm9 an9 cd9 ct9), sl9⟩) (c9 : PySem.W.codeIn K cd9 "is_calling" = true) (k9 : PySem.W.keepIn K (.ref f9) = true)
  (a10 : PySem.W.nsIn K mainGlobals "is_deed" = some (some (.ref f10))) (l10 : K.lookup f10 = some ⟨oc10, od10, .func (PySem.W.fnOf "is_deed" "is_deed" (defArgs s_is_deed) (defBody s_is_deed) (defScope s_is_deed) .none kV10 dc10 pm10 an10 cd10 ct10), sl10⟩) (c10 : PySem.W.codeIn K cd10 "is_deed" = true) (k10 : PySem.W.keepIn K (.ref f10) = true)
  (a11 : PySem.W.nsIn K mainGlobals "is_script" = some (some (.ref f11))) (l11 : K.lookup f11 = some ⟨oc11, od11, .func (PySem.W.fnOf "is_script" "is_script" (defArgs s_is_script) (defBody s_is_script) (defScope s_is_script) .none kV11 dc11 pm11 an11 cd11 ct11), sl11⟩) (c11 : PySem.W.codeIn K cd11 "is_script" = true) (k11 : PySem.W.keepIn K (.ref f11) = true)
  (a12 : PySem.W.nsIn K mainGlobals "is_frame" = some (some (.ref f12))) (l12 : K.lookup f12 = some ⟨oc12, od12, .func (PySem.W.fnOf "is_frame" "is_frame" (defArgs s_is_frame) (defBody s_is_frame) (defScope s_is_frame) .none kV12 dc12 pm12 an12 cd12 ct12), sl12⟩) (c12 : PySem.W.codeIn K cd12 "is_frame" = true) (k12 : PySem.W.keepIn K (.ref f12) = true)
  (a13 : PySem.W.nsIn K mainGlobals "is_well_formed" = some (some (.ref f13))) (l13 : K.lookup f13 = some ⟨oc13, od13, .func (PySem.W.fnOf "is_well_formed" "is_well_formed" (defArgs s_is_well_formed) (defBody s_is_well_formed) (defScope s_is_well_formed) .none kV13 dc13 pm13 an13 cd13 ct13), sl13⟩) (c13 : PySem.W.codeIn K cd13 "is_well_formed" = true) (k13 : PySem.W.keepIn K (.ref f13) = true)
  (a14 : PySem.W.nsIn K mainGlobals "brought_by_scripts" = some (some (.ref f14))) (l14 : K.lookup f14 = some ⟨oc14, od14, .func (PySem.W.fnOf "brought_by_scripts" "brought_by_scripts" (defArgs s_brought) (defBody s_brought) (defScope s_brought) .none kV14 dc14 pm14 an14 cd14 ct14), sl14⟩) (c14 : PySem.W.codeIn K cd14 "brought_by_scripts" = true) (k14 : PySem.W.keepIn K (.ref f14) = true)
  (a15 : PySem.W.nsIn K mainGlobals "is_small_enough" = some (some (.ref f15))) (l15 : K.lookup f15 = some ⟨oc15, od15, .func (PySem.W.fnOf "is_small_enough" "is_small_enough" (defArgs s_is_small) (defBody s_is_small) (defScope s_is_small) .none kV15 dc15 pm15 an15 cd15 ct15), sl15⟩) (c15 : PySem.W.codeIn K cd15 "is_small_enough" = true) (k15 : PySem.W.keepIn K (.ref f15) = true)
  (a16 : PySem.W.nsIn K mainGlobals "is_allowed" = some (some (.ref f16))) (l16 : K.lookup f16 = some ⟨oc16, od16, .func (PySem.W.fnOf "is_allowed" "is_allowed" (defArgs s_is_allowed) (defBody s_is_allowed) (defScope s_is_allowed) .none kV16 dc16 pm16 an16 cd16 ct16), sl16⟩) (c16 : PySem.W.codeIn K cd16 "is_allowed" = true) (k16 : PySem.W.keepIn K (.ref f16) = true)
  (a17 : PySem.W.nsIn K mainGlobals "fits" = some (some (.ref f17))) (l17 : K.lookup f17 = some ⟨oc17, od17, .func (PySem.W.fnOf "fits" "fits" (defArgs s_fits) (defBody s_fits) (defScope s_fits) .none kV17 dc17 pm17 an17 cd17 ct17), sl17⟩) (c17 : PySem.W.codeIn K cd17 "fits" = true) (k17 : PySem.W.keepIn K (.ref f17) = true)
  (a18 : PySem.W.nsIn K mainGlobals "is_house" = some (some (.ref f18))) (l18 : K.lookup f18 = some ⟨oc18, od18, .func (PySem.W.fnOf "is_house" "is_house" (defArgs s_is_house) (defBody s_is_house) (defScope s_is_house) .none kV18 dc18 pm18 an18 cd18 ct18), sl18⟩) (c18 : PySem.W.codeIn K cd18 "is_house" = true) (k18 : PySem.W.keepIn K (.ref f18) = true)
  (a19 : PySem.W.nsIn K mainGlobals "need_house" = some (some (.ref f19))) (l19 : K.lookup f19 = some ⟨oc19, od19, .func (PySem.W.fnOf "need_house" "need_house" (defArgs s_needHouse) (defBody s_needHouse) (defScope s_needHouse) .none kV19 dc19 pm19 an19 cd19 ct19), sl19⟩) (c19 : PySem.W.codeIn K cd19 "need_house" = true) (k19 : PySem.W.keepIn K (.ref f19) = true)
  (a20 : PySem.W.nsIn K mainGlobals "is_number" = some (some (.ref f20))) (l20 : K.lookup f20 = some ⟨oc20, od20, .func (PySem.W.fnOf "is_number" "is_number" (defArgs s_isNumber) (defBody s_isNumber) (defScope s_isNumber) .none kV20 dc20 pm20 an20 cd20 ct20), sl20⟩) (c20 : PySem.W.codeIn K cd20 "is_number" = true) (k20 : PySem.W.keepIn K (.ref f20) = true)
  (a21 : PySem.W.nsIn K mainGlobals "read_word" = some (some (.ref f21))) (l21 : K.lookup f21 = some ⟨oc21, od21, .func (PySem.W.fnOf "read_word" "read_word" (defArgs s_readWord) (defBody s_readWord) (defScope s_readWord) .none kV21 dc21 pm21 an21 cd21 ct21), sl21⟩) (c21 : PySem.W.codeIn K cd21 "read_word" = true) (k21 : PySem.W.keepIn K (.ref f21) = true)
  (a22 : PySem.W.nsIn K mainGlobals "read_words" = some (some (.ref f22))) (l22 : K.lookup f22 = some ⟨oc22, od22, .func (PySem.W.fnOf "read_words" "read_words" (defArgs s_readWords) (defBody s_readWords) (defScope s_readWords) .none kV22 dc22 pm22 an22 cd22 ct22), sl22⟩) (c22 : PySem.W.codeIn K cd22 "read_words" = true) (k22 : PySem.W.keepIn K (.ref f22) = true)
  (a23 : PySem.W.nsIn K mainGlobals "show_calling" = some (some (.ref f23))) (l23 : K.lookup f23 = some ⟨oc23, od23, .func (PySem.W.fnOf "show_calling" "show_calling" (defArgs s_showCalling) (defBody s_showCalling) (defScope s_showCalling) .none kV23 dc23 pm23 an23 cd23 ct23), sl23⟩) (c23 : PySem.W.codeIn K cd23 "show_calling" = true) (k23 : PySem.W.keepIn K (.ref f23) = true)
  (a24 : PySem.W.nsIn K mainGlobals "show_deed" = some (some (.ref f24))) (l24 : K.lookup f24 = some ⟨oc24, od24, .func (PySem.W.fnOf "show_deed" "show_deed" (defArgs s_showDeed) (defBody s_showDeed) (defScope s_showDeed) .none kV24 dc24 pm24 an24 cd24 ct24), sl24⟩) (c24 : PySem.W.codeIn K cd24 "show_deed" = true) (k24 : PySem.W.keepIn K (.ref f24) = true)
  (a25 : PySem.W.nsIn K mainGlobals "show_house" = some (some (.ref f25))) (l25 : K.lookup f25 = some ⟨oc25, od25, .func (PySem.W.fnOf "show_house" "show_house" (defArgs s_showHouse) (defBody s_showHouse) (defScope s_showHouse) .none kV25 dc25 pm25 an25 cd25 ct25), sl25⟩) (c25 : PySem.W.codeIn K cd25 "show_house" = true) (k25 : PySem.W.keepIn K (.ref f25) = true)
  (a26 : PySem.W.nsIn K mainGlobals "need_read" = some (some (.ref f26))) (l26 : K.lookup f26 = some ⟨oc26, od26, .func (PySem.W.fnOf "need_read" "need_read" (defArgs s_needRead) (defBody s_needRead) (defScope s_needRead) .none kV26 dc26 pm26 an26 cd26 ct26), sl26⟩) (c26 : PySem.W.codeIn K cd26 "need_read" = true) (k26 : PySem.W.keepIn K (.ref f26) = true)
  (a27 : PySem.W.nsIn K mainGlobals "read_head" = some (some (.ref f27))) (l27 : K.lookup f27 = some ⟨oc27, od27, .func (PySem.W.fnOf "read_head" "read_head" (defArgs s_readHead) (defBody s_readHead) (defScope s_readHead) .none kV27 dc27 pm27 an27 cd27 ct27), sl27⟩) (c27 : PySem.W.codeIn K cd27 "read_head" = true) (k27 : PySem.W.keepIn K (.ref f27) = true)
  (a28 : PySem.W.nsIn K mainGlobals "read_member" = some (some (.ref f28))) (l28 : K.lookup f28 = some ⟨oc28, od28, .func (PySem.W.fnOf "read_member" "read_member" (defArgs s_readMember) (defBody s_readMember) (defScope s_readMember) .none kV28 dc28 pm28 an28 cd28 ct28), sl28⟩) (c28 : PySem.W.codeIn K cd28 "read_member" = true) (k28 : PySem.W.keepIn K (.ref f28) = true)
  (a29 : PySem.W.nsIn K mainGlobals "read_calling" = some (some (.ref f29))) (l29 : K.lookup f29 = some ⟨oc29, od29, .func (PySem.W.fnOf "read_calling" "read_calling" (defArgs s_readCalling) (defBody s_readCalling) (defScope s_readCalling) .none kV29 dc29 pm29 an29 cd29 ct29), sl29⟩) (c29 : PySem.W.codeIn K cd29 "read_calling" = true) (k29 : PySem.W.keepIn K (.ref f29) = true)
  (a30 : PySem.W.nsIn K mainGlobals "read_deed" = some (some (.ref f30))) (l30 : K.lookup f30 = some ⟨oc30, od30, .func (PySem.W.fnOf "read_deed" "read_deed" (defArgs s_readDeed) (defBody s_readDeed) (defScope s_readDeed) .none kV30 dc30 pm30 an30 cd30 ct30), sl30⟩) (c30 : PySem.W.codeIn K cd30 "read_deed" = true) (k30 : PySem.W.keepIn K (.ref f30) = true)
  (a31 : PySem.W.nsIn K mainGlobals "read_scripts_and_firsts" = some (some (.ref f31))) (l31 : K.lookup f31 = some ⟨oc31, od31, .func (PySem.W.fnOf "read_scripts_and_firsts" "read_scripts_and_firsts" (defArgs s_readSF) (defBody s_readSF) (defScope s_readSF) .none kV31 dc31 pm31 an31 cd31 ct31), sl31⟩) (c31 : PySem.W.codeIn K cd31 "read_scripts_and_firsts" = true) (k31 : PySem.W.keepIn K (.ref f31) = true)
  (a32 : PySem.W.nsIn K mainGlobals "read_house" = some (some (.ref f32))) (l32 : K.lookup f32 = some ⟨oc32, od32, .func (PySem.W.fnOf "read_house" "read_house" (defArgs s_readHouse) (defBody s_readHouse) (defScope s_readHouse) .none kV32 dc32 pm32 an32 cd32 ct32), sl32⟩) (c32 : PySem.W.codeIn K cd32 "read_house" = true) (k32 : PySem.W.keepIn K (.ref f32) = true)
  (a33 : PySem.W.nsIn K mainGlobals "_law_e_mixed" = some (some (.ref f33))) (l33 : K.lookup f33 = some ⟨oc33, od33, .func (PySem.W.fnOf "_law_e_mixed" "_law_e_mixed" (defArgs s_mixed) (defBody s_mixed) (defScope s_mixed) .none kV33 dc33 pm33 an33 cd33 ct33), sl33⟩) (c33 : PySem.W.codeIn K cd33 "_law_e_mixed" = true) (k33 : PySem.W.keepIn K (.ref f33) = true)
  (a34 : PySem.W.nsIn K mainGlobals "_law_e_pick" = some (some (.ref f34))) (l34 : K.lookup f34 = some ⟨oc34, od34, .func (PySem.W.fnOf "_law_e_pick" "_law_e_pick" (defArgs s_pick) (defBody s_pick) (defScope s_pick) .none kV34 dc34 pm34 an34 cd34 ct34), sl34⟩) (c34 : PySem.W.codeIn K cd34 "_law_e_pick" = true) (k34 : PySem.W.keepIn K (.ref f34) = true)
  (a35 : PySem.W.nsIn K mainGlobals "_law_e_may_call" = some (some (.ref f35))) (l35 : K.lookup f35 = some ⟨oc35, od35, .func (PySem.W.fnOf "_law_e_may_call" "_law_e_may_call" (defArgs s_mayCall) (defBody s_mayCall) (defScope s_mayCall) .none kV35 dc35 pm35 an35 cd35 ct35), sl35⟩) (c35 : PySem.W.codeIn K cd35 "_law_e_may_call" = true) (k35 : PySem.W.keepIn K (.ref f35) = true)
  (a36 : PySem.W.nsIn K mainGlobals "_law_e_house_deed" = some (some (.ref f36))) (l36 : K.lookup f36 = some ⟨oc36, od36, .func (PySem.W.fnOf "_law_e_house_deed" "_law_e_house_deed" (defArgs s_houseDeed) (defBody s_houseDeed) (defScope s_houseDeed) .none kV36 dc36 pm36 an36 cd36 ct36), sl36⟩) (c36 : PySem.W.codeIn K cd36 "_law_e_house_deed" = true) (k36 : PySem.W.keepIn K (.ref f36) = true)
  (a37 : PySem.W.nsIn K mainGlobals "_law_e_house" = some (some (.ref f37))) (l37 : K.lookup f37 = some ⟨oc37, od37, .func (PySem.W.fnOf "_law_e_house" "_law_e_house" (defArgs s_houseE) (defBody s_houseE) (defScope s_houseE) .none kV37 dc37 pm37 an37 cd37 ct37), sl37⟩) (c37 : PySem.W.codeIn K cd37 "_law_e_house" = true) (k37 : PySem.W.keepIn K (.ref f37) = true)
  (a38 : PySem.W.nsIn K mainGlobals "_law_e_members_text" = some (some (.ref f38))) (l38 : K.lookup f38 = some ⟨oc38, od38, .func (PySem.W.fnOf "_law_e_members_text" "_law_e_members_text" (defArgs s_memText) (defBody s_memText) (defScope s_memText) .none kV38 dc38 pm38 an38 cd38 ct38), sl38⟩) (c38 : PySem.W.codeIn K cd38 "_law_e_members_text" = true) (k38 : PySem.W.keepIn K (.ref f38) = true)
  (a39 : PySem.W.nsIn K mainGlobals "_law_e_deed_text" = some (some (.ref f39))) (l39 : K.lookup f39 = some ⟨oc39, od39, .func (PySem.W.fnOf "_law_e_deed_text" "_law_e_deed_text" (defArgs s_deedText) (defBody s_deedText) (defScope s_deedText) .none kV39 dc39 pm39 an39 cd39 ct39), sl39⟩) (c39 : PySem.W.codeIn K cd39 "_law_e_deed_text" = true) (k39 : PySem.W.keepIn K (.ref f39) = true)
  (a40 : PySem.W.nsIn K mainGlobals "_law_e_text" = some (some (.ref f40))) (l40 : K.lookup f40 = some ⟨oc40, od40, .func (PySem.W.fnOf "_law_e_text" "_law_e_text" (defArgs s_lawText) (defBody s_lawText) (defScope s_lawText) .none kV40 dc40 pm40 an40 cd40 ct40), sl40⟩) (c40 : PySem.W.codeIn K cd40 "_law_e_text" = true) (k40 : PySem.W.keepIn K (.ref f40) = true)
  (a41 : PySem.W.nsIn K mainGlobals "law" = some (some (.ref f41))) (l41 : K.lookup f41 = some ⟨oc41, od41, .func (PySem.W.fnOf "law" "law" (defArgs s_lawN) (defBody s_lawN) (defScope s_lawN) .none kV41 dc41 pm41 an41 cd41 ct41), sl41⟩) (c41 : PySem.W.codeIn K cd41 "law" = true) (k41 : PySem.W.keepIn K (.ref f41) = true)
  (n0 : PySem.W.nsIn K mainGlobals "BOXES" = some (some (.int 0 t0)))
  (n1 : PySem.W.nsIn K mainGlobals "WALLS" = some (some (.int 1 t1)))
  (n2 : PySem.W.nsIn K mainGlobals "FIRSTS" = some (some (.int 2 t2)))
  (n3 : PySem.W.nsIn K mainGlobals "SCRIPTS" = some (some (.int 3 t3)))
  (n4 : PySem.W.nsIn K mainGlobals "MOST_BOXES" = some (some (.int 99 t4)))
  (n5 : PySem.W.nsIn K mainGlobals "MOST_WALLS" = some (some (.int 6 t5)))
  (n6 : PySem.W.nsIn K mainGlobals "MOST_FIRSTS" = some (some (.int 40 t6)))
  (n7 : PySem.W.nsIn K mainGlobals "MOST_SCRIPTS" = some (some (.int 20 t7)))
  (n8 : PySem.W.nsIn K mainGlobals "MOST_DEEDS_OF_SCRIPT" = some (some (.int 80 t8)))
  (n9 : PySem.W.nsIn K mainGlobals "MOST_HANDS" = some (some (.int 60 t9)))
  (n10 : PySem.W.nsIn K mainGlobals "MOST_DEEDS" = some (some (.int 1200 t10)))
  (n11 : PySem.W.nsIn K mainGlobals "MOST_RAISED" = some (some (.int 99 t11)))
  (n12 : PySem.W.nsIn K mainGlobals "MOST_AWAITED" = some (some (.int 9999 t12)))
  (n13 : PySem.W.nsIn K mainGlobals "MOST_WORKED" = some (some (.int 999 t13)))
  (n14 : PySem.W.nsIn K mainGlobals "MOST_LETTERS" = some (some (.int 8 t14)))
  (m15 : PySem.W.nsIn K mainGlobals "MODES" = some (some (.ref am15))) (mm15 : K.lookup am15 = some ⟨.type "tuple", dm15, .seq #[.str "both" mt15_0, .str "come" mt15_1, .str "go" mt15_2] mn15, slm15⟩)
  (n16 : PySem.W.nsIn K mainGlobals "MOST_FIGURES" = some (some (.int 30 t16)))
  (z0 : PySem.W.nsIn K mainGlobals "isinstance" = some none)
  (z1 : PySem.W.nsIn K mainGlobals "int" = some none)
  (z2 : PySem.W.nsIn K mainGlobals "bool" = some none)
  (z3 : PySem.W.nsIn K mainGlobals "str" = some none)
  (z4 : PySem.W.nsIn K mainGlobals "tuple" = some none)
  (z5 : PySem.W.nsIn K mainGlobals "dict" = some none)
  (z6 : PySem.W.nsIn K mainGlobals "list" = some none)
  (z7 : PySem.W.nsIn K mainGlobals "len" = some none)
  (z8 : PySem.W.nsIn K mainGlobals "all" = some none)
  (z9 : PySem.W.nsIn K mainGlobals "sum" = some none)
  (z10 : PySem.W.nsIn K mainGlobals "range" = some none)
  (z11 : PySem.W.nsIn K mainGlobals "enumerate" = some none)
  (z12 : PySem.W.nsIn K mainGlobals "sorted" = some none)
  (z13 : PySem.W.nsIn K mainGlobals "zip" = some none) :
  ∃ fd : FuncData, (∀ (s : Shared) (v : Value), BindsTo s fd ⟨[v], []⟩ [("script", v)]) ∧ ∀ base : Heap, K.In base → base.Ns mainGlobals mg → FnOk l.prog w K mg base CX0 25 fa fd ["script"] (spLaw K) := by
 have e := hfa.symm.trans (PySem.W.mg_of X G a41)
 cases e
 have B : DeedsK w K mg := ⟨dq, db0, db1, db2, db3, db4, db5, db6, PySem.W.mg_of X G dq1, ⟨dq0, by show (["raise", "await", "come", "go", "leave", "work", "say"] : List Str).Nodup; decide +kernel, [("raise", dt0, .ref db0), ("await", dt1, .ref db1), ("come", dt2, .ref db2), ("go", dt3, .ref db3), ("leave", dt4, .ref db4), ("work", dt5, .ref db5), ("say", dt6, .ref db6)], dep, dq2, (.cons ⟨rfl, rfl⟩ (.cons ⟨rfl, rfl⟩ (.cons ⟨rfl, rfl⟩ (.cons ⟨rfl, rfl⟩ (.cons ⟨rfl, rfl⟩ (.cons ⟨rfl, rfl⟩ (.cons ⟨rfl, rfl⟩ .nil)))))))⟩, fun H => ⟨.inr ⟨_, _, dn0, dl0, rfl, rfl, (by show 2 ≤ sizeLine; decide), (.cons ⟨_, rfl⟩ (.cons ⟨_, rfl⟩ .nil))⟩, .inr ⟨_, _, dn1, dl1, rfl, rfl, (by show 2 ≤ sizeLine; decide), (.cons ⟨_, rfl⟩ (.cons ⟨_, rfl⟩ .nil))⟩, .inr ⟨_, _, dn2, dl2, rfl, rfl, (by show 1 ≤ sizeLine; decide), (.cons ⟨_, rfl⟩ .nil)⟩, .inr ⟨_, _, dn3, dl3, rfl, rfl, (by show 1 ≤ sizeLine; decide), (.cons ⟨_, rfl⟩ .nil)⟩, .inr ⟨_, _, dn4, dl4, rfl, rfl, (by show 1 ≤ sizeLine; decide), (.cons ⟨_, rfl⟩ .nil)⟩, .inr ⟨_, _, dn5, dl5, rfl, rfl, (by show 1 ≤ sizeLine; decide), (.cons ⟨_, rfl⟩ .nil)⟩, .inr ⟨_, _, dn6, dl6, rfl, rfl, (by show 1 ≤ sizeLine; decide), (.cons ⟨_, rfl⟩ .nil)⟩⟩⟩
 have T : Txt K mg := ⟨⟨_, PySem.W.mg_of X G n0⟩, ⟨_, PySem.W.mg_of X G n1⟩, ⟨_, PySem.W.mg_of X G n2⟩, ⟨_, PySem.W.mg_of X G n3⟩, ⟨_, PySem.W.mg_of X G n4⟩, ⟨_, PySem.W.mg_of X G n5⟩, ⟨_, PySem.W.mg_of X G n6⟩, ⟨_, PySem.W.mg_of X G n7⟩, ⟨_, PySem.W.mg_of X G n8⟩, ⟨_, PySem.W.mg_of X G n9⟩, ⟨_, PySem.W.mg_of X G n10⟩, ⟨_, PySem.W.mg_of X G n11⟩, ⟨_, PySem.W.mg_of X G n12⟩, ⟨_, PySem.W.mg_of X G n13⟩, ⟨_, PySem.W.mg_of X G n14⟩, ⟨am15, PySem.W.mg_of X G m15, fun H => .inr ⟨_, _, mn15, mm15, rfl, rfl, (by show 3 ≤ sizeLine; decide), (.cons ⟨_, rfl⟩ (.cons ⟨_, rfl⟩ (.cons ⟨_, rfl⟩ .nil)))⟩⟩, ⟨_, PySem.W.mg_of X G n16⟩, PySem.W.mg_none_of X G z0, PySem.W.mg_none_of X G z1, PySem.W.mg_none_of X G z2, PySem.W.mg_none_of X G z3, PySem.W.mg_none_of X G z4, PySem.W.mg_none_of X G z5, PySem.W.mg_none_of X G z6, PySem.W.mg_none_of X G z7, PySem.W.mg_none_of X G z8, PySem.W.mg_none_of X G z9, PySem.W.mg_none_of X G z10, PySem.W.mg_none_of X G z11, PySem.W.mg_none_of X G z12, PySem.W.mg_none_of X G z13⟩
 have A : Tops K mg := ⟨def_of X G a0 l0 c0 k0, def_of X G a1 l1 c1 k1, def_of X G a2 l2 c2 k2, def_of X G a3 l3 c3 k3, def_of X G a4 l4 c4 k4, def_of X G a5 l5 c5 k5, def_of X G a6 l6 c6 k6, def_of X G a7 l7 c7 k7, def_of X G a8 l8 c8 k8, def_of X G a9 l9 c9 k9, def_of X G a10 l10 c10 k10, def_of X G a11 l11 c11 k11, def_of X G a12 l12 c12 k12, def_of X G a13 l13 c13 k13, def_of X G a14 l14 c14 k14, def_of X G a15 l15 c15 k15, def_of X G a16 l16 c16 k16, def_of X G a17 l17 c17 k17, def_of X G a18 l18 c18 k18, def_of X G a19 l19 c19 k19, def_of X G a20 l20 c20 k20, def_of X G a21 l21 c21 k21, def_of X G a22 l22 c22 k22, def_of X G a23 l23 c23 k23, def_of X G a24 l24 c24 k24, def_of X G a25 l25 c25 k25, def_of X G a26 l26 c26 k26, def_of X G a27 l27 c27 k27, def_of X G a28 l28 c28 k28, def_of X G a29 l29 c29 k29, def_of X G a30 l30 c30 k30, def_of X G a31 l31 c31 k31, def_of X G a32 l32 c32 k32, def_of X G a33 l33 c33 k33, def_of X G a34 l34 c34 k34, def_of X G a35 l35 c35 k35, def_of X G a36 l36 c36 k36, def_of X G a37 l37 c37 k37, def_of X G a38 l38 c38 k38, def_of X G a39 l39 c39 k39, def_of X G a40 l40 c40 k40, def_of X G a41 l41 c41 k41, T⟩
 refine ⟨PySem.W.fnOf "law" "law" (defArgs s_lawN) (defBody s_lawN) (defScope s_lawN) .none kV41 dc41 pm41 an41 cd41 ct41, fun s v => .of_eq rfl, fun base XB _ => ?_⟩
 exact whole B A (fun_mk (st := s_lawN) l41 c41 k41)
theorem walk {l : PySem.W.OpenLaw} {q : Program} {loose : List Str} {XP : (Str → Option Value) → Heap → Prop} {YP : World → Heap → Prop} {d : DefRec} {K : Params → PySem.W.Frag} (hn : l.most = some 63) (hdf : d.params.defaults = [])
  (hY : ∀ (w : World) (h : Heap), YP w h → (K w.params).In h)
  (F : ∀ (w : World) (mg : Str → Option Value) (fa : Addr) (h : Heap), (K w.params).In h → h.Ns mainGlobals mg → mg d.name = some (.ref fa) →
   ∃ fd : FuncData, (∀ (s : Shared) (u : Value), BindsTo s fd ⟨[u], []⟩ [("script", u)]) ∧ ∀ base : Heap, (K w.params).In base → base.Ns mainGlobals mg → FnOk l.prog w (K w.params) mg base CX0 25 fa fd ["script"] (spLaw (K w.params))) :
  PySem.W.WalkO q loose XP YP l.row.toRowW d [] (fun f vs => PySem.call f vs) :=
 L2.walk_of (n := 63) (k := 25) (x := "script") (CX := fun _ => CX0) (sp := fun w => spLaw (K w.params)) hn (by decide) hdf ⟨rfl, by decide, by decide⟩ hY F (fun _ _ a ns hl _ hS => ⟨a, ns, rfl, hS, hl, fun _ => rfl⟩) fun _ _ _ _ _ z => z
end
end My
-- the names of quick twins that the head would else make (of its heaps, its trees, the program): taken here, the head goes on without them, and the text compiles to less
namespace PySem.W.Fast
def tw15405112162595727045:=0
def tw13712133934580854182:=0
def tw7693797753379026023:=0
def tw4146979182834310817:=0
def tw11509940062441761835:=0
def tw16155394327336991413:=0
def tw3623092606720099423:=0
def tw11604842848722350051:=0
def tw7344023755806550732:=0
def tw3706145188544898218:=0
def tw13207625588053274907:=0
def tw4035282321317581085:=0
def tw6243805025756082844:=0
def tw13553883357843394860:=0
def tw2863074804402381277:=0
def tw5488368367802232781:=0
def tw7815925716188332898:=0
def tw2349103316704240330:=0
def tw1503615063834759650:=0
def tw932157644909312525:=0
def tw17451840727297491227:=0
def tw10902654899004505917:=0
def tw9311044219129144377:=0
def tw16060012854603999242:=0
def tw6443385254059581005:=0
def tw16295228023537700294:=0
def tw10330699384587265288:=0
def tw12508934673027182873:=0
def tw8227148699848938401:=0
def tw17104104444032678869:=0
def tw16862009900768210892:=0
def tw16950484086293069883:=0
def tw8312327999127381637:=0
def tw5708012145964606600:=0
def tw12904871738924959560:=0
def tw8556280470405789673:=0
def tw8635780433560860786:=0
def tw14980077076026797127:=0
def tw16883070686292274120:=0
def tw16461352118685826087:=0
def tw11618542397137827071:=0
def tw15127632460833858378:=0
def tw7088780358855225671:=0
def tw14385572933057992456:=0
def tw13297226754778465563:=0
def tw8529808965662736306:=0
def tw8994758586150223932:=0
def tw12073045226116936407:=0
def tw1689438296763583019:=0
def tw10298378255120703424:=0
def tw7558796263728225851:=0
def tw5609871886433061582:=0
def tw17031835226799261084:=0
def tw11683015975293195816:=0
def tw17664022255655792394:=0
def tw427037116513960861:=0
def tw6049714424753208439:=0
def tw3869540276581847169:=0
def tw18428318651042203688:=0
def tw8181837599775629373:=0
end PySem.W.Fast

open PySem PySem.W PyProof.Rows
set_option maxRecDepth 100000 in
set_option maxHeartbeats 0 in
theorem PySem.Challenge.cw_meetwall_k66_houses_shown_and_read_holds : PySem.Challenge.rw_meetwall_k66_houses_shown_and_read.Holds := by
 w_on; o_law; k_head; (case hw => w_witness2)
 k_fill
 refine My.walk (l := PySem.Challenge.rw_meetwall_k66_houses_shown_and_read) rfl rfl (fun w h Y => PySem.W.kIn_of Y) ?F
 case F =>
  intro w mg fa h KX G hmg
  refine' My.all_mk (w := w) KX G hmg ?dq1 ?dq2 ?dl0 ?dl1 ?dl2 ?dl3 ?dl4 ?dl5 ?dl6 ?dq0 ?a0 ?l0 ?c0 ?k0 ?a1 ?l1 ?c1 ?k1 ?a2 ?l2 ?c2 ?k2 ?a3 ?l3 ?c3 ?k3 ?a4 ?l4 ?c4 ?k4 ?a5 ?l5 ?c5 ?k5 ?a6 ?l6 ?c6 ?k6 ?a7 ?l7 ?c7 ?k7 ?a8 ?l8 ?c8 ?k8 ?a9 ?l9 ?c9 ?k9 ?a10 ?l10 ?c10 ?k10 ?a11 ?l11 ?c11 ?k11 ?a12 ?l12 ?c12 ?k12 ?a13 ?l13 ?c13 ?k13 ?a14 ?l14 ?c14 ?k14 ?a15 ?l15 ?c15 ?k15 ?a16 ?l16 ?c16 ?k16 ?a17 ?l17 ?c17 ?k17 ?a18 ?l18 ?c18 ?k18 ?a19 ?l19 ?c19 ?k19 ?a20 ?l20 ?c20 ?k20 ?a21 ?l21 ?c21 ?k21 ?a22 ?l22 ?c22 ?k22 ?a23 ?l23 ?c23 ?k23 ?a24 ?l24 ?c24 ?k24 ?a25 ?l25 ?c25 ?k25 ?a26 ?l26 ?c26 ?k26 ?a27 ?l27 ?c27 ?k27 ?a28 ?l28 ?c28 ?k28 ?a29 ?l29 ?c29 ?k29 ?a30 ?l30 ?c30 ?k30 ?a31 ?l31 ?c31 ?k31 ?a32 ?l32 ?c32 ?k32 ?a33 ?l33 ?c33 ?k33 ?a34 ?l34 ?c34 ?k34 ?a35 ?l35 ?c35 ?k35 ?a36 ?l36 ?c36 ?k36 ?a37 ?l37 ?c37 ?k37 ?a38 ?l38 ?c38 ?k38 ?a39 ?l39 ?c39 ?k39 ?a40 ?l40 ?c40 ?k40 ?a41 ?l41 ?c41 ?k41 ?n0 ?n1 ?n2 ?n3 ?n4 ?n5 ?n6 ?n7 ?n8 ?n9 ?n10 ?n11 ?n12 ?n13 ?n14 ?m15 ?mm15 ?n16 ?z0 ?z1 ?z2 ?z3 ?z4 ?z5 ?z6 ?z7 ?z8 ?z9 ?z10 ?z11 ?z12 ?z13
  (case dq1 => k_is); (case dq2 => k_is); (case dl0 => k_is); (case dl1 => k_is); (case dl2 => k_is); (case dl3 => k_is); (case dl4 => k_is); (case dl5 => k_is); (case dl6 => k_is); (case dq0 => rfl)
  (case a0 => k_is); (case l0 => k_is); (case c0 => k_is); (case k0 => k_is); (case a1 => k_is); (case l1 => k_is)
  (case c1 => k_is); (case k1 => k_is); (case a2 => k_is); (case l2 => k_is); (case c2 => k_is); (case k2 => k_is)
  (case a3 => k_is); (case l3 => k_is); (case c3 => k_is); (case k3 => k_is); (case a4 => k_is); (case l4 => k_is)
  (case c4 => k_is); (case k4 => k_is); (case a5 => k_is); (case l5 => k_is); (case c5 => k_is); (case k5 => k_is)
  (case a6 => k_is); (case l6 => k_is); (case c6 => k_is); (case k6 => k_is); (case a7 => k_is); (case l7 => k_is)
  (case c7 => k_is); (case k7 => k_is); (case a8 => k_is); (case l8 => k_is); (case c8 => k_is); (case k8 => k_is)
  (case a9 => k_is); (case l9 => k_is); (case c9 => k_is); (case k9 => k_is); (case a10 => k_is); (case l10 => k_is)
  (case c10 => k_is); (case k10 => k_is); (case a11 => k_is); (case l11 => k_is); (case c11 => k_is); (case k11 => k_is)
  (case a12 => k_is); (case l12 => k_is); (case c12 => k_is); (case k12 => k_is); (case a13 => k_is); (case l13 => k_is)
  (case c13 => k_is); (case k13 => k_is); (case a14 => k_is); (case l14 => k_is); (case c14 => k_is); (case k14 => k_is)
  (case a15 => k_is); (case l15 => k_is); (case c15 => k_is); (case k15 => k_is); (case a16 => k_is); (case l16 => k_is)
  (case c16 => k_is); (case k16 => k_is); (case a17 => k_is); (case l17 => k_is); (case c17 => k_is); (case k17 => k_is)
  (case a18 => k_is); (case l18 => k_is); (case c18 => k_is); (case k18 => k_is); (case a19 => k_is); (case l19 => k_is)
  (case c19 => k_is); (case k19 => k_is); (case a20 => k_is); (case l20 => k_is); (case c20 => k_is); (case k20 => k_is)
  (case a21 => k_is); (case l21 => k_is); (case c21 => k_is); (case k21 => k_is); (case a22 => k_is); (case l22 => k_is)
  (case c22 => k_is); (case k22 => k_is); (case a23 => k_is); (case l23 => k_is); (case c23 => k_is); (case k23 => k_is)
  (case a24 => k_is); (case l24 => k_is); (case c24 => k_is); (case k24 => k_is); (case a25 => k_is); (case l25 => k_is)
  (case c25 => k_is); (case k25 => k_is); (case a26 => k_is); (case l26 => k_is); (case c26 => k_is); (case k26 => k_is)
  (case a27 => k_is); (case l27 => k_is); (case c27 => k_is); (case k27 => k_is); (case a28 => k_is); (case l28 => k_is)
  (case c28 => k_is); (case k28 => k_is); (case a29 => k_is); (case l29 => k_is); (case c29 => k_is); (case k29 => k_is)
  (case a30 => k_is); (case l30 => k_is); (case c30 => k_is); (case k30 => k_is); (case a31 => k_is); (case l31 => k_is)
  (case c31 => k_is); (case k31 => k_is); (case a32 => k_is); (case l32 => k_is); (case c32 => k_is); (case k32 => k_is)
  (case a33 => k_is); (case l33 => k_is); (case c33 => k_is); (case k33 => k_is); (case a34 => k_is); (case l34 => k_is)
  (case c34 => k_is); (case k34 => k_is); (case a35 => k_is); (case l35 => k_is); (case c35 => k_is); (case k35 => k_is)
  (case a36 => k_is); (case l36 => k_is); (case c36 => k_is); (case k36 => k_is); (case a37 => k_is); (case l37 => k_is)
  (case c37 => k_is); (case k37 => k_is); (case a38 => k_is); (case l38 => k_is); (case c38 => k_is); (case k38 => k_is)
  (case a39 => k_is); (case l39 => k_is); (case c39 => k_is); (case k39 => k_is); (case a40 => k_is); (case l40 => k_is)
  (case c40 => k_is); (case k40 => k_is); (case a41 => k_is); (case l41 => k_is); (case c41 => k_is); (case k41 => k_is)
  (case n0 => k_is); (case n1 => k_is); (case n2 => k_is); (case n3 => k_is); (case n4 => k_is); (case n5 => k_is)
  (case n6 => k_is); (case n7 => k_is); (case n8 => k_is); (case n9 => k_is); (case n10 => k_is); (case n11 => k_is)
  (case n12 => k_is); (case n13 => k_is); (case n14 => k_is); (case m15 => k_is); (case mm15 => k_is); (case n16 => k_is)
  (case z0 => k_is); (case z1 => k_is); (case z2 => k_is); (case z3 => k_is); (case z4 => k_is); (case z5 => k_is)
  (case z6 => k_is); (case z7 => k_is); (case z8 => k_is); (case z9 => k_is); (case z10 => k_is); (case z11 => k_is)
  (case z12 => k_is); (case z13 => k_is)

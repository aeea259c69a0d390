import PyProof.Rows.All
import Wide.All
import OpenK.AllK
import Wide.FinOn
import Lean
import PyProof.EqAt
import PyProof.EqKinds
import PyProof.TupleCall
import PyProof.TupleKey
import PyProof.DictFindH
import PyProof.NeData
import PyProof.ListRange
import PyProof.ZipIter
import PyProof.Rows.CallKwBuiltin
import PyProof.MinMaxWalk
import KE.KSortTup
import PyProof.DictItems
import PyProof.SetRoads
import PyProof.SetNew
import PyProof.IsRules
import PySem.Challenge.RW_meetwall_k54_all_ever_come_through
set_option Elab.async false
set_option linter.all false
set_option maxRecDepth 100000
set_option maxHeartbeats 4000000
noncomputable section
namespace L2
open PySem PySem.Spec PyProof.Rows

/-- a key: an int or a str -/
abbrev Key := Sum Int Str
noncomputable def keyIs : Key → Value → Bool
  | .inl k, v => Value.isInt k v
  | .inr x, v => Value.isStrOf x v
noncomputable def keyH (w : World) : Key → Int
  | .inl k => hashInt k
  | .inr x => hashStr w x
theorem keyIs_shape : ∀ {k : Key} {v : Value}, keyIs k v = true → (∃ i t, k = Sum.inl i ∧ v = Value.int i t) ∨ (∃ x t, k = Sum.inr x ∧ v = Value.str x t)
  | .inl i, v, h => by
    obtain ⟨t, e⟩ := Value.isInt_shape (k := i) (v := v) h
    exact .inl ⟨i, t, rfl, e⟩
  | .inr x, v, h => by
    obtain ⟨t, e⟩ := Value.isStrOf_shape (x := x) (v := v) h
    exact .inr ⟨x, t, rfl, e⟩
theorem keyIs_int (i : Int) (t : Tok) : keyIs (.inl i) (.int i t) = true := by simp [keyIs, Value.isInt]
theorem keyIs_str (x : Str) (t : Tok) : keyIs (.inr x) (.str x t) = true := by simp [keyIs, Value.isStrOf]
theorem key_ll (a b : Int) : decide ((Sum.inl a : Key) = Sum.inl b) = (a == b) := by
  by_cases e : a = b
  · subst e; simp
  · have h : ¬ (Sum.inl a : Key) = Sum.inl b := fun q => e (Sum.inl.inj q)
    rw [decide_eq_false h]
    exact (beq_eq_false_iff_ne.mpr e).symm
theorem key_rr (a b : Str) : decide ((Sum.inr a : Key) = Sum.inr b) = decide (a = b) := by
  by_cases e : a = b
  · subst e; simp
  · have h : ¬ (Sum.inr a : Key) = Sum.inr b := fun q => e (Sum.inr.inj q)
    rw [decide_eq_false h, decide_eq_false e]
theorem key_lr (a : Int) (b : Str) : decide ((Sum.inl a : Key) = Sum.inr b) = false := decide_eq_false (fun q => nomatch q)
theorem key_rl (a : Str) (b : Int) : decide ((Sum.inr a : Key) = Sum.inl b) = false := decide_eq_false (fun q => nomatch q)

noncomputable def mixKind (prog : Program) (w : World) : PySem.KeyKind prog w Key where
  is := keyIs
  hash := keyH w
  inj := fun v a b ha hb => by
    rcases keyIs_shape ha with ⟨i, t, rfl, rfl⟩ | ⟨x, t, rfl, rfl⟩
    · rcases keyIs_shape hb with ⟨j, u, rfl, e⟩ | ⟨y, u, rfl, e⟩
      · injection e with e1 _; rw [e1]
      · exact nomatch e
    · rcases keyIs_shape hb with ⟨j, u, rfl, e⟩ | ⟨y, u, rfl, e⟩
      · exact nomatch e
      · injection e with e1 _; rw [e1]
  byValue := fun k v h => by
    rcases keyIs_shape h with ⟨i, t, rfl, rfl⟩ | ⟨x, t, rfl, rfl⟩ <;> rfl
  pyHash := fun hv h => by
    rcases keyIs_shape hv with ⟨i, t, rfl, rfl⟩ | ⟨x, t, rfl, rfl⟩
    · exact wpAny_pyHash_int h
    · exact wpAny_pyHash_str h
  eqBool := fun hu hv h => by
    rcases keyIs_shape hu with ⟨i, t, rfl, rfl⟩ | ⟨x, t, rfl, rfl⟩
    · rcases keyIs_shape hv with ⟨j, u, rfl, rfl⟩ | ⟨y, u, rfl, rfl⟩
      · rw [key_ll] at h; exact wpAny_eqBool_int h
      · rw [key_lr] at h; exact SeqAt.EqAt.int_str i t y u _ _ _ _ h
    · rcases keyIs_shape hv with ⟨j, u, rfl, rfl⟩ | ⟨y, u, rfl, rfl⟩
      · rw [key_rl] at h; exact SeqAt.EqAt.str_int x t j u _ _ _ _ h
      · rw [key_rr] at h; exact wpAny_eqBool_str h
  «strs» := fun k x t v h => by
    rcases keyIs_shape h with ⟨i, u, rfl, e⟩ | ⟨y, u, rfl, e⟩
    · exact nomatch e
    · injection e with e1 _
      subst e1
      cases v <;> rfl

theorem mixKind_int (prog : Program) (w : World) (i : Int) (t : Tok) : (mixKind prog w).is (.inl i) (.int i t) = true := keyIs_int i t
theorem mixKind_str (prog : Program) (w : World) (x : Str) (t : Tok) : (mixKind prog w).is (.inr x) (.str x t) = true := keyIs_str x t
end L2

namespace L2
open PySem PySem.Spec PyProof.Rows

/-- a value, without the heap -/
inductive V where
  | non | bl (b : Bool) | int (i : Int) | str (x : Str) | byt (b : Array UInt8) | flt (b : UInt64) | ref (a : Addr) | ty (n : String)
  deriving DecidableEq

noncomputable def RelV : V → Value → Prop
  | .non, u => u = Value.none
  | .bl b, u => u = Value.bool b
  | .int i, u => ∃ t, u = Value.int i t
  | .str x, u => ∃ t, u = Value.str x t
  | .byt b, u => ∃ t, u = Value.bytes b t
  | .flt b, u => ∃ t, u = Value.float b t
  | .ref a, u => u = Value.ref a
  | .ty n, u => u = Value.type n

abbrev Vals : List V → List Value → Prop := Paired RelV
theorem Vals.length {xs : List V} {us : List Value} (r : Vals xs us) : xs.length = us.length := Paired.length r
theorem Vals.get : ∀ {xs : List V} {us : List Value} {i : Nat} {x : V}, Vals xs us → xs[i]? = some x → ∃ u, us[i]? = some u ∧ RelV x u
  | _, _, _, _, .nil, e => by simp at e
  | _, _, 0, _, .cons r _, e => by simp at e; subst e; exact ⟨_, rfl, r⟩
  | _, _, i + 1, x, .cons _ t, e => by
    obtain ⟨u, h1, h2⟩ := Vals.get (i := i) (x := x) t (by simpa using e)
    exact ⟨u, by simpa using h1, h2⟩
theorem Vals.set {x : V} {u : Value} (r : RelV x u) : ∀ {xs : List V} {us : List Value} (i : Nat), Vals xs us → Vals (xs.set i x) (us.set i u)
  | _, _, _, .nil => .nil
  | _, _, 0, .cons _ t => .cons r t
  | _, _, i + 1, .cons q t => .cons q (Vals.set r i t)
theorem Vals.append : ∀ {xs ys : List V} {us ws : List Value}, Vals xs us → Vals ys ws → Vals (xs ++ ys) (us ++ ws)
  | _, _, _, _, .nil, s => s
  | _, _, _, _, .cons r t, s => .cons r (Vals.append t s)
theorem Vals.take : ∀ {xs : List V} {us : List Value} (n : Nat), Vals xs us → Vals (xs.take n) (us.take n)
  | _, _, 0, _ => .nil
  | _, _, _ + 1, .nil => .nil
  | _, _, n + 1, .cons r t => .cons r (Vals.take n t)
theorem Vals.drop : ∀ {xs : List V} {us : List Value} (n : Nat), Vals xs us → Vals (xs.drop n) (us.drop n)
  | _, _, 0, r => r
  | _, _, _ + 1, .nil => .nil
  | _, _, n + 1, .cons _ t => Vals.drop n t
theorem Vals.none_of : ∀ {xs : List V} {us : List Value} {i : Nat}, Vals xs us → xs[i]? = none → us[i]? = none := fun {xs us i} r e => by
  have h1 := r.length
  have h2 : xs.length ≤ i := List.getElem?_eq_none_iff.mp e
  exact List.getElem?_eq_none_iff.mpr (by omega)

noncomputable def RelO : Option V → Option Value → Prop
  | some v, some u => RelV v u
  | none, none => True
  | _, _ => False
noncomputable def KV {κ : Type} : List (κ × V) → List (κ × Value) → Prop := Paired fun (p : κ × V) (q : κ × Value) => p.1 = q.1 ∧ RelV p.2 q.2

/-- a key of a dict (00_mix): an int or a text -/
noncomputable def kV : Key → V
  | .inl i => .int i
  | .inr x => .str x

/-- what stands at a tracked address -/
inductive HO where
  /-- a list -/
  | lst (xs : List V)
  /-- a tuple (never changes) -/
  | tup (xs : List V)
  /-- a dict whose keys are ints and texts; one whose keys are tuples of ints and texts (the empty one is both) -/
  | dK (kvs : List (Key × V)) | dT (kvs : List (List Key × V))
  /-- a set of ints: its members, its size -/
  | set (S : Int → Bool) (n : Nat)
  /-- an instance of the class at C, its dict at dx, its attributes -/
  | ins (C dx : Addr) (fs : List (Str × V))
  /-- the dict of the instance at x -/
  | own (x : Addr)
  /-- the dict of an exception -/
  | xd (fs : List (Str × V))
  /-- a bound method, f of x -/
  | met (f x : Addr)
  /-- a range object lo, lo + 1, .. below hi -/
  | rng (lo hi : Int)
  /-- a thing that is known to the object (the script; a dict while a loop walks it): read, never written while it is so -/
  | frz (o : Obj) (u : HO)
  /-- a code object's table -/
  | tbl (ps : Array Value)
  /-- any other thing, by what is true of its one object (a def of one's own: SetO a S n := HO.ext fun h => ..) -/
  | ext (φ : Heap → Prop)

abbrev Hp := Addr → Option HO
noncomputable def upd (H : Hp) (a : Addr) (o : HO) : Hp := fun b => if b = a then some o else H b
theorem upd_same {H : Hp} {a : Addr} {o : HO} : upd H a o a = some o := by unfold upd; rw [if_pos rfl]
theorem upd_ne {H : Hp} {a b : Addr} {o : HO} (h : b ≠ a) : upd H a o b = H b := by unfold upd; rw [if_neg h]
/-- two objects of different content stand apart -/
theorem ne_of {H : Hp} {a b : Addr} {o u : HO} (h : H a = some o) (h' : H b = some u) (d : o ≠ u) : a ≠ b := by
  intro e; subst e; rw [h] at h'; exact d (Option.some.inj h')
theorem ne_of_none {H : Hp} {a b : Addr} {o : HO} (h : H a = some o) (h' : H b = none) : a ≠ b := by
  intro e; subst e; rw [h] at h'; cases h'

/-- the object at a bears no dict of its own -/
noncomputable def NoD (h : Heap) (a : Addr) : Prop := ∀ o, h.get? a = some o → o.dict = none
theorem NoD.of {h h' : Heap} {a : Addr} {o : Obj} (n : NoD h a) (e : h.get? a = some o) (e' : h'.get? a = some o) : NoD h' a := fun q hq => by rw [e'] at hq; cases hq; exact n o e
theorem NoD.push {h : Heap} {c : Value} {d : Data} {sl : Array (Option Value)} : NoD (h.push { cls := c, dict := none, data := d, slots := sl }) h.objs.size := fun q hq => by
  have e : (h.push { cls := c, dict := none, data := d, slots := sl }).get? h.objs.size = some q := hq
  cases hf : ({ cls := c, dict := none, data := d, slots := sl } : Obj).isFreed with
  | false => rw [Heap.get?_push_size _ hf] at e; cases e; rfl
  | true =>
    simp [Heap.get?, Heap.push, hf] at e
    split at e
    · cases e
    · cases e; rfl
section
variable (P : Program) (w : World)
noncomputable def ObjOk (H : Hp) (h : Heap) (a : Addr) : HO → Prop
  | .lst xs => xs.length ≤ sizeLine ∧ ∃ (its : List Value) (n : Nat), Vals xs its ∧ h.get? a = some { cls := .type "list", data := .seq its.toArray n }
  | .tup xs => xs.length ≤ sizeLine ∧ ∃ its : List Value, Vals xs its ∧ IsTup h a its.toArray ∧ NoD h a
  | .dK kvs => kvs.length ≤ sizeLine ∧ (a == sysModules) = false ∧ ∃ vs, KV kvs vs ∧ h.DictOf (mixKind P w) a vs
  | .dT kvs => kvs.length ≤ sizeLine ∧ (a == sysModules) = false ∧ ∃ xs : List (List Key × Addr × Value),
      Paired (fun (p : List Key × V) (q : List Key × Addr × Value) => p.1 = q.1 ∧ H q.2.1 = some (.tup (p.1.map kV)) ∧ RelV p.2 q.2.2) kvs xs ∧
      ∃ o es ep, h.get? a = some o ∧ o.ExactDict ∧ o.data = .dict es ep ∧ es.toList = xs.map (entryOfKey (tupleKind (mixKind P w))) ∧ (xs.map (·.1)).Nodup
  | .set S n => h.SetOf (intKind P w) a S n
  | .ins C dx fs => H dx = some (.own a) ∧ fs.length ≤ 1000 ∧ dx ≠ a ∧ h.get? a = some (PySem.W.instObj C dx) ∧
      ∃ mA, h.Ns1 dx mA ∧ (∀ f, RelO (fs.lookup f) (mA f)) ∧ PySem.Within mA (fs.map (·.1))
  | .own _ => ∃ o, h.get? a = some o
  | .xd fs => ∃ mA, h.Ns1 a mA ∧ ∀ f, RelO (fs.lookup f) (mA f)
  | .rng lo hi => ∃ t u v, h.get? a = some { cls := .type "range", data := .fields #[.int lo t, .int hi u, .int 1 v] }
  | .frz o u => h.get? a = some o ∧ ObjOk H h a u
  | .tbl ps => h.get? a = some { cls := .none, data := .fields ps }
  | .met f x => h.get? a = some (PySem.W.methodObj (.ref f) (.ref x))
  | .ext φ => φ h ∧ (∃ o, h.get? a = some o) ∧ ∀ h1 h2 : Heap, φ h1 → (∀ o, h1.get? a = some o → h2.get? a = some o) → φ h2
/-- the abstract heap is held -/
noncomputable def HOk (H : Hp) (h : Heap) : Prop := ∀ a o, H a = some o → ObjOk P w H h a o
end

section
variable {P : Program} {w : World} {H H' : Hp} {h h' : Heap} {a : Addr} {o : HO}
theorem ObjOk.lt (x : ObjOk P w H h a o) : a < h.objs.size := by
  cases o with
  | lst xs => obtain ⟨_, _, _, _, e⟩ := x; exact Heap.lt_size e
  | tup xs => obtain ⟨_, _, _, p, _⟩ := x; exact p.lt
  | dK kvs => obtain ⟨_, _, _, _, o, _, _, e, _⟩ := x; exact Heap.lt_size e
  | dT kvs => obtain ⟨_, _, _, _, o, _, _, e, _⟩ := x; exact Heap.lt_size e
  | set S n => obtain ⟨o, _, _, _, e, _⟩ := x; exact Heap.lt_size e
  | ins C dx fs => obtain ⟨_, _, _, e, _⟩ := x; exact Heap.lt_size e
  | own y => obtain ⟨_, e⟩ := x; exact Heap.lt_size e
  | xd fs => obtain ⟨_, ⟨_, _, _, e, _⟩, _⟩ := x; exact Heap.lt_size e
  | rng lo hi => obtain ⟨_, _, _, e⟩ := x; exact Heap.lt_size e
  | frz ob u => obtain ⟨e, _⟩ := x; exact Heap.lt_size e
  | tbl ps => exact Heap.lt_size (show h.get? a = some _ from x)
  | met f y => exact Heap.lt_size (show h.get? a = some _ from x)
  | ext φ => obtain ⟨_, ⟨_, e⟩, _⟩ := x; exact Heap.lt_size e
theorem Paired.mapP {α β : Type} {F G : α → β → Prop} : ∀ {l₁ : List α} {l₂ : List β}, Paired F l₁ l₂ → (∀ a b, F a b → G a b) → Paired G l₁ l₂
  | _, _, .nil, _ => .nil
  | _, _, .cons r t, f => .cons (f _ _ r) (Paired.mapP t f)
/-- what an object's description leans on: its own object, its own dict, the tuples -/
theorem ObjOk.stay (x : ObjOk P w H h a o) (k : ∀ b u, (b = a ∨ H b = some (.own a)) → h.get? b = some u → h'.get? b = some u)
    (ho : ∀ b, H b = some (.own a) → H' b = some (.own a)) (ht : ∀ b xs, H b = some (.tup xs) → H' b = some (.tup xs)) : ObjOk P w H' h' a o := by
  induction o with
  | lst xs => obtain ⟨z, its, n, r, e⟩ := x; exact ⟨z, its, n, r, k _ _ (.inl rfl) e⟩
  | tup xs => obtain ⟨z, its, r, ⟨ob, e, c⟩, nd⟩ := x; exact ⟨z, its, r, ⟨ob, k _ _ (.inl rfl) e, c⟩, nd.of e (k _ _ (.inl rfl) e)⟩
  | dK kvs => obtain ⟨z, y, vs, r, ob, es, ep, e, c⟩ := x; exact ⟨z, y, vs, r, ob, es, ep, k _ _ (.inl rfl) e, c⟩
  | dT kvs =>
    obtain ⟨z, y, xs, r, ob, es, ep, e, c⟩ := x
    exact ⟨z, y, xs, Paired.mapP r fun p q z => ⟨z.1, ht _ _ z.2.1, z.2.2⟩, ob, es, ep, k _ _ (.inl rfl) e, c⟩
  | set S n => obtain ⟨ob, es, ep, t, e, c⟩ := x; exact ⟨ob, es, ep, t, k _ _ (.inl rfl) e, c⟩
  | ins C dx fs =>
    obtain ⟨d, z, ne, e, mA, ⟨od, es, ep, e2, c⟩, r⟩ := x
    exact ⟨ho _ d, z, ne, k _ _ (.inl rfl) e, mA, ⟨od, es, ep, k _ _ (.inr d) e2, c⟩, r⟩
  | own y => obtain ⟨ob, e⟩ := x; exact ⟨ob, k _ _ (.inl rfl) e⟩
  | xd fs => obtain ⟨mA, ⟨od, es, ep, e, c⟩, r⟩ := x; exact ⟨mA, ⟨od, es, ep, k _ _ (.inl rfl) e, c⟩, r⟩
  | rng lo hi => obtain ⟨t, u, v, e⟩ := x; exact ⟨t, u, v, k _ _ (.inl rfl) e⟩
  | frz ob u ih => obtain ⟨e, q⟩ := x; exact ⟨k _ _ (.inl rfl) e, ih q⟩
  | tbl ps =>
    have e : h.get? a = some { cls := .none, data := .fields ps } := x
    show h'.get? a = some { cls := .none, data := .fields ps }
    exact k a _ (.inl rfl) e
  | met f y =>
    have e : h.get? a = some (PySem.W.methodObj (.ref f) (.ref y)) := x
    show h'.get? a = some (PySem.W.methodObj (.ref f) (.ref y))
    exact k a _ (.inl rfl) e
  | ext φ => obtain ⟨p, ⟨o, e⟩, st⟩ := x; exact ⟨st _ _ p fun o q => k _ _ (.inl rfl) q, ⟨o, k _ _ (.inl rfl) e⟩, st⟩
theorem HOk.lt (x : HOk P w H h) (e : H a = some o) : a < h.objs.size := (x a o e).lt
theorem HOk.fresh (x : HOk P w H h) (e : h.objs.size ≤ a) : H a = none := by
  cases q : H a with
  | none => rfl
  | some u => exact absurd (Nat.lt_of_lt_of_le (x.lt q) e) (Nat.lt_irrefl _)
/-- every object of the heap is kept -/
theorem HOk.kept (x : HOk P w H h) (k : ∀ b u, h.get? b = some u → h'.get? b = some u) : HOk P w H h' := fun a o e =>
  (x a o e).stay (fun b u _ q => k b u q) (fun _ q => q) fun _ _ q => q
/-- a new object is laid and tracked -/
theorem HOk.laid (x : HOk P w H h) (k : ∀ b u, h.get? b = some u → h'.get? b = some u) (hp : h.objs.size ≤ a) (new : ObjOk P w (upd H a o) h' a o) : HOk P w (upd H a o) h' := fun b u e => by
  have hn := x.fresh hp
  by_cases hb : b = a
  · subst hb; rw [upd_same] at e; cases e; exact new
  · rw [upd_ne hb] at e
    exact (x b u e).stay (fun c v _ q => k c v q) (fun c q => by rw [upd_ne (ne_of_none q hn)]; exact q) fun c xs q => by rw [upd_ne (ne_of_none q hn)]; exact q
end

/-- what may be read as u: it is u, or a known u -/
noncomputable def Rd (H : Hp) (a : Addr) (u : HO) : Prop := H a = some u ∨ ∃ o, H a = some (.frz o u)
theorem Rd.of {H : Hp} {a : Addr} {u : HO} (h : H a = some u) : Rd H a u := .inl h
theorem Rd.ok {P : Program} {w : World} {H : Hp} {h : Heap} {a : Addr} {u : HO} (r : Rd H a u) (x : HOk P w H h) : ObjOk P w H h a u := by
  rcases r with r | ⟨o, r⟩
  · exact x a u r
  · obtain ⟨_, q⟩ := x a _ r
    exact q
/-- what may be written -/
noncomputable def Mut : Option HO → Prop
  | some (.lst _) => True
  | some (.dK _) => True
  | some (.dT _) => True
  | some (.set _ _) => True
  | some (.ins _ _ _) => True
  | some (.ext _) => True
  | _ => False
section
variable {P : Program} {w : World} {H : Hp} {h h' : Heap} {x e : Addr} {o' : HO}
/-- the object at e is changed: x itself, or the dict of the instance x -/
theorem HOk.write (ok : HOk P w H h) (mu : Mut (H x)) (he : e = x ∨ H e = some (.own x)) (k : ∀ b u, b ≠ e → h.get? b = some u → h'.get? b = some u) (heo : ∃ u, h'.get? e = some u)
    (new : ObjOk P w (upd H x o') h' x o') : HOk P w (upd H x o') h' := fun b u q => by
  have nown : ∀ c y, H c = some (.own y) → c ≠ x := fun c y r z => by subst z; rw [r] at mu; exact mu
  have ntup : ∀ c xs, H c = some (.tup xs) → c ≠ x := fun c xs r z => by subst z; rw [r] at mu; exact mu
  by_cases hb : b = x
  · subst hb; rw [upd_same] at q; cases q; exact new
  · rw [upd_ne hb] at q
    by_cases hbe : b = e
    · have q' : H b = some (.own x) := by
        rcases he with z | z
        · exact absurd (hbe.trans z) hb
        · rw [hbe]; exact z
      rw [q] at q'; cases q'
      obtain ⟨v, hv⟩ := heo
      exact ⟨v, by rw [hbe]; exact hv⟩
    · refine (ok b u q).stay (fun c v hc r => k c v ?_ r) (fun c r => by rw [upd_ne (nown c b r)]; exact r) fun c xs r => by rw [upd_ne (ntup c xs r)]; exact r
      rcases hc with rfl | hc
      · exact hbe
      · rintro rfl
        rcases he with z | z
        · exact nown c b hc z
        · rw [hc] at z; cases z; exact hb rfl
end

/-! ### kept unless tracked; of the frames at fs (the callers') the slots may change (an exception that passes writes there); of the records at ex (iterators) nothing is said -/
structure Un (fs ex : List Addr) (H H' : Hp) (h h' : Heap) : Prop where
  keep : ∀ b o, h.get? b = some o → H b = none → b ∉ fs → b ∉ ex → h'.get? b = some o
  slot : ∀ b o, h.get? b = some o → H b = none → b ∈ fs → b ∉ ex → ∃ sl, h'.get? b = some { o with slots := sl }
  free : ∀ b o, h.get? b = some o → H b = none → b ∉ ex → H' b = none
  there : ∀ b o, h.get? b = some o → b ∉ ex → ∃ o', h'.get? b = some o'
  tups : ∀ b xs, H b = some (.tup xs) → H' b = some (.tup xs)
  frzs : ∀ b o u, H b = some (.frz o u) → H' b = some (.frz o u)
  tbls : ∀ b ps, H b = some (.tbl ps) → ∃ more, H' b = some (.tbl (ps ++ more))
section
variable {fs fs' ex ex' : List Addr} {H H1 H2 : Hp} {h h1 h2 h' : Heap} {a x e : Addr} {o : HO}
theorem Un.any (u : Un fs ex H H1 h h1) {b : Addr} {ob : Obj} (q : h.get? b = some ob) (n : H b = none) (hx : b ∉ ex) : ∃ sl, h1.get? b = some { ob with slots := sl } := by
  by_cases hb : b ∈ fs
  · exact u.slot b ob q n hb hx
  · exact ⟨ob.slots, u.keep b ob q n hb hx⟩
theorem Un.trans (a : Un fs ex H H1 h h1) (b : Un fs ex H1 H2 h1 h2) : Un fs ex H H2 h h2 where
  keep := fun c ob q n hc hx => b.keep c ob (a.keep c ob q n hc hx) (a.free c ob q n hx) hc hx
  slot := fun c ob q n hc hx => by
    obtain ⟨sl, e1⟩ := a.slot c ob q n hc hx
    obtain ⟨sl', e2⟩ := b.slot c _ e1 (a.free c ob q n hx) hc hx
    exact ⟨sl', e2⟩
  free := fun c ob q n hx => by
    obtain ⟨o', e1⟩ := a.there c ob q hx
    exact b.free c o' e1 (a.free c ob q n hx) hx
  there := fun c ob q hx => by
    obtain ⟨o', e1⟩ := a.there c ob q hx
    exact b.there c o' e1 hx
  tups := fun c xs q => b.tups c xs (a.tups c xs q)
  frzs := fun c ob xs q => b.frzs c ob xs (a.frzs c ob xs q)
  tbls := fun c ps q => by
    obtain ⟨m1, e1⟩ := a.tbls c ps q
    obtain ⟨m2, e2⟩ := b.tbls c _ e1
    exact ⟨m1 ++ m2, by rw [e2, Array.append_assoc]⟩
theorem Un.kept (k : ∀ b u, h.get? b = some u → h'.get? b = some u) : Un fs ex H H h h' :=
  ⟨fun b ob q _ _ _ => k b ob q, fun b ob q _ _ _ => ⟨ob.slots, k b ob q⟩, fun _ _ _ n _ => n, fun b ob q _ => ⟨ob, k b ob q⟩, fun _ _ q => q, fun _ _ _ q => q, fun _ ps q => ⟨#[], by rw [q]; simp⟩⟩
theorem Un.refl : Un fs ex H H h h := Un.kept fun _ _ q => q
theorem Un.laid (k : ∀ b u, h.get? b = some u → h'.get? b = some u) (hp : h.objs.size ≤ a) (hn : H a = none) : Un fs ex H (upd H a o) h h' where
  keep := fun b u q _ _ _ => k b u q
  slot := fun b u q _ _ _ => ⟨u.slots, k b u q⟩
  free := fun b u q n _ => by rw [upd_ne (Nat.ne_of_lt (Nat.lt_of_lt_of_le (Heap.lt_size q) hp))]; exact n
  there := fun b u q _ => ⟨u, k b u q⟩
  tups := fun b xs q => by rw [upd_ne (ne_of_none q hn)]; exact q
  frzs := fun b u xs q => by rw [upd_ne (ne_of_none q hn)]; exact q
  tbls := fun b ps q => ⟨#[], by rw [upd_ne (ne_of_none q hn), q]; simp⟩
theorem Un.write (mu : Mut (H x)) (he : e = x ∨ H e = some (.own x)) (k : ∀ b u, b ≠ e → h.get? b = some u → h'.get? b = some u) (heo : ∃ u, h'.get? e = some u) : Un fs ex H (upd H x o) h h' := by
  have hx : ∀ b, H b = none → b ≠ x := fun b n z => by subst z; rw [n] at mu; exact mu
  have hb : ∀ b, H b = none → b ≠ e := fun b n z => by
    subst z
    rcases he with r | r
    · exact hx b n r
    · rw [n] at r; cases r
  have hm : ∀ b u, H b = some u → ¬ Mut (some u) → b ≠ x := fun b u q nm z => by subst z; rw [q] at mu; exact nm mu
  refine ⟨fun b u q n _ _ => k b u (hb b n) q, fun b u q n _ _ => ⟨u.slots, k b u (hb b n) q⟩, fun b u q n _ => by rw [upd_ne (hx b n)]; exact n, fun b u q _ => ?_,
    fun b xs q => by rw [upd_ne (hm b _ q fun z => z)]; exact q, fun b u xs q => by rw [upd_ne (hm b _ q fun z => z)]; exact q, fun b ps q => ⟨#[], by rw [upd_ne (hm b _ q fun z => z), q]; simp⟩⟩
  by_cases hbe : b = e
  · subst hbe; exact heo
  · exact ⟨u, k b u hbe q⟩
theorem Un.mono (u : Un fs ex H H1 h h1) (hs : ∀ b ∈ fs, b ∈ fs') (hx : ∀ b ∈ ex, b ∈ ex') : Un fs' ex' H H1 h h1 :=
  ⟨fun b ob q n hb he => u.keep b ob q n (fun z => hb (hs b z)) fun z => he (hx b z), fun _ _ q n _ he => u.any q n fun z => he (hx _ z), fun b ob q n he => u.free b ob q n fun z => he (hx b z), fun b ob q he => u.there b ob q fun z => he (hx b z), u.tups, u.frzs, u.tbls⟩
end

/-! ### the heap without what is tracked -/
noncomputable def trk (h : Heap) (H : Hp) : List Addr := (List.range h.objs.size).filter fun a => (H a).isSome
noncomputable def hidT (h : Heap) (H : Hp) : Heap := PySem.W.hideAll h (trk h H)
theorem hidT_size (h : Heap) (H : Hp) : (hidT h H).objs.size = h.objs.size := PySem.W.hideAll_size _ _
theorem hidT_get {h : Heap} {H : Hp} {b : Addr} {o : Obj} (e : h.get? b = some o) (n : H b = none) : (hidT h H).get? b = some o :=
  PySem.W.hideAll_get _ e fun hm => by
    have q : (H b).isSome = true := (List.mem_filter.mp hm).2
    rw [n] at q; simp at q
theorem of_hidT {h : Heap} {H : Hp} {b : Addr} {o : Obj} (e : (hidT h H).get? b = some o) : h.get? b = some o ∧ H b = none := by
  have e' : h.get? b = some o := PySem.W.of_hideAll (trk h H) e
  refine ⟨e', ?_⟩
  cases q : H b with
  | none => rfl
  | some x =>
    have hm : b ∈ trk h H := List.mem_filter.mpr ⟨List.mem_range.mpr (Heap.lt_size e'), by simp [q]⟩
    have z : (hidT h H).get? b = none := PySem.W.hideAll_none (trk h H) hm
    rw [z] at e; cases e

/-! ### OpenK's ledger, filled with every new object but one -/
noncomputable def allNews (g h : Heap) (L : Addr) : List (Addr × Obj) := (List.range h.objs.size).filterMap fun a => if a = L ∨ (g.get? a).isSome = true then none else (h.get? a).map fun o => (a, o)
noncomputable def rest (g h : Heap) (L d : Addr) : List (Addr × Obj) := (allNews g h L).filter fun p => decide (p.1 ≠ d)
end L2

namespace L2
open PySem PySem.Spec PyProof.Rows

/-- the module's facts, over the base: the heap at the law's entry without what is tracked there -/
structure Mod (K : PySem.W.Frag) (mg : Str → Option Value) (base : Heap) : Prop where
  kin : K.In base
  glob : base.Ns mainGlobals mg
  blt : ∃ mb, base.Ns builtinsNs mb ∧ ∀ x : Str, x ≠ "__name__" → mb x = bootBuiltins x
  nolimit : base.NoLimit

/-- the context: a def's body (or a comprehension's block) running. base: fixed through the whole law; s₀, H₀: the entry; outer: the frames whose slots others may change (a def's callers); stack: all frames that run;
   ex: iterators that were made ahead of the entry and are walked here (a comprehension's); fn: the names whose cells were made at the entry (a def: all; a comprehension's block: its own); calm: not within an except suite; pn: pins that every state bears; xe: what is wanted of an exception that leaves the code -/
structure Cx where
  prog : Program
  w : World
  K : PySem.W.Frag
  mg : Str → Option Value
  base : Heap
  A : Around
  N : List Str
  s₀ : Shared
  H₀ : Hp
  env : Env
  outer : List Env
  stack : List Env
  ex : List Addr
  fn : Str → Bool
  calm : Bool
  pn : List (Addr × Obj)
  xe : Value → Shared → Prop
/-- the callers' frames -/
noncomputable def frs (l : List Env) : List Addr := l.filterMap (·.frame)
abbrev Cx.fs (X : Cx) : List Addr := frs X.outer

noncomputable def Vis (sc : Scope) (x : Str) : Prop := sc.names.lookup x = some .local ∨ sc.names.lookup x = some .cell ∨ sc.names.lookup x = some .free
noncomputable def Loc (sc : Scope) (x : Str) : Prop := sc.names.lookup x = some .local ∨ sc.names.lookup x = some .cell
noncomputable def Look (env : Env) (h : Heap) (m : Str → Option Value) (x : Str) (u : Value) : Prop :=
  (env.kindOf x = some .local ∧ m x = some u) ∨ ((env.kindOf x = some .cell ∨ env.kindOf x = some .free) ∧ ∃ c, env.cells.lookup x = some c ∧ h.IsCell c (some u))

structure Cx.Ok (X : Cx) : Prop where
  mod : Mod X.K X.mg X.base
  kind : X.env.scope.kind = .function
  glob : X.env.globals = mainGlobals
  blt : X.env.builtins = builtinsNs
  above : X.s₀.heap.objs.size ≤ X.env.locals
  inj : ∀ x y c, X.env.cells.lookup x = some c → X.env.cells.lookup y = some c → x = y
  has : ∀ x, (X.env.kindOf x = some .cell ∨ X.env.kindOf x = some .free) → ∃ c, X.env.cells.lookup x = some c
  cab : ∀ x c, X.fn x = true → X.env.cells.lookup x = some c → X.s₀.heap.objs.size ≤ c
  hd : X.calm = true → X.A.handled = none
  frames : X.A.frames = some X.stack
  stk : X.stack = X.outer ∨ (X.stack = X.env :: X.outer ∧ X.env.frame = some X.env.locals)
  exf : ∀ b ∈ X.ex, b ≠ X.env.locals ∧ ∀ x c, X.env.cells.lookup x = some c → c ≠ b
  bs : ∀ b o, X.base.get? b = some o → X.s₀.heap.get? b = some o ∧ X.H₀ b = none
  bsz : X.base.objs.size ≤ X.s₀.heap.objs.size
  noex : ∀ b o, X.base.get? b = some o → b ∉ X.ex
  exfs : ∀ b ∈ X.ex, b ∉ X.fs
  funs : X.s₀.heap.FunFrames X.base X.outer
  frf : ∀ b ∈ X.fs, X.H₀ b = none

structure Inv (X : Cx) (pins : List (Addr × Obj)) (σ : List (Option V)) (H : Hp) (s : Shared) : Prop where
  ok : X.Ok
  os : s.os = X.s₀.os
  bare : AllBare s.gens
  base : Un X.fs X.ex X.H₀ H X.s₀.heap s.heap
  loc : ∃ m, s.heap.Ns X.env.locals m ∧ ∀ (i : Nat) (x : Str) (v : V), X.N[i]? = some x → σ[i]? = some (some v) → Vis X.env.scope x → ∃ u, RelV v u ∧ Look X.env s.heap m x u
  cell : ∀ x c, X.env.cells.lookup x = some c → ∃ v, s.heap.IsCell c v
  free : H X.env.locals = none
  freeC : ∀ x c, X.env.cells.lookup x = some c → H c = none
  pin : ∀ p ∈ X.pn ++ pins, s.heap.get? p.1 = some p.2 ∧ H p.1 = none ∧ p.1 ≠ X.env.locals ∧ p.1 ∉ X.fs ∧ ∀ v, p.2.data ≠ .cell v
  hok : HOk X.prog X.w H s.heap
  len : σ.length = X.N.length

section
variable {X : Cx} {pins : List (Addr × Obj)} {σ : List (Option V)} {H H' : Hp} {s : Shared} {h' : Heap}

theorem Cx.Ok.nofr (ok : X.Ok) {b : Addr} {o : Obj} (e : X.base.get? b = some o) : b ∉ X.fs := fun hb => by
  have := (ok.funs.mem hb).1
  rw [e] at this; cases this
theorem Inv.bs (I : Inv X pins σ H s) : ∀ b o, X.base.get? b = some o → s.heap.get? b = some o ∧ H b = none := fun b o e =>
  ⟨I.base.keep b o (I.ok.bs b o e).1 (I.ok.bs b o e).2 (I.ok.nofr e) (I.ok.noex b o e), I.base.free b o (I.ok.bs b o e).1 (I.ok.bs b o e).2 (I.ok.noex b o e)⟩
theorem Inv.bk (I : Inv X pins σ H s) : ∀ b o, X.base.get? b = some o → s.heap.get? b = some o := fun b o e => (I.bs b o e).1
theorem Inv.mod (I : Inv X pins σ H s) : Mod X.K X.mg X.base := I.ok.mod
theorem Inv.kIn (I : Inv X pins σ H s) : X.K.In s.heap := I.ok.mod.kin.keeps I.bk
theorem Inv.nolimit (I : Inv X pins σ H s) : s.heap.NoLimit := I.ok.mod.nolimit.keeps I.bk
/-- the frame over the base: for OpenK's rules (K.In X.base is I.mod.kin) -/
theorem Inv.fr (I : Inv X pins σ H s) : ∃ m, Fr X.base X.env.locals s.heap m :=
  let ⟨m, hn, _⟩ := I.loc
  ⟨m, hn, I.bk, Nat.le_trans I.ok.bsz I.ok.above⟩
theorem Inv.lt (I : Inv X pins σ H s) : X.env.locals < s.heap.objs.size := let ⟨_, hn, _⟩ := I.loc; hn.lt
theorem Inv.sz (I : Inv X pins σ H s) : X.s₀.heap.objs.size ≤ s.heap.objs.size := Nat.le_trans I.ok.above (Nat.le_of_lt I.lt)
theorem Inv.nofs (I : Inv X pins σ H s) {a : Addr} (h : s.heap.objs.size ≤ a) : a ∉ X.fs := fun hb => by
  obtain ⟨_, o, ho, _⟩ := I.ok.funs.mem hb
  exact absurd (Nat.lt_of_lt_of_le (Heap.lt_size ho) (Nat.le_trans I.sz h)) (Nat.lt_irrefl _)
theorem Inv.cne (I : Inv X pins σ H s) : ∀ x c, X.env.cells.lookup x = some c → c ≠ X.env.locals := fun x c e z => by
  obtain ⟨v, o, ho, hd⟩ := I.cell x c e
  obtain ⟨m, ⟨o', es, ep, ho', hd', _⟩, _⟩ := I.loc
  rw [z, ho'] at ho; cases ho; rw [hd'] at hd; cases hd
theorem Inv.funs (I : Inv X pins σ H s) : s.heap.FunFrames X.base X.outer := by
  have all : ∀ (l : List Env), (∀ b ∈ frs l, b ∈ X.fs) → X.s₀.heap.FunFrames X.base l → s.heap.FunFrames X.base l := by
    intro l
    induction l with
    | nil => intro _ _; trivial
    | cons env r ih =>
      intro hs hl
      obtain ⟨hk, ⟨L, o, hf, hn, ho, hd⟩, hr⟩ := hl
      have hL : L ∈ X.fs := hs L (by unfold frs; rw [List.filterMap_cons, hf]; exact List.mem_cons_self)
      obtain ⟨sl, e⟩ := I.base.slot L o ho (I.ok.frf L hL) hL fun z => I.ok.exfs L z hL
      exact ⟨hk, ⟨L, _, hf, hn, e, hd⟩, ih (fun b hb => hs b (by unfold frs; rw [List.filterMap_cons, hf]; exact List.mem_cons_of_mem _ hb)) hr⟩
  exact all X.outer (fun _ hb => hb) I.ok.funs

/-- the frames that run, for a call -/
theorem Inv.stack (I : Inv X pins σ H s) : s.heap.FunFrames X.base X.stack := by
  rcases I.ok.stk with e | ⟨e, hf⟩
  · rw [e]; exact I.funs
  · rw [e]
    obtain ⟨m, hn, _⟩ := I.loc
    refine .cons (by rw [I.ok.kind]; decide) hf hn ?_ I.funs
    exact Heap.get?_none_of_le (Nat.le_trans I.ok.bsz I.ok.above)
theorem Inv.stkSub (I : Inv X pins σ H s) : ∀ b ∈ frs X.stack, b ∈ X.env.locals :: X.fs := fun b hb => by
  rcases I.ok.stk with e | ⟨e, hf⟩
  · rw [e] at hb; exact List.mem_cons_of_mem _ hb
  · rw [e] at hb
    unfold frs at hb
    rw [List.filterMap_cons, hf] at hb
    exact hb
theorem Inv.stkFree (I : Inv X pins σ H s) : ∀ b ∈ frs X.stack, H b = none := fun b hb => by
  rcases List.mem_cons.mp (I.stkSub b hb) with e | hb
  · rw [e]; exact I.free
  · obtain ⟨_, o, ho, _⟩ := I.ok.funs.mem hb
    exact I.base.free b o ho (I.ok.frf b hb) fun z => I.ok.exfs b z hb

/-- THE STEP: the untracked objects but the frame and the records at ch are kept (the callers' frames up to slots), the frame's map is kept, the new abstract heap is held -/
theorem Inv.step {g' : Array GenState} {t' : Nat} {d' : Drawn} {ch : List Addr} (I : Inv X pins σ H s)
    (hch : ∀ b ∈ ch, (b ∈ X.ex ∨ X.s₀.heap.objs.size ≤ b) ∧ b ≠ X.env.locals ∧ (∀ x c, X.env.cells.lookup x = some c → c ≠ b) ∧ ∀ p ∈ X.pn ++ pins, p.1 ≠ b)
    (keep : ∀ b o, b ≠ X.env.locals → b ∉ X.fs → b ∉ ch → s.heap.get? b = some o → H b = none → h'.get? b = some o)
    (slot : ∀ b o, b ≠ X.env.locals → b ∈ X.fs → b ∉ ch → s.heap.get? b = some o → H b = none → ∃ sl, h'.get? b = some { o with slots := sl }) (free : ∀ b o, b ∉ ch → s.heap.get? b = some o → H b = none → H' b = none)
    (there : ∀ b o, b ∉ ch → s.heap.get? b = some o → ∃ o', h'.get? b = some o')
    (tups : ∀ b xs, H b = some (.tup xs) → H' b = some (.tup xs)) (frzs : ∀ b o u, H b = some (.frz o u) → H' b = some (.frz o u)) (tbls : ∀ b ps, H b = some (.tbl ps) → ∃ more, H' b = some (.tbl (ps ++ more)))
    (ns : ∀ m, s.heap.Ns X.env.locals m → h'.Ns X.env.locals m) (hok : HOk X.prog X.w H' h') (hg : AllBare g') :
    Inv X pins σ H' { s with heap := h', gens := g', drawn := d', toks := t' } := by
  have neL : ∀ b o, X.s₀.heap.get? b = some o → b ≠ X.env.locals := fun b o e => Nat.ne_of_lt (Nat.lt_of_lt_of_le (Heap.lt_size e) I.ok.above)
  have neC : ∀ b o, X.s₀.heap.get? b = some o → b ∉ X.ex → b ∉ ch := fun b o e hx hb => by
    rcases (hch b hb).1 with z | z
    · exact hx z
    · exact absurd (Nat.lt_of_lt_of_le (Heap.lt_size e) z) (Nat.lt_irrefl _)
  have cellK : ∀ x c, X.env.cells.lookup x = some c → ∀ v, s.heap.IsCell c v → h'.IsCell c v := fun x c e v ⟨o, ho, hd⟩ => by
    have nch : c ∉ ch := fun z => (hch c z).2.2.1 x c e rfl
    by_cases hc : c ∈ X.fs
    · obtain ⟨sl, q⟩ := slot c o (I.cne x c e) hc nch ho (I.freeC x c e)
      exact ⟨_, q, hd⟩
    · exact ⟨o, keep c o (I.cne x c e) hc nch ho (I.freeC x c e), hd⟩
  refine ⟨I.ok, I.os, hg, ⟨fun b o e n hb hx => ?_, fun b o e n hb hx => ?_, fun b o e n hx => ?_, fun b o e hx => ?_, fun b xs e => tups b xs (I.base.tups b xs e), fun b o xs e => frzs b o xs (I.base.frzs b o xs e), fun b ps e => ?_⟩, ?_, fun x c e => ?_, ?_, fun x c e => ?_, fun p hp => ?_, hok, I.len⟩
  · exact keep b o (neL b o e) hb (neC b o e hx) (I.base.keep b o e n hb hx) (I.base.free b o e n hx)
  · obtain ⟨sl, e1⟩ := I.base.slot b o e n hb hx
    obtain ⟨sl', e2⟩ := slot b _ (neL b o e) hb (neC b o e hx) e1 (I.base.free b o e n hx)
    exact ⟨sl', e2⟩
  · obtain ⟨o', e1⟩ := I.base.there b o e hx
    exact free b o' (neC b o e hx) e1 (I.base.free b o e n hx)
  · obtain ⟨o', e1⟩ := I.base.there b o e hx
    exact there b o' (neC b o e hx) e1
  · obtain ⟨m1, e1⟩ := I.base.tbls b ps e
    obtain ⟨m2, e2⟩ := tbls b _ e1
    exact ⟨m1 ++ m2, by rw [e2, Array.append_assoc]⟩
  · obtain ⟨m, hn, hl⟩ := I.loc
    refine ⟨m, ns m hn, fun i x v e1 e2 e3 => ?_⟩
    obtain ⟨u, r, l⟩ := hl i x v e1 e2 e3
    refine ⟨u, r, ?_⟩
    rcases l with l | ⟨k, c, e, z⟩
    · exact .inl l
    · exact .inr ⟨k, c, e, cellK x c e _ z⟩
  · obtain ⟨v, z⟩ := I.cell x c e
    exact ⟨v, cellK x c e v z⟩
  · obtain ⟨m, ⟨o, _, _, ho, _⟩, _⟩ := I.loc
    exact free _ o (fun z => (hch _ z).2.1 rfl) ho I.free
  · obtain ⟨v, o, ho, hd⟩ := I.cell x c e
    exact free c o (fun z => (hch c z).2.2.1 x c e rfl) ho (I.freeC x c e)
  · obtain ⟨e, n, ne, nf, d⟩ := I.pin p hp
    have nch : p.1 ∉ ch := fun z => (hch p.1 z).2.2.2 p hp rfl
    exact ⟨keep p.1 p.2 ne nf nch e n, free p.1 p.2 nch e n, ne, nf, d⟩
/-- .. where the frame's own object is kept too -/
theorem Inv.un {t' : Nat} (I : Inv X pins σ H s) (u : Un X.fs [] H H' s.heap h') (hok : HOk X.prog X.w H' h') : Inv X pins σ H' { s with heap := h', toks := t' } := by
  obtain ⟨m, ⟨o, es, ep, ho, r⟩, _⟩ := id I.loc
  obtain ⟨sl, hL⟩ := u.any ho I.free (by simp)
  exact I.step (g' := s.gens) (d' := s.drawn) (ch := []) (fun _ z => nomatch z) (fun b o _ hb _ e n => u.keep b o e n hb (by simp)) (fun b o _ hb _ e n => u.slot b o e n hb (by simp)) (fun b o _ e n => u.free b o e n (by simp)) (fun b o _ e => u.there b o e (by simp)) u.tups u.frzs u.tbls (fun m' hm => by
    obtain ⟨o', es', ep', ho', r'⟩ := hm
    rw [ho] at ho'; cases ho'
    exact ⟨_, es', ep', hL, r'⟩) hok I.bare
/-- behind a call (or a comprehension's block): the slots of this frame may have changed too, the records at ch may have turned -/
theorem Inv.call {g' : Array GenState} {t' : Nat} {d' : Drawn} {ch : List Addr} (I : Inv X pins σ H s) (u : Un (frs X.stack) ch H H' s.heap h') (hok : HOk X.prog X.w H' h') (hg : AllBare g')
    (hch : ∀ b ∈ ch, (b ∈ X.ex ∨ X.s₀.heap.objs.size ≤ b) ∧ b ≠ X.env.locals ∧ (∀ x c, X.env.cells.lookup x = some c → c ≠ b) ∧ ∀ p ∈ X.pn ++ pins, p.1 ≠ b) :
    Inv X pins σ H' { s with heap := h', gens := g', drawn := d', toks := t' } := by
  obtain ⟨m, ⟨o, es, ep, ho, r⟩, _⟩ := id I.loc
  obtain ⟨sl, hL⟩ := u.any ho I.free fun z => (hch _ z).2.1 rfl
  exact I.step (ch := ch) hch (fun b o hL hb hc e n => u.keep b o e n (fun z => (List.mem_cons.mp (I.stkSub b z)).elim hL hb) hc) (fun b o _ _ hc e n => u.any e n hc) (fun b o hc e n => u.free b o e n hc) (fun b o hc e => u.there b o e hc) u.tups u.frzs u.tbls (fun m' hm => by
    obtain ⟨o', es', ep', ho', r'⟩ := hm
    rw [ho] at ho'; cases ho'
    exact ⟨_, es', ep', hL, r'⟩) hok hg
/-- an untracked record of ours (an iterator) has turned -/
theorem Inv.turned {t' : Nat} {it : Addr} (I : Inv X pins σ H s) (k : ∀ b o, b ≠ it → s.heap.get? b = some o → h'.get? b = some o) (hn : H it = none) (hL : it ≠ X.env.locals)
    (h1 : it ∈ X.ex ∨ X.s₀.heap.objs.size ≤ it) (h2 : ∀ x c, X.env.cells.lookup x = some c → c ≠ it) (h3 : ∀ p ∈ X.pn ++ pins, p.1 ≠ it) : Inv X pins σ H { s with heap := h', toks := t' } := by
  have nit : ∀ b u, H b = some u → b ≠ it := fun b u e z => by rw [z, hn] at e; cases e
  refine I.step (g' := s.gens) (d' := s.drawn) (ch := [it]) (fun b hb => ?_) (fun b o _ _ hc e _ => k b o (fun z => hc (by simp [z])) e) (fun b o _ _ hc e _ => ⟨o.slots, k b o (fun z => hc (by simp [z])) e⟩) (fun _ _ _ _ n => n)
    (fun b o hc e => ⟨o, k b o (fun z => hc (by simp [z])) e⟩) (fun _ _ e => e) (fun _ _ _ e => e) (fun b ps e => ⟨#[], by rw [e]; simp⟩) (fun m hm => ?_) (fun b u e => ?_) I.bare
  · have e : b = it := by simpa using hb
    subst e
    exact ⟨h1, hL, h2, h3⟩
  · obtain ⟨o, es, ep, ho, r⟩ := hm
    exact ⟨o, es, ep, k _ o (Ne.symm hL) ho, r⟩
  · refine (I.hok b u e).stay (fun c v hc q => k c v ?_ q) (fun _ q => q) fun _ _ q => q
    rcases hc with z | z
    · rw [z]; exact nit b u e
    · exact nit c _ z
theorem Inv.tok (I : Inv X pins σ H s) (t : Nat) : Inv X pins σ H { s with toks := t } := I.un (h' := s.heap) (t' := t) Un.refl I.hok
/-- all objects kept -/
theorem Inv.kept {t' : Nat} (I : Inv X pins σ H s) (k : ∀ b u, s.heap.get? b = some u → h'.get? b = some u) : Inv X pins σ H { s with heap := h', toks := t' } := I.un (Un.kept k) (I.hok.kept k)
/-- a new object laid and tracked -/
theorem Inv.laid {a : Addr} {o : HO} {t' : Nat} (I : Inv X pins σ H s) (k : ∀ b u, s.heap.get? b = some u → h'.get? b = some u) (hp : s.heap.objs.size ≤ a) (new : ObjOk X.prog X.w (upd H a o) h' a o) :
    Inv X pins σ (upd H a o) { s with heap := h', toks := t' } := I.un (Un.laid k hp (I.hok.fresh hp)) (I.hok.laid k hp new)
/-- an object written -/
theorem Inv.write {x e : Addr} {o : HO} {t' : Nat} (I : Inv X pins σ H s) (mu : Mut (H x)) (he : e = x ∨ H e = some (.own x)) (k : ∀ b u, b ≠ e → s.heap.get? b = some u → h'.get? b = some u) (heo : ∃ u, h'.get? e = some u)
    (new : ObjOk X.prog X.w (upd H x o) h' x o) : Inv X pins σ (upd H x o) { s with heap := h', toks := t' } := I.un (Un.write mu he k heo) (I.hok.write mu he k heo new)
/-- forgetting slots, pins -/
theorem Inv.weak {σ' : List (Option V)} (I : Inv X pins σ H s) (hl : σ'.length = σ.length) (w : ∀ (i : Nat) v, σ'[i]? = some (some v) → σ[i]? = some (some v)) : Inv X pins σ' H s :=
  ⟨I.ok, I.os, I.bare, I.base, let ⟨m, hn, hl'⟩ := I.loc; ⟨m, hn, fun i x v e1 e2 e3 => hl' i x v e1 (w i v e2) e3⟩, I.cell, I.free, I.freeC, I.pin, I.hok, hl.trans I.len⟩
theorem Inv.pins_of {pins' : List (Addr × Obj)} (I : Inv X pins σ H s) (h : ∀ p ∈ pins', s.heap.get? p.1 = some p.2 ∧ H p.1 = none ∧ p.1 ≠ X.env.locals ∧ p.1 ∉ X.fs ∧ ∀ v, p.2.data ≠ .cell v) : Inv X pins' σ H s :=
  ⟨I.ok, I.os, I.bare, I.base, I.loc, I.cell, I.free, I.freeC, fun p hp => (List.mem_append.mp hp).elim (fun z => I.pin p (List.mem_append_left _ z)) (h p), I.hok, I.len⟩

theorem nodup_ix {N : List Str} (hN : N.Nodup) {i j : Nat} {x : Str} (a : N[i]? = some x) (b : N[j]? = some x) : i = j := by
  obtain ⟨h1, e1⟩ := List.getElem?_eq_some_iff.mp a
  obtain ⟨h2, e2⟩ := List.getElem?_eq_some_iff.mp b
  exact (List.getElem_inj hN).mp (e1.trans e2.symm)

/-- a name is stored; what changed -/
theorem store_ok2 {M : Model} {A : Around} {E : Value → Shared → Prop} {i : Nat} {x : Str} {v : V} {u : Value} {Q : Unit → Shared → Prop} (I : Inv X pins σ H s) (hN : X.N.Nodup) (hi : X.N[i]? = some x) (hx : Loc X.env.scope x) (r : RelV v u)
    (h : ∀ s', Inv X pins (σ.set i (some v)) H s' → (∃ a, Heap.SameBut a s.heap s'.heap ∧ (a = X.env.locals ∨ X.env.cells.lookup x = some a)) → Q () s') (hf : X.fn x = true ∨ X.env.scope.names.lookup x = some .local := by first | exact .inl rfl | exact .inr rfl | assumption) : wpAny M A (storeName X.env x u) Q E s := by
  obtain ⟨m, hn, hl⟩ := id I.loc
  have hcls : (X.env.scope.kind == .class || (X.env.scope.kind == .module && X.env.locals != X.env.globals)) = false := by rw [I.ok.kind]; rfl
  have hiσ : i < σ.length := by rw [I.len]; exact (List.getElem?_eq_some_iff.mp hi).1
  have cne := I.cne
  have tracked : ∀ {a : Addr} {h' : Heap}, (∃ o, s.heap.get? a = some o ∧ H a = none) → Heap.SameBut a s.heap h' → HOk X.prog X.w H h' := fun {a h'} ha hs b ob e => by
    obtain ⟨_, _, hfree⟩ := ha
    refine (I.hok b ob e).stay (fun c w' hc q => (hs.2 c ?_).trans q) (fun _ q => q) fun _ _ q => q
    rintro rfl
    rcases hc with rfl | hc
    · rw [hfree] at e; cases e
    · rw [hfree] at hc; cases hc
  rcases hx with hk | hk
  · refine wpAny_storeName_local hk hn (fun h' hn' hs => ?_) hcls
    obtain ⟨oL, _, _, hoL, _⟩ := id hn
    refine h _ ⟨I.ok, I.os, I.bare, ⟨fun b o e n hb hx => ?_, fun b o e n hb hx => ?_, I.base.free, fun b o e hx => ?_, I.base.tups, I.base.frzs, I.base.tbls⟩, ⟨_, hn', fun j y v' e1 e2 e3 => ?_⟩, fun y c e => ?_, I.free, I.freeC, fun p hp => ?_, tracked ⟨oL, hoL, I.free⟩ hs, by simpa using I.len⟩ ⟨_, hs, .inl rfl⟩
    · exact (hs.2 b (Nat.ne_of_lt (Nat.lt_of_lt_of_le (Heap.lt_size e) I.ok.above))).trans (I.base.keep b o e n hb hx)
    · obtain ⟨sl, e1⟩ := I.base.slot b o e n hb hx
      exact ⟨sl, (hs.2 b (Nat.ne_of_lt (Nat.lt_of_lt_of_le (Heap.lt_size e) I.ok.above))).trans e1⟩
    · obtain ⟨o', e1⟩ := I.base.there b o e hx
      exact ⟨o', (hs.2 b (Nat.ne_of_lt (Nat.lt_of_lt_of_le (Heap.lt_size e) I.ok.above))).trans e1⟩
    · by_cases hj : j = i
      · subst hj
        rw [hi] at e1; cases e1
        rw [List.getElem?_set_self hiσ] at e2
        cases e2
        exact ⟨u, r, .inl ⟨hk, by simp⟩⟩
      · rw [List.getElem?_set_ne (Ne.symm hj)] at e2
        obtain ⟨u', r', q⟩ := hl j y v' e1 e2 e3
        refine ⟨u', r', ?_⟩
        rcases q with ⟨k, e⟩ | ⟨k, c, e, z⟩
        · refine .inl ⟨k, ?_⟩
          have : y ≠ x := fun e => hj (nodup_ix hN e1 (e ▸ hi))
          simp [this, e]
        · exact .inr ⟨k, c, e, z.sameBut hs (cne y c e)⟩
    · obtain ⟨w', z⟩ := I.cell y c e
      exact ⟨w', z.sameBut hs (cne y c e)⟩
    · obtain ⟨e, n, ne, nf, d⟩ := I.pin p hp
      exact ⟨(hs.2 p.1 ne).trans e, n, ne, nf, d⟩
  · have hfn : X.fn x = true := by
      rcases hf with z | z
      · exact z
      · rw [z] at hk; cases hk
    obtain ⟨c, hc⟩ := I.ok.has x (.inl hk)
    obtain ⟨w', z⟩ := I.cell x c hc
    refine wpAny_storeName_cell I.ok.kind hk hc z (fun h' hc' hs => ?_)
    obtain ⟨oc, hoc, hocd⟩ := id z
    refine h { s with heap := h' } ⟨I.ok, I.os, I.bare, ⟨fun b o e n hb hx => ?_, fun b o e n hb hx => ?_, I.base.free, fun b o e hx => ?_, I.base.tups, I.base.frzs, I.base.tbls⟩, ⟨m, hn.sameBut hs (Ne.symm (cne x c hc)), fun j y v' e1 e2 e3 => ?_⟩, fun y c' e => ?_, I.free, I.freeC, fun p hp => ?_, tracked ⟨oc, hoc, I.freeC x c hc⟩ hs, by simpa using I.len⟩ ⟨c, hs, .inr hc⟩
    · exact (hs.2 b (Nat.ne_of_lt (Nat.lt_of_lt_of_le (Heap.lt_size e) (I.ok.cab x c hfn hc)))).trans (I.base.keep b o e n hb hx)
    · obtain ⟨sl, e1⟩ := I.base.slot b o e n hb hx
      exact ⟨sl, (hs.2 b (Nat.ne_of_lt (Nat.lt_of_lt_of_le (Heap.lt_size e) (I.ok.cab x c hfn hc)))).trans e1⟩
    · obtain ⟨o', e1⟩ := I.base.there b o e hx
      exact ⟨o', (hs.2 b (Nat.ne_of_lt (Nat.lt_of_lt_of_le (Heap.lt_size e) (I.ok.cab x c hfn hc)))).trans e1⟩
    · by_cases hj : j = i
      · subst hj
        rw [hi] at e1; cases e1
        rw [List.getElem?_set_self hiσ] at e2
        cases e2
        exact ⟨u, r, .inr ⟨.inl hk, c, hc, hc'⟩⟩
      · rw [List.getElem?_set_ne (Ne.symm hj)] at e2
        obtain ⟨u', r', q⟩ := hl j y v' e1 e2 e3
        refine ⟨u', r', ?_⟩
        rcases q with q | ⟨k, c', e, z'⟩
        · exact .inl q
        · refine .inr ⟨k, c', e, z'.sameBut hs ?_⟩
          rintro rfl
          exact hj (nodup_ix hN e1 (I.ok.inj _ _ _ e hc ▸ hi))
    · by_cases hcc : c' = c
      · subst hcc; exact ⟨_, hc'⟩
      · obtain ⟨w2, z2⟩ := I.cell y c' e
        exact ⟨w2, z2.sameBut hs hcc⟩
    · obtain ⟨e, n, ne, nf, d⟩ := I.pin p hp
      refine ⟨(hs.2 p.1 ?_).trans e, n, ne, nf, d⟩
      intro q
      rw [q, hoc] at e
      have q' : oc = p.2 := Option.some.inj e
      exact d w' (by rw [← q']; exact hocd)
theorem store_ok {M : Model} {A : Around} {E : Value → Shared → Prop} {i : Nat} {x : Str} {v : V} {u : Value} {Q : Unit → Shared → Prop} (I : Inv X pins σ H s) (hN : X.N.Nodup) (hi : X.N[i]? = some x) (hx : Loc X.env.scope x) (r : RelV v u)
    (h : ∀ s', Inv X pins (σ.set i (some v)) H s' → Q () s') (hf : X.fn x = true ∨ X.env.scope.names.lookup x = some .local := by first | exact .inl rfl | exact .inr rfl | assumption) : wpAny M A (storeName X.env x u) Q E s :=
  store_ok2 I hN hi hx r (fun s' I' _ => h s' I') hf
/-- behind a call or a block, the state as it is -/
theorem Inv.call' {s' : Shared} {ch : List Addr} (I : Inv X pins σ H s) (ho : s'.os = s.os) (u : Un (frs X.stack) ch H H' s.heap s'.heap) (hok : HOk X.prog X.w H' s'.heap) (hg : AllBare s'.gens)
    (hch : ∀ b ∈ ch, (b ∈ X.ex ∨ X.s₀.heap.objs.size ≤ b) ∧ b ≠ X.env.locals ∧ (∀ x c, X.env.cells.lookup x = some c → c ≠ b) ∧ ∀ p ∈ X.pn ++ pins, p.1 ≠ b) : Inv X pins σ H' s' := by
  obtain ⟨h', g', d', t', o'⟩ := s'
  have e : o' = s.os := ho
  subst e
  exact I.call (g' := g') (t' := t') (d' := d') u hok hg hch
end

/-! ### the judgements -/
/-- an exception: its class, its own dict's address (where it has one), the abstract heap behind it -/
abbrev XK := Value → Option Addr → Hp → Prop
abbrev St := List (Option V)
abbrev VK := V → Hp → Prop
/-- an expression's reading; a test's; an argument list's -/
abbrev TE := St → Hp → VK → Prop
abbrev TT := St → Hp → (Bool → Hp → Prop) → Prop
abbrev TA := St → Hp → (List V → Hp → Prop) → Prop
/-- what is wanted behind a statement -/
structure Ends where
  nx : St → Hp → Prop
  rt : VK
  bk : St → Hp → Prop := fun _ _ => False
  ct : St → Hp → Prop := fun _ _ => False
abbrev TS := Ends → St → Hp → Prop

noncomputable def EP (X : Cx) (pins : List (Addr × Obj)) (σ : St) (Q : VK) (u : Value) (s' : Shared) : Prop := ∃ v H', Inv X pins σ H' s' ∧ RelV v u ∧ Q v H'
noncomputable def TP (X : Cx) (pins : List (Addr × Obj)) (σ : St) (Q : Bool → Hp → Prop) (b : Bool) (s' : Shared) : Prop := ∃ H', Inv X pins σ H' s' ∧ Q b H'
noncomputable def AP (X : Cx) (pins : List (Addr × Obj)) (σ : St) (Q : List V → Hp → Prop) (us : List Value) (s' : Shared) : Prop := ∃ vs H', Inv X pins σ H' s' ∧ Vals vs us ∧ Q vs H'
noncomputable def SP (X : Cx) (pins : List (Addr × Obj)) (D : Ends) (f : Flow) (s' : Shared) : Prop :=
  match f with
  | .next => ∃ σ' H', Inv X pins σ' H' s' ∧ D.nx σ' H'
  | .brk => ∃ σ' H', Inv X pins σ' H' s' ∧ D.bk σ' H'
  | .cont => ∃ σ' H', Inv X pins σ' H' s' ∧ D.ct σ' H'
  | .ret u => ∃ v σ' H', Inv X pins σ' H' s' ∧ RelV v u ∧ D.rt v H'

noncomputable def PE (X : Cx) (e : Expr) (t : TE) : Prop :=
  ∀ (pins : List (Addr × Obj)) (s : Shared) (σ : St) (H : Hp) (Q : VK), Inv X pins σ H s → t σ H Q → wpAny (model X.prog X.w) X.A (eval e X.env) (EP X pins σ Q) X.xe s
noncomputable def PT (X : Cx) (e : Expr) (t : TT) : Prop :=
  ∀ (pins : List (Addr × Obj)) (s : Shared) (σ : St) (H : Hp) (Q : Bool → Hp → Prop), Inv X pins σ H s → t σ H Q → wpAny (model X.prog X.w) X.A (isTrue e X.env (eval e X.env)) (TP X pins σ Q) X.xe s
/-- a test whatever its 'whole' is (and, or) -/
noncomputable def PW (X : Cx) (e : Expr) (t : TT) : Prop :=
  ∀ (whole : Sem Value) (pins : List (Addr × Obj)) (s : Shared) (σ : St) (H : Hp) (Q : Bool → Hp → Prop), Inv X pins σ H s → t σ H Q → wpAny (model X.prog X.w) X.A (isTrue e X.env whole) (TP X pins σ Q) X.xe s
theorem PW.pt {X : Cx} {e : Expr} {t : TT} (h : PW X e t) : PT X e t := h _
/-- an argument list (no star), from the left -/
noncomputable def PA (X : Cx) (es : List Expr) (t : TA) : Prop :=
  ∀ (pos : Pos) (pins : List (Addr × Obj)) (s : Shared) (σ : St) (H : Hp) (Q : List V → Hp → Prop), Inv X pins σ H s → t σ H Q → wpAny (model X.prog X.w) X.A (spliced (backTo pos (starEach es X.env))) (AP X pins σ Q) X.xe s
noncomputable def PS (X : Cx) (st : Stmt) (t : TS) : Prop :=
  ∀ (pins : List (Addr × Obj)) (s : Shared) (σ : St) (H : Hp) (D : Ends), Inv X pins σ H s → t D σ H → wpAny (model X.prog X.w) X.A (exec st X.env) (SP X pins D) X.xe s
noncomputable def PSs (X : Cx) (st : List Stmt) (t : TS) : Prop :=
  ∀ (pins : List (Addr × Obj)) (s : Shared) (σ : St) (H : Hp) (D : Ends), Inv X pins σ H s → t D σ H → wpAny (model X.prog X.w) X.A (execs st X.env) (SP X pins D) X.xe s
/-- weaken the end -/
theorem thn {α : Type} {t : Sem α} {Q Q' : α → Shared → Prop} {M : Model} {A : Around} {E : Value → Shared → Prop} {s : Shared} (h : wpAny M A t Q E s) (hQ : ∀ a s, Q a s → Q' a s) : wpAny M A t Q' E s := wpAny_mono h hQ fun _ _ x => x
end L2

namespace L2
open PySem PySem.Spec PyProof.Rows
section
variable {X : Cx}

/-! ### names and constants -/
noncomputable def tVar (i : Nat) : TE := fun σ H Q => ∃ v, σ[i]? = some (some v) ∧ Q v H
noncomputable def tC (v : V) : TE := fun _ H Q => Q v H
theorem pe_var {i : Nat} {x : Str} {pos : Pos} (hN : X.N[i]? = some x) (hv : Vis X.env.scope x) (hd : (x == ("__debug__" : Str)) = false := by decide) (hcd : (x == ("__classdict__" : Str)) = false := by decide) : PE X (.Name x pos) (tVar i) := by
  intro pins s σ H Q I h
  obtain ⟨v, e, h⟩ := h
  obtain ⟨m, hn, hl⟩ := I.loc
  obtain ⟨u, r, l⟩ := hl i x v hN e hv
  have fin : EP X pins σ Q u s := ⟨v, H, I, r, h⟩
  rcases l with ⟨hk, hm⟩ | ⟨hk, c, hc, hcell⟩
  · exact wpAny_Name (wpAny_loadName_local I.ok.kind hk hn hm fin) hd
  · rcases hk with hk | hk
    · exact wpAny_Name (wpAny_loadName_cell I.ok.kind hk hc hcell fin) hd
    · exact wpAny_Name (wpAny_loadName_free I.ok.kind hk hc hcell fin hcd) hd
theorem pe_int {i j pos} : PE X (.Constant (.int i) j pos) (tC (.int i)) := fun _ _ _ H _ I h => wpAny_Constant_int ⟨.int i, H, I.tok _, ⟨_, rfl⟩, h⟩
theorem pe_bl {b j pos} : PE X (.Constant (.bool b) j pos) (tC (.bl b)) := fun _ _ _ H _ I h => Constant_bool ⟨.bl b, H, I, rfl, h⟩
theorem pe_non {j pos} : PE X (.Constant .none j pos) (tC .non) := fun _ _ _ H _ I h => Constant_none ⟨.non, H, I, rfl, h⟩
theorem pe_str {x j pos} : PE X (.Constant (.str x) j pos) (tC (.str x)) := fun _ _ _ H _ I h => Calls.Constant_str ⟨.str x, H, I.tok _, ⟨_, rfl⟩, h⟩

/-- a global name of the def -/
noncomputable def Gl (X : Cx) (x : Str) : Prop := X.env.kindOf x = some .globalImplicit
theorem ld_glob {E : Value → Shared → Prop} {pins : List (Addr × Obj)} {s : Shared} {σ : St} {H : Hp} {x : Str} {u : Value} {pos : Pos} {Q : Value → Shared → Prop} (I : Inv X pins σ H s) (hg : Gl X x) (hm : X.mg x = some u) (h : Q u s)
    (hd : (x == ("__debug__" : Str)) = false := by decide) : wpAny (model X.prog X.w) X.A (eval (.Name x pos) X.env) Q E s :=
  Calls.Name_function_global I.ok.kind hg (Calls.loadGlobal_global (by rw [I.ok.glob]; exact I.mod.glob.keeps I.bk) hm h) hd
theorem ld_blt {E : Value → Shared → Prop} {pins : List (Addr × Obj)} {s : Shared} {σ : St} {H : Hp} {x : Str} {u : Value} {pos : Pos} {Q : Value → Shared → Prop} (I : Inv X pins σ H s) (hg : Gl X x) (hm : X.mg x = none) (hv : bootBuiltins x = some u) (h : Q u s)
    (hn : x ≠ "__name__" := by decide) (hd : (x == ("__debug__" : Str)) = false := by decide) : wpAny (model X.prog X.w) X.A (eval (.Name x pos) X.env) Q E s := by
  obtain ⟨mb, h1, h2⟩ := I.mod.blt
  exact Calls.Name_function_global I.ok.kind hg (Calls.loadGlobal_builtin (by rw [I.ok.glob]; exact I.mod.glob.keeps I.bk) hm (by rw [I.ok.blt]; exact h1.keeps I.bk) ((h2 x hn).trans hv) h) hd
/-- a module's constant, a class, a function, as a value -/
theorem pe_glob {x : Str} {v : V} {u : Value} {pos : Pos} (hg : Gl X x) (hm : X.mg x = some u) (r : RelV v u) (hd : (x == ("__debug__" : Str)) = false := by decide) : PE X (.Name x pos) (tC v) :=
  fun _ _ _ H _ I h => ld_glob I hg hm ⟨v, H, I, r, h⟩ hd
theorem pe_bltn {x : Str} {v : V} {u : Value} {pos : Pos} (hg : Gl X x) (hm : X.mg x = none) (hv : bootBuiltins x = some u) (r : RelV v u) (hn : x ≠ "__name__" := by decide) (hd : (x == ("__debug__" : Str)) = false := by decide) : PE X (.Name x pos) (tC v) :=
  fun _ _ _ H _ I h => ld_blt I hg hm hv ⟨v, H, I, r, h⟩ hn hd

/-! ### arithmetic -/
variable {a b : Expr} {ta tb : TE} {pos : Pos}
/-! ### comparisons -/
noncomputable def PC (X : Cx) (op : CmpOp) (a b : Expr) (t : TE) : Prop :=
  ∀ (pins : List (Addr × Obj)) (s : Shared) (σ : St) (H : Hp) (Q : VK), Inv X pins σ H s → t σ H Q →
    wpAny (model X.prog X.w) X.A (eval a X.env) (fun v s₁ => wpAny (model X.prog X.w) X.A (eval b X.env) (fun u s₂ => wpAny (model X.prog X.w) X.A (compareOp op v u) (EP X pins σ Q) X.xe s₂) X.xe s₁) X.xe s
theorem nobehind (b : Expr) {op : CmpOp} (h : op ≠ .In) (h2 : op ≠ .NotIn) : behindInMarks op b = false := by
  have e1 : (op == CmpOp.In) = false := by cases op <;> first | rfl | exact absurd rfl h
  have e2 : (op == CmpOp.NotIn) = false := by cases op <;> first | rfl | exact absurd rfl h2
  cases b <;> simp [behindInMarks, e1, e2]
/-- a comparison as a value, as a test -/
noncomputable def tB (t : TE) : TT := fun σ H Q => t σ H fun x H1 => ∃ c, x = .bl c ∧ Q c H1
theorem pe_cmp {op : CmpOp} {t : TE} (h : PC X op a b t) (h1 : behindInMarks op b = false := by first | exact nobehind _ (by decide) (by decide) | rfl) : PE X (.Compare a [op] [b] pos) t := fun pins s σ H Q I hw => wpAny_Compare1 (h pins s σ H Q I hw) h1
theorem pt_cmp {op : CmpOp} {t : TE} (h : PC X op a b t) (h1 : behindInMarks op b = false := by first | exact nobehind _ (by decide) (by decide) | rfl) : PT X (.Compare a [op] [b] pos) (tB t) := by
  intro pins s σ H Q I hw
  refine wpAny_isTrue_Compare1 (thn (h pins s σ H _ I hw) fun v s1 h1 => thn h1 fun u s2 h2 => thn h2 fun c s3 ⟨x, H1, I1, r1, q1⟩ => ?_) h1
  obtain ⟨d, rfl, q⟩ := q1
  cases r1
  exact wpAny_truthy_bool ⟨H1, I1, q⟩
/-- an expression whose value is a bool, as a test -/
theorem pt_val {e : Expr} {t : TE} (h : PE X e t) (he : ∀ whole, isTrue e X.env whole = (do let v ← whole; standAt e.pos; holding [v] (truthy v)) := by intro _; rfl) : PT X e (tB t) := by
  intro pins s σ H Q I hw
  refine isTrue_plain (thn (h pins s σ H _ I hw) fun v s1 ⟨x, H1, I1, r1, q1⟩ => ?_) (he _)
  obtain ⟨d, rfl, q⟩ := q1
  cases r1
  exact wpAny_truthy_bool ⟨H1, I1, q⟩

/-! ### and, or, not -/
variable {tA tB' : TT} {rest : List Expr}
noncomputable def tAnd (t u : TT) : TT := fun σ H Q => t σ H fun c H1 => if c = true then u σ H1 Q else Q false H1
noncomputable def tOr (t u : TT) : TT := fun σ H Q => t σ H fun c H1 => if c = true then Q true H1 else u σ H1 Q
noncomputable def tNot (t : TT) : TT := fun σ H Q => t σ H fun c H1 => Q (!c) H1
theorem pw_and1 (ha : PT X a tA) : PW X (.BoolOp .And [a] pos) tA := by
  intro wh pins s σ H Q I h
  refine isTrue_and (thn (ha pins s σ H Q I h) fun c s1 e => ?_)
  cases c with
  | true => exact isTrue_and_nil e
  | false => exact e
theorem pw_or1 (ha : PT X a tA) : PW X (.BoolOp .Or [a] pos) tA := by
  intro wh pins s σ H Q I h
  refine isTrue_or (thn (ha pins s σ H Q I h) fun c s1 e => ?_)
  cases c with
  | false => exact isTrue_or_nil e
  | true => exact e
theorem pw_and (ha : PT X a tA) (hb : PW X (.BoolOp .And (b :: rest) pos) tB') : PW X (.BoolOp .And (a :: b :: rest) pos) (tAnd tA tB') := by
  intro wh pins s σ H Q I h
  refine isTrue_and (thn (ha pins s σ H _ I h) fun c s1 ⟨H1, I1, q1⟩ => ?_)
  cases c with
  | true => exact hb wh pins s1 σ H1 Q I1 q1
  | false => exact ⟨H1, I1, q1⟩
theorem pw_or (ha : PT X a tA) (hb : PW X (.BoolOp .Or (b :: rest) pos) tB') : PW X (.BoolOp .Or (a :: b :: rest) pos) (tOr tA tB') := by
  intro wh pins s σ H Q I h
  refine isTrue_or (thn (ha pins s σ H _ I h) fun c s1 ⟨H1, I1, q1⟩ => ?_)
  cases c with
  | true => exact ⟨H1, I1, q1⟩
  | false => exact hb wh pins s1 σ H1 Q I1 q1
theorem pt_not (ha : PT X a tA) : PT X (.UnaryOp .Not a pos) (tNot tA) := by
  intro pins s σ H Q I h
  exact isTrue_not (ha pins s σ H (fun c H1 => Q (!c) H1) I h)
/-- .. as values (bools) -/
noncomputable def tAndV (ta tb : TE) : TE := fun σ H Q => ta σ H fun x H1 => ∃ c, x = .bl c ∧ if c = true then tb σ H1 Q else Q (.bl false) H1
noncomputable def tNotV (ta : TE) : TE := fun σ H Q => ta σ H fun x H1 => ∃ c, x = .bl c ∧ Q (.bl (!c)) H1
theorem pe_one {op} {t : TE} (h : PE X a t) : PE X (.BoolOp op [a] pos) t := fun pins s σ H Q I hw => BoolOp_one (h pins s σ H Q I hw)
theorem pe_and (ha : PE X a ta) (hb : PE X (.BoolOp .And (b :: rest) pos) tb) : PE X (.BoolOp .And (a :: b :: rest) pos) (tAndV ta tb) := by
  intro pins s σ H Q I h
  refine BoolOp_and (thn (ha pins s σ H _ I h) fun v s1 ⟨x, H1, I1, r1, q1⟩ => ?_)
  obtain ⟨c, rfl, q1⟩ := q1
  cases r1
  refine wpAny_truthy_bool ?_
  cases c with
  | true => exact hb pins s1 σ H1 Q I1 q1
  | false => exact ⟨.bl false, H1, I1, rfl, q1⟩
theorem pe_not (ha : PE X a ta) : PE X (.UnaryOp .Not a pos) (tNotV ta) := by
  intro pins s σ H Q I h
  refine UnaryOp_ (thn (ha pins s σ H _ I h) fun v s1 ⟨x, H1, I1, r1, q1⟩ => ?_)
  obtain ⟨c, rfl, q1⟩ := q1
  cases r1
  exact not_of (wpAny_truthy_bool ⟨.bl (!c), H1, I1, rfl, q1⟩)
/-- a if t else b -/
noncomputable def tIf (t : TT) (ta tb : TE) : TE := fun σ H Q => t σ H fun c H1 => if c = true then ta σ H1 Q else tb σ H1 Q
theorem pe_ifExp {c : Expr} (hc : PT X c tA) (ha : PE X a ta) (hb : PE X b tb) : PE X (.IfExp c a b pos) (tIf tA ta tb) := by
  intro pins s σ H Q I h
  refine wpAny_IfExp (thn (hc pins s σ H _ I h) fun d s1 ⟨H1, I1, q1⟩ => ?_)
  cases d with
  | true => exact ha pins s1 σ H1 Q I1 q1
  | false => exact hb pins s1 σ H1 Q I1 q1
end
end L2

namespace L2
open PySem PySem.Spec PyProof.Rows

/-! ### a list, a tuple that is read: tracked, frozen, or an object of the module -/
noncomputable def SqL (K : PySem.W.Frag) (H : Hp) (a : Addr) (xs : List V) : Prop :=
  Rd H a (.lst xs) ∨
    ∃ (o : Obj) (its : Array Value) (n : Nat), K.lookup a = some o ∧ o.cls = .type "list" ∧ o.dict = none ∧ o.data = .seq its n ∧ its.size ≤ sizeLine ∧ Vals xs its.toList
noncomputable def SqT (K : PySem.W.Frag) (H : Hp) (a : Addr) (xs : List V) : Prop :=
  Rd H a (.tup xs) ∨
    ∃ (o : Obj) (its : Array Value) (n : Nat), K.lookup a = some o ∧ o.cls = .type "tuple" ∧ o.data = .seq its n ∧ its.size ≤ sizeLine ∧ Vals xs its.toList
noncomputable def absV : Value → Option V
  | .none => some .non
  | .bool b => some (.bl b)
  | .int i _ => some (.int i)
  | .str x _ => some (.str x)
  | .bytes b _ => some (.byt b)
  | .float b _ => some (.flt b)
  | .ref a => some (.ref a)
  | .type n => some (.ty n)
  | _ => none
theorem RelV.abs {x : V} {u : Value} (r : RelV x u) : absV u = some x := by
  cases x with
  | non => cases r; rfl
  | bl _ => cases r; rfl
  | int _ => obtain ⟨t, rfl⟩ := r; rfl
  | str _ => obtain ⟨t, rfl⟩ := r; rfl
  | byt _ => obtain ⟨t, rfl⟩ := r; rfl
  | flt _ => obtain ⟨t, rfl⟩ := r; rfl
  | ref _ => cases r; rfl
  | ty _ => cases r; rfl
theorem RelV.inj {x y : V} {u : Value} (r : RelV x u) (q : RelV y u) : x = y := Option.some.inj (r.abs.symm.trans q.abs)
theorem Vals.inj : ∀ {xs ys : List V} {us : List Value}, Vals xs us → Vals ys us → xs = ys
  | _, _, _, .nil, .nil => rfl
  | _, _, _, .cons r t, .cons r' t' => by rw [r.inj r', Vals.inj t t']
section
variable {X : Cx} {pins : List (Addr × Obj)} {σ : St} {H : Hp} {s : Shared} {a : Addr} {xs ys : List V}
theorem SqL.of {K : PySem.W.Frag} (h : H a = some (.lst xs)) : SqL K H a xs := .inl (.inl h)
theorem SqT.of {K : PySem.W.Frag} (h : H a = some (.tup xs)) : SqT K H a xs := .inl (.inl h)
theorem Inv.list (I : Inv X pins σ H s) (h : SqL X.K H a xs) : ∃ its : List Value, Vals xs its ∧ PlainL s.heap a its.toArray ∧ xs.length ≤ sizeLine := by
  rcases h with h | ⟨o, its, n, hk, hc, hd, hs, hz, r⟩
  · obtain ⟨z, its, n, r, e⟩ := h.ok I.hok
    exact ⟨its, r, ⟨_, n, e, rfl, rfl, rfl⟩, z⟩
  · refine ⟨its.toList, r, ⟨o, n, I.kIn a o hk, hc, hd, by simpa using hs⟩, ?_⟩
    have e := r.length
    simp only [Array.length_toList] at e
    omega
theorem Inv.tuple (I : Inv X pins σ H s) (h : SqT X.K H a xs) : ∃ its : List Value, Vals xs its ∧ IsTup s.heap a its.toArray ∧ xs.length ≤ sizeLine := by
  rcases h with h | ⟨o, its, n, hk, hc, hs, hz, r⟩
  · obtain ⟨z, its, r, p, _⟩ := h.ok I.hok
    exact ⟨its, r, p, z⟩
  · refine ⟨its.toList, r, ⟨o, I.kIn a o hk, hc, n, by simpa using hs⟩, ?_⟩
    have e := r.length
    simp only [Array.length_toList] at e
    omega
theorem Inv.list_inj (I : Inv X pins σ H s) (h : SqL X.K H a xs) (h' : SqL X.K H a ys) : xs = ys := by
  obtain ⟨its, r, ⟨o, n, e, _, _, d⟩, _⟩ := I.list h
  obtain ⟨its', r', ⟨o', n', e', _, _, d'⟩, _⟩ := I.list h'
  rw [e] at e'; cases e'
  rw [d] at d'
  injection d' with d1 _
  have : its = its' := by simpa using congrArg Array.toList d1
  subst this
  exact r.inj r'
theorem Inv.tuple_inj (I : Inv X pins σ H s) (h : SqT X.K H a xs) (h' : SqT X.K H a ys) : xs = ys := by
  obtain ⟨its, r, ⟨o, e, _, n, d⟩, _⟩ := I.tuple h
  obtain ⟨its', r', ⟨o', e', _, n', d'⟩, _⟩ := I.tuple h'
  rw [e] at e'; cases e'
  rw [d] at d'
  injection d' with d1 _
  have : its = its' := by simpa using congrArg Array.toList d1
  subst this
  exact r.inj r'
end

/-! ### another wish about exceptions -/
abbrev Cx.wish (X : Cx) (E : Value → Shared → Prop) : Cx := { X with xe := E }
/-- no exception leaves -/
abbrev Cx.nox (X : Cx) : Cx := X.wish fun _ _ => False
theorem Cx.Ok.wish {X : Cx} (ok : X.Ok) (E : Value → Shared → Prop) : (X.wish E).Ok :=
  ⟨ok.mod, ok.kind, ok.glob, ok.blt, ok.above, ok.inj, ok.has, ok.cab, ok.hd, ok.frames, ok.stk, ok.exf, ok.bs, ok.bsz, ok.noex, ok.exfs, ok.funs, ok.frf⟩
theorem Cx.Ok.unwish {X : Cx} {E : Value → Shared → Prop} (ok : (X.wish E).Ok) : X.Ok :=
  ⟨ok.mod, ok.kind, ok.glob, ok.blt, ok.above, ok.inj, ok.has, ok.cab, ok.hd, ok.frames, ok.stk, ok.exf, ok.bs, ok.bsz, ok.noex, ok.exfs, ok.funs, ok.frf⟩
section
variable {X : Cx} {pins : List (Addr × Obj)} {σ : St} {H : Hp} {s : Shared} {E : Value → Shared → Prop}
theorem Inv.wish (I : Inv X pins σ H s) (E : Value → Shared → Prop) : Inv (X.wish E) pins σ H s := ⟨I.ok.wish E, I.os, I.bare, I.base, I.loc, I.cell, I.free, I.freeC, I.pin, I.hok, I.len⟩
theorem Inv.unwish (I : Inv (X.wish E) pins σ H s) : Inv X pins σ H s := ⟨I.ok.unwish, I.os, I.bare, I.base, I.loc, I.cell, I.free, I.freeC, I.pin, I.hok, I.len⟩
theorem SP.unwish {D : Ends} {f : Flow} {s' : Shared} (h : SP (X.wish E) pins D f s') : SP X pins D f s' := by
  cases f with
  | next => obtain ⟨σ', H', I, q⟩ := h; exact ⟨σ', H', I.unwish, q⟩
  | brk => obtain ⟨σ', H', I, q⟩ := h; exact ⟨σ', H', I.unwish, q⟩
  | cont => obtain ⟨σ', H', I, q⟩ := h; exact ⟨σ', H', I.unwish, q⟩
  | ret u => obtain ⟨v, σ', H', I, r, q⟩ := h; exact ⟨v, σ', H', I.unwish, r, q⟩
theorem PE.nox {e : Expr} {t : TE} (h : PE X.nox e t) : PE X e t := fun pins s σ H Q I hw =>
  wpAny_mono (h pins s σ H Q (I.wish _) hw) (fun _ _ ⟨v, H', I', r, q⟩ => ⟨v, H', I'.unwish, r, q⟩) fun _ _ z => False.elim z
theorem PT.nox {e : Expr} {t : TT} (h : PT X.nox e t) : PT X e t := fun pins s σ H Q I hw =>
  wpAny_mono (h pins s σ H Q (I.wish _) hw) (fun _ _ ⟨H', I', q⟩ => ⟨H', I'.unwish, q⟩) fun _ _ z => False.elim z
theorem PSs.nox {st : List Stmt} {t : TS} (h : PSs X.nox st t) : PSs X st t := fun pins s σ H D I hw =>
  wpAny_mono (h pins s σ H D (I.wish _) hw) (fun _ _ q => q.unwish) fun _ _ z => False.elim z
end

/-! ### blocks and small statements -/
section
variable {X : Cx} {st : Stmt} {rest : List Stmt} {t u : TS} {e : Expr} {te : TE} {pos : Pos}
noncomputable def tNext : TS := fun D σ H => D.nx σ H
noncomputable def tSeq (t u : TS) : TS := fun D σ H => t { D with nx := u D } σ H
theorem pss_nil : PSs X [] tNext := fun _ _ σ H _ I h => wpAny_execs_nil ⟨σ, H, I, h⟩
theorem pss_cons (h1 : PS X st t) (h2 : PSs X rest u) : PSs X (st :: rest) (tSeq t u) := by
  intro pins s σ H D I h
  refine wpAny_execs_cons (thn (h1 pins s σ H { D with nx := u D } I h) fun f s1 q => ?_)
  cases f with
  | next =>
    obtain ⟨σ', H', I', q⟩ := q
    exact h2 pins s1 σ' H' D I' q
  | ret v => exact q
  | brk => exact q
  | cont => exact q
theorem pss_one (h1 : PS X st t) : PSs X [st] t := by
  intro pins s σ H D I h
  refine wpAny_execs_cons (thn (h1 pins s σ H D I h) fun f s1 q => ?_)
  cases f with
  | next => exact wpAny_execs_nil q
  | ret v => exact q
  | brk => exact q
  | cont => exact q
noncomputable def tBreak : TS := fun D σ H => D.bk σ H
theorem ps_break : PS X (.Break pos) tBreak := fun _ _ σ H _ I h => wpAny_Break ⟨σ, H, I, h⟩
/-- in a def's body nothing is shown -/
theorem Inv.quiet {pins : List (Addr × Obj)} {σ : St} {H : Hp} {s : Shared} (I : Inv X pins σ H s) : interactive X.env = false := by simp [interactive, I.ok.kind]
/-- an expression whose value is dropped -/
noncomputable def tDrop (te : TE) : TS := fun D σ H => te σ H fun _ H1 => D.nx σ H1
theorem ps_expr (he : PE X e te) (hs : swapsWith e none pos.line X.env = pure false := by rfl) : PS X (.Expr e pos) (tDrop te) := by
  intro pins s σ H D I h
  exact wpAny_Expr_any (thn (he pins s σ H _ I h) fun v s1 ⟨x, H1, I1, r1, q1⟩ => ⟨σ, H1, I1, q1⟩) I.quiet hs
noncomputable def tRet (te : TE) : TS := fun D σ H => te σ H D.rt
theorem ps_ret (he : PE X e te) : PS X (.Return (some e) pos) (tRet te) := by
  intro pins s σ H D I h
  exact wpAny_Return_some (thn (he pins s σ H _ I h) fun v s1 ⟨x, H1, I1, r1, q1⟩ => ⟨x, σ, H1, I1, r1, q1⟩)
noncomputable def tIfS (c : TT) (t u : TS) : TS := fun D σ H => c σ H fun b H1 => if b = true then t D σ H1 else u D σ H1
theorem ps_if {c : Expr} {a b : List Stmt} {tc : TT} (hc : PT X c tc) (ha : PSs X a t) (hb : PSs X b u) : PS X (.If c a b pos) (tIfS tc t u) := by
  intro pins s σ H D I h
  refine wpAny_If (thn (hc pins s σ H _ I h) fun d s1 ⟨H1, I1, q1⟩ => ?_)
  cases d with
  | true => exact ha pins s1 σ H1 D I1 q1
  | false => exact hb pins s1 σ H1 D I1 q1
/-- code that the proof never comes to -/
noncomputable def tNever : TS := fun _ _ _ => False
theorem ps_never : PS X st tNever := fun _ _ _ _ _ _ h => h.elim
end

/-! ### targets -/
abbrev TG := V → St → Hp → (St → Hp → Prop) → Prop
abbrev TGs := List V → St → Hp → (St → Hp → Prop) → Prop
noncomputable def PG (X : Cx) (target : Expr) (t : TG) : Prop :=
  ∀ (pins : List (Addr × Obj)) (s : Shared) (σ : St) (H : Hp) (v : V) (u : Value) (Q : St → Hp → Prop), Inv X pins σ H s → RelV v u → t v σ H Q →
    wpAny (model X.prog X.w) X.A (assign target X.env u) (fun _ s' => ∃ σ' H', Inv X pins σ' H' s' ∧ Q σ' H') X.xe s
/-- several targets, one after another -/
noncomputable def PGs (X : Cx) (ts : List Expr) (t : TGs) : Prop :=
  ∀ (pins : List (Addr × Obj)) (s : Shared) (σ : St) (H : Hp) (vs : List V) (us : List Value) (Q : St → Hp → Prop), Inv X pins σ H s → Vals vs us → t vs σ H Q →
    wpAny (model X.prog X.w) X.A (assignInOrder ((assignEach ts X.env).map (·.2)) us) (fun _ s' => ∃ σ' H', Inv X pins σ' H' s' ∧ Q σ' H') X.xe s
/-- o[i] = v, by values -/
abbrev TSet := V → V → V → Hp → (Hp → Prop) → Prop
noncomputable def PSet (X : Cx) (t : TSet) : Prop :=
  ∀ (pins : List (Addr × Obj)) (s : Shared) (σ : St) (H : Hp) (o i v : V) (ov iv u : Value) (Q : Hp → Prop), Inv X pins σ H s → RelV o ov → RelV i iv → RelV v u → t o i v H Q →
    wpAny (model X.prog X.w) X.A (setItem ov iv u) (fun _ s' => ∃ H', Inv X pins σ H' s' ∧ Q H') X.xe s
section
variable {X : Cx} {pos : Pos}
noncomputable def gName (i : Nat) : TG := fun v σ H Q => Q (σ.set i (some v)) H
theorem pg_name {i : Nat} {x : Str} (hN : X.N.Nodup) (hi : X.N[i]? = some x) (hx : Loc X.env.scope x) (hf : X.fn x = true ∨ X.env.scope.names.lookup x = some .local := by first | exact .inl rfl | exact .inr rfl | assumption) : PG X (.Name x pos) (gName i) := by
  intro pins s σ H v u Q I r h
  exact wpAny_assign_Name (store_ok I hN hi hx r (fun s' I' => ⟨_, H, I', h⟩) hf)
noncomputable def gNil : TGs := fun vs σ H Q => vs = [] ∧ Q σ H
noncomputable def gCons (t : TG) (u : TGs) : TGs := fun vs σ H Q => ∃ v r, vs = v :: r ∧ t v σ H fun σ' H' => u r σ' H' Q
theorem pgs_nil : PGs X [] gNil := by
  intro pins s σ H vs us Q I r h
  obtain ⟨e, h⟩ := h
  subst e
  cases r
  exact assignInOrder_nil ⟨σ, H, I, h⟩
theorem pgs_cons {e : Expr} {es : List Expr} {t : TG} {u : TGs} (h1 : PG X e t) (h2 : PGs X es u)
    (hs : (assignEach (e :: es) X.env).map (·.2) = assign e X.env :: (assignEach es X.env).map (·.2) := by rfl) : PGs X (e :: es) (gCons t u) := by
  intro pins s σ H vs us Q I r h
  obtain ⟨v, vr, e1, h⟩ := h
  subst e1
  cases r with
  | cons r rr =>
    rw [hs]
    refine assignInOrder_cons (thn (h1 pins s σ H _ _ _ I r h) fun _ s1 ⟨σ1, H1, I1, q1⟩ => ?_)
    exact h2 pins s1 σ1 H1 _ _ Q I1 rr q1
/-- (a, b, ..) = a tuple of that length -/
noncomputable def gTup (K : PySem.W.Frag) (n : Nat) (t : TGs) : TG := fun v σ H Q => ∃ a xs, v = .ref a ∧ SqT K H a xs ∧ xs.length = n ∧ t xs σ H Q
theorem pg_tup {es : List Expr} {k : Nat} {t : TGs} {n : Nat} (hc : X.calm = true) (h : PGs X es t)
    (hn : (assignEach es X.env).length = n := by rfl) (hst : (assignEach es X.env).findIdx? (·.1) = none := by rfl) : PG X (.Tuple es k pos) (gTup X.K n t) := by
  intro pins s σ H v u Q I r hw
  obtain ⟨a, xs, e1, hq, hl, hw⟩ := hw
  subst e1
  cases r
  obtain ⟨its, rv, ht, hz⟩ := I.tuple hq
  refine assign_Tuple_tuple (I.ok.hd hc) ht (by simp [hn, ← hl, rv.length]) hst fun h' hx => ?_
  have I1 : Inv X pins σ H { s with heap := h' } := I.kept (t' := s.toks) fun b o e => hx b o (Nat.ne_of_lt (Heap.lt_size e)) e
  exact h pins _ σ H xs _ Q I1 (by simpa using rv) hw
/-- o[i] = .. -/
noncomputable def gSub (to ti : TE) (t : TSet) : TG := fun v σ H Q => to σ H fun o H1 => ti σ H1 fun i H2 => t o i v H2 fun H3 => Q σ H3
theorem pg_sub {o i : Expr} {to ti : TE} {t : TSet} (ho : PE X o to) (hi : PE X i ti) (hs : PSet X t)
    (ha : ∀ v, assign (.Subscript o i pos) X.env v = (do
      let ov ← holding [v] (eval o X.env)
      let iv ← holding [v, ov] (eval i X.env)
      standAt pos
      holding [v, ov, iv] (setItem ov iv v)
      release [v, ov, iv] []) := by intro _; rfl) : PG X (.Subscript o i pos) (gSub to ti t) := by
  intro pins s σ H v u Q I r h
  rw [ha]
  refine wpAny_bind (wpAny_holding (thn (ho pins s σ H _ I h) fun ov s1 ⟨x, H1, I1, r1, q1⟩ => ?_))
  refine wpAny_bind (wpAny_holding (thn (hi pins s1 σ H1 _ I1 q1) fun iv s2 ⟨y, H2, I2, r2, q2⟩ => ?_))
  refine wpAny_bind (wpAny_standAt (wpAny_bind (wpAny_holding (thn (hs pins s2 σ H2 x y v ov iv u _ I2 r1 r2 r q2) fun _ s3 ⟨H3, I3, q3⟩ => ?_))))
  exact wpAny_release ⟨σ, H3, I3, q3⟩
/-- target = value -/
noncomputable def tAsg (te : TE) (g : TG) : TS := fun D σ H => te σ H fun x H1 => g x σ H1 D.nx
theorem ps_asg {tg e : Expr} {te : TE} {g : TG} (he : PE X e te) (hg : PG X tg g) (hs : swapsWithSole [tg] e pos.line X.env = pure false := by rfl) (hw : swappedStores [tg] e X.env = pure none := by rfl)
    (h1 : (assignEach [tg] X.env).map (·.2) = [assign tg X.env] := by rfl) : PS X (.Assign [tg] e pos) (tAsg te g) := by
  intro pins s σ H D I h
  refine wpAny_Assign_stores (thn (he pins s σ H _ I h) fun v s1 ⟨x, H1, I1, r1, q1⟩ => ?_) hs hw
  rw [h1]
  exact thn (hg pins s1 σ H1 x v _ I1 r1 q1) fun _ s2 q => q
/-- name = value -/
theorem ps_set {i : Nat} {x : Str} {e : Expr} {te : TE} {pos' : Pos} (hN : X.N.Nodup) (hi : X.N[i]? = some x) (hx : Loc X.env.scope x) (he : PE X e te) (hs : swapsWith e (some (.Name x pos')) pos.line X.env = pure false := by rfl) (hf : X.fn x = true ∨ X.env.scope.names.lookup x = some .local := by first | exact .inl rfl | exact .inr rfl | assumption) :
    PS X (.Assign [.Name x pos'] e pos) (tAsg te (gName i)) := by
  intro pins s σ H D I h
  refine wpAny_Assign_Name (thn (he pins s σ H _ I h) fun v s1 ⟨y, H1, I1, r1, q1⟩ => ?_) hs
  exact store_ok I1 hN hi hx r1 (fun s2 I2 => ⟨_, H1, I2, q1⟩) hf
end

/-! ### while -/
section
variable {X : Cx} {pos : Pos}
/-- the invariant W with its measure -/
noncomputable def tWhile (c : TT) (tb : TS) : TS := fun D σ H => ∃ W : Nat → St → Hp → Prop, (∃ m, W m σ H) ∧ ∀ m σ H, W m σ H →
  c σ H fun b H1 => if b = true then ∃ N : St → Hp → Prop, (∀ σ' H', N σ' H' → ∃ m', m' < m ∧ W m' σ' H') ∧ tb { D with nx := N, ct := N, bk := D.nx } σ H1 else D.nx σ H1
theorem ps_while {c : Expr} {body : List Stmt} {tc : TT} {tb : TS} (hp : PassesOwn (model X.prog X.w) X.A X.env X.xe) (hc : PT X c tc) (hb : PSs X body tb) : PS X (.While c body [] pos) (tWhile tc tb) := by
  intro pins s σ H D I h
  obtain ⟨W, ⟨m0, w0⟩, turn⟩ := h
  refine wpAny_While (codeAny_whileLoop (fun n s' => ∃ σ' H', Inv X pins σ' H' s' ∧ W n σ' H') ?_ m0 ⟨σ, H, I, w0⟩)
  rintro n s1 ⟨σ1, H1, I1, w1⟩
  refine wpAny_passesOwn hp (thn (hc pins s1 σ1 H1 _ I1 (turn n σ1 H1 w1)) fun b s2 ⟨H2, I2, q2⟩ => ?_)
  cases b with
  | true =>
    obtain ⟨N, hN, q2⟩ := q2
    rw [if_pos rfl]
    refine wpAny_passesOwn hp (thn (hb pins s2 σ1 H2 _ I2 q2) fun f s3 q3 => ?_)
    cases f with
    | next =>
      obtain ⟨σ3, H3, I3, n3⟩ := q3
      obtain ⟨m', hm, w3⟩ := hN σ3 H3 n3
      exact ⟨m', hm, σ3, H3, I3, w3⟩
    | cont =>
      obtain ⟨σ3, H3, I3, n3⟩ := q3
      obtain ⟨m', hm, w3⟩ := hN σ3 H3 n3
      exact ⟨m', hm, σ3, H3, I3, w3⟩
    | brk => exact q3
    | ret v => exact q3
  | false =>
    rw [if_neg Bool.false_ne_true]
    exact wpAny_execs_nil ⟨σ1, H2, I2, q2⟩
end

/-! ### what a loop or a comprehension walks -/
/-- at turn i: it yields x (the heap may grow), or it stops -/
structure It where
  go : Nat → Hp → Prop
  yld : Nat → Hp → V → Hp → Prop
  stop : Nat → Hp → Prop
/-- the iterator's own objects may turn: they are not the frame's, not pinned, younger than the entry (or a comprehension's own) -/
noncomputable def FpOk (X : Cx) (pins : List (Addr × Obj)) (H : Hp) (b : Addr) : Prop :=
  H b = none ∧ b ≠ X.env.locals ∧ b ∉ X.fs ∧ (b ∈ X.ex ∨ X.s₀.heap.objs.size ≤ b) ∧ (∀ x c, X.env.cells.lookup x = some c → c ≠ b) ∧ ∀ p ∈ X.pn ++ pins, p.1 ≠ b
theorem Inv.fpOk {X : Cx} {pins : List (Addr × Obj)} {σ : St} {H H' : Hp} {s : Shared} {b : Addr} (I : Inv X pins σ H s) (hb : s.heap.objs.size ≤ b) (hn : H' b = none) : FpOk X pins H' b := by
  refine ⟨hn, Nat.ne_of_gt (Nat.lt_of_lt_of_le I.lt hb), I.nofs hb, .inr (Nat.le_trans I.sz hb), fun x c e z => ?_, fun p hp z => ?_⟩
  · obtain ⟨v, q⟩ := I.cell x c e
    exact absurd (Nat.lt_of_lt_of_le q.lt (by rw [z]; exact hb)) (Nat.lt_irrefl _)
  · exact absurd (Nat.lt_of_lt_of_le (Heap.lt_size (I.pin p hp).1) (by rw [z]; exact hb)) (Nat.lt_irrefl _)
structure Turn (P : Program) (w : World) (K : PySem.W.Frag) (tg : Expr) (J : It) (fp : List Addr) (it : Addr) (tn : Nat → Heap → Prop) : Prop where
  mem : it ∈ fp
  obj : ∀ i h, tn i h → ∀ b ∈ fp, ∃ o, h.get? b = some o ∧ ∀ v, o.data ≠ .cell v
  keep : ∀ i h h', tn i h → (∀ b ∈ fp, ∀ o, h.get? b = some o → h'.get? b = some o) → tn i h'
  item : ∀ (X : Cx), X.prog = P → X.w = w → X.K = K → X.calm = true → ∀ (i : Nat) (pins : List (Addr × Obj)) (s : Shared) (σ : St) (H : Hp) (E : Value → Shared → Prop), Inv X pins σ H s → (∀ b ∈ fp, FpOk X pins H b) → tn i s.heap → J.go i H →
    wpAny (model P w) X.A (pyNext (.ref it)) (fun r s1 => ∃ u, r = some u ∧
      wpAny (model P w) X.A (letOwnedTupleGo tg (.ref it) u) (fun _ s2 => ∃ x H', Inv X pins σ H' s2 ∧ RelV x u ∧ J.yld i H x H' ∧ tn (i + 1) s2.heap ∧ ∀ b ∈ fp, H' b = none) E s1) E s
  done : ∀ (X : Cx), X.prog = P → X.w = w → X.K = K → X.calm = true → ∀ (i : Nat) (pins : List (Addr × Obj)) (s : Shared) (σ : St) (H : Hp) (E : Value → Shared → Prop), Inv X pins σ H s → (∀ b ∈ fp, FpOk X pins H b) → tn i s.heap → J.stop i H →
    wpAny (model P w) X.A (pyNext (.ref it)) (fun r s1 => r = none ∧ Inv X pins σ H s1) E s
  self : ∀ (A : Around) (i : Nat) (s : Shared) (Q : Value → Shared → Prop) (E : Value → Shared → Prop), tn i s.heap → Q (.ref it) s → wpAny (model P w) A (pyIter (.ref it)) Q E s
abbrev TI := St → Hp → (It → Hp → Prop) → Prop
/-- an iterator has come -/
noncomputable def PIE (X : Cx) (pins : List (Addr × Obj)) (σ : St) (tg : Expr) (R : It → Hp → Prop) (itv : Value) (s2 : Shared) : Prop :=
  ∃ (it : Addr) (fp : List Addr) (tn : Nat → Heap → Prop) (J : It) (H' : Hp), itv = .ref it ∧ Inv X pins σ H' s2 ∧ Turn X.prog X.w X.K tg J fp it tn ∧ tn 0 s2.heap ∧ (∀ b ∈ fp, FpOk X pins H' b) ∧ R J H'
noncomputable def PI (X : Cx) (tg iter : Expr) (wi : TI) : Prop :=
  ∀ (pins : List (Addr × Obj)) (s : Shared) (σ : St) (H : Hp) (R : It → Hp → Prop), Inv X pins σ H s → wi σ H R →
    wpAny (model X.prog X.w) X.A (eval iter X.env) (fun v s1 => wpAny (model X.prog X.w) X.A (pyIter v) (PIE X pins σ tg R) X.xe s1) X.xe s

/-- the step ahead of the store is nothing for an iterator that keeps no tuple -/
theorem go_of {M : Model} {A : Around} {E : Value → Shared → Prop} {s : Shared} {tg : Expr} {it : Addr} {u : Value} {o : Obj} {n : String} {vs : Array Value} {Q : Unit → Shared → Prop} (ho : s.heap.get? it = some o) (hc : o.cls = .type n) (hd : o.data = .fields vs)
    (hn : ["enumerate", "zip", "dict_itemiterator", "dict_reverseitemiterator", "odict_iterator", "itertools.zip_longest", "itertools.pairwise"].contains n = false) (hQ : Q () s) : wpAny M A (letOwnedTupleGo tg (.ref it) u) Q E s := by
  unfold letOwnedTupleGo
  cases tg <;> first
    | exact wpAny_pure hQ
    | (cases u <;> first
        | exact wpAny_pure hQ
        | (refine wpAny_bind (wpAny_load ho ?_)
           rw [hc, hd]
           show wpAny M A (if (["enumerate", "zip", "dict_itemiterator", "dict_reverseitemiterator", "odict_iterator", "itertools.zip_longest", "itertools.pairwise"].contains n && vs[0]? == some (rawInt _)) = true then _ else _) Q E s
           rw [if_neg (by intro h; rw [hn, Bool.false_and] at h; cases h)]
           exact wpAny_pure hQ))

/-- the list at a, as it stands at each turn (a loop may append to it) -/
noncomputable def Itl (K : PySem.W.Frag) (a : Addr) : It :=
  ⟨fun i H => ∃ xs x, SqL K H a xs ∧ xs[i]? = some x, fun i H x H' => H' = H ∧ ∀ xs, SqL K H a xs → xs[i]? = some x, fun i H => ∃ xs, SqL K H a xs ∧ xs.length ≤ i⟩
noncomputable def Itt (K : PySem.W.Frag) (a : Addr) : It :=
  ⟨fun i H => ∃ xs x, SqT K H a xs ∧ xs[i]? = some x, fun i H x H' => H' = H ∧ ∀ xs, SqT K H a xs → xs[i]? = some x, fun i H => ∃ xs, SqT K H a xs ∧ xs.length ≤ i⟩
/-- lo, lo + 1, .. (n of them) -/
noncomputable def Itr (lo : Int) (n : Nat) : It := ⟨fun i _ => i < n, fun i H x H' => H' = H ∧ x = .int (lo + i), fun i _ => n ≤ i⟩
theorem turn_list {P : Program} {w : World} {K : PySem.W.Frag} {tg : Expr} (a it : Addr) : Turn P w K tg (Itl K a) [it] it (fun i h => h.IsListIter it a i) where
  mem := by simp
  obj := fun i h st b hb => by
    have e : b = it := by simpa using hb
    subst e
    obtain ⟨o, e, c, d⟩ := st
    exact ⟨o, e, fun v z => by rw [d] at z; cases z⟩
  keep := fun i h h' st k => st.at fun o e => k it (by simp) o e
  item := by
    intro X hP hw hK hc i pins s σ H E I hf st hg
    subst hP hw hK
    obtain ⟨xs, x, hq, hx⟩ := hg
    obtain ⟨its, rv, p, hz⟩ := I.list hq
    obtain ⟨u, hu, ru⟩ := rv.get hx
    obtain ⟨f0, f1, f2, f3, f4, f5⟩ := hf it (by simp)
    refine wpAny_pyNext_list_item st p.isList (x := u) (by simpa using hu) fun h' st' sb => ?_
    have I1 : Inv X pins σ H { s with heap := h' } := I.turned (t' := s.toks) (fun b o hb e => (sb.2 b hb).trans e) f0 f1 f3 f4 f5
    obtain ⟨o, e, c, d⟩ := id st'
    exact ⟨u, rfl, go_of (s := { s with heap := h' }) e c d (by decide) ⟨x, H, I1, ru, ⟨rfl, fun ys hy => by rw [I.list_inj hy hq]; exact hx⟩, st', fun b hb => (hf b hb).1⟩⟩
  done := by
    intro X hP hw hK hc i pins s σ H E I hf st hg
    subst hP hw hK
    obtain ⟨xs, hq, hx⟩ := hg
    obtain ⟨its, rv, p, hz⟩ := I.list hq
    obtain ⟨f0, f1, f2, f3, f4, f5⟩ := hf it (by simp)
    have hl := rv.length
    exact wpAny_pyNext_list_end (I.ok.hd hc) st p.isList (by simp; omega) fun h' eb => ⟨rfl, I.turned (t' := s.toks) (fun b o hb e => eb b o hb e) f0 f1 f3 f4 f5⟩
  self := fun _ _ _ _ _ st h => wpAny_pyIter_listiter st h
theorem turn_tuple {P : Program} {w : World} {K : PySem.W.Frag} {tg : Expr} (a it : Addr) : Turn P w K tg (Itt K a) [it] it (fun i h => h.IsTupleIter it a i) where
  mem := by simp
  obj := fun i h st b hb => by
    have e : b = it := by simpa using hb
    subst e
    obtain ⟨o, e, c, d⟩ := st
    exact ⟨o, e, fun v z => by rw [d] at z; cases z⟩
  keep := fun i h h' st k => st.at fun o e => k it (by simp) o e
  item := by
    intro X hP hw hK hc i pins s σ H E I hf st hg
    subst hP hw hK
    obtain ⟨xs, x, hq, hx⟩ := hg
    obtain ⟨its, rv, p, hz⟩ := I.tuple hq
    obtain ⟨u, hu, ru⟩ := rv.get hx
    obtain ⟨f0, f1, f2, f3, f4, f5⟩ := hf it (by simp)
    refine wpAny_pyNext_tuple_item st (show s.heap.IsTuple a its.toArray from p) (x := u) (by simpa using hu) fun h' st' sb => ?_
    have I1 : Inv X pins σ H { s with heap := h' } := I.turned (t' := s.toks) (fun b o hb e => (sb.2 b hb).trans e) f0 f1 f3 f4 f5
    obtain ⟨o, e, c, d⟩ := id st'
    exact ⟨u, rfl, go_of (s := { s with heap := h' }) e c d (by decide) ⟨x, H, I1, ru, ⟨rfl, fun ys hy => by rw [I.tuple_inj hy hq]; exact hx⟩, st', fun b hb => (hf b hb).1⟩⟩
  done := by
    intro X hP hw hK hc i pins s σ H E I hf st hg
    subst hP hw hK
    obtain ⟨xs, hq, hx⟩ := hg
    obtain ⟨its, rv, p, hz⟩ := I.tuple hq
    obtain ⟨f0, f1, f2, f3, f4, f5⟩ := hf it (by simp)
    have hl := rv.length
    exact wpAny_pyNext_tuple_end (I.ok.hd hc) st (show s.heap.IsTuple a its.toArray from p) (by simp; omega) fun h' eb => ⟨rfl, I.turned (t' := s.toks) (fun b o hb e => eb b o hb e) f0 f1 f3 f4 f5⟩
  self := fun _ _ _ _ _ st h => wpAny_pyIter_tupleiter st h
theorem turn_range {P : Program} {w : World} {K : PySem.W.Frag} {tg : Expr} (it : Addr) (lo : Int) (n : Nat) : Turn P w K tg (Itr lo n) [it] it (fun i h => IsRangeIter h it (lo + (i : Nat) * 1) ((n : Int) - (i : Nat)) 1) where
  mem := by simp
  obj := fun i h st b hb => by
    have e : b = it := by simpa using hb
    subst e
    exact ⟨_, st, fun v z => by
      have z' : Data.fields _ = Data.cell v := z
      cases z'⟩
  keep := fun i h h' st k => k it (by simp) _ st
  item := by
    intro X hP hw hK hc i pins s σ H E I hf st hg
    subst hP hw hK
    obtain ⟨f0, f1, f2, f3, f4, f5⟩ := hf it (by simp)
    have W := Walks.range (prog := X.prog) (w := X.w) (I.ok.hd hc) it lo 1 n
    refine W.item i s _ _ hg st fun v h' tk hv st' kk => ?_
    obtain ⟨t, rfl⟩ := hv
    have I1 : Inv X pins σ H { s with heap := h', toks := tk } := I.turned (fun b o hb e => kk b o (by simpa using hb) e) f0 f1 f3 f4 f5
    refine ⟨_, rfl, go_of (s := { s with heap := h', toks := tk }) (n := "range_iterator") st' rfl rfl (by decide) ⟨.int (lo + i), H, I1, ⟨t, ?_⟩, ⟨rfl, rfl⟩, st', fun b hb => (hf b hb).1⟩⟩
    rw [Int.mul_one]
  done := by
    intro X hP hw hK hc i pins s σ H E I hf st hg
    subst hP hw hK
    obtain ⟨f0, f1, f2, f3, f4, f5⟩ := hf it (by simp)
    exact wpAny_pyNext_range_end (I.ok.hd hc) st (by have : n ≤ i := hg; omega) fun h' eb => ⟨rfl, I.turned (t' := s.toks) (fun b o hb e => eb b o hb e) f0 f1 f3 f4 f5⟩
  self := fun _ _ _ _ _ st h => wpAny_pyIter_rangeiter st h
end L2

namespace L2
open PySem PySem.Spec PyProof.Rows
section
variable {X : Cx} {tg : Expr}
noncomputable def iList (K : PySem.W.Frag) (tl : TE) : TI := fun σ H R => tl σ H fun x H1 => ∃ a, x = .ref a ∧ (∃ xs, SqL K H1 a xs) ∧ R (Itl K a) H1
noncomputable def iTup (K : PySem.W.Frag) (tl : TE) : TI := fun σ H R => tl σ H fun x H1 => ∃ a, x = .ref a ∧ (∃ xs, SqT K H1 a xs) ∧ R (Itt K a) H1
theorem pi_list {l : Expr} {tl : TE} (hl : PE X l tl) : PI X tg l (iList X.K tl) := by
  intro pins s σ H R I h
  refine thn (hl pins s σ H _ I h) fun v s1 ⟨x, H1, I1, r1, q1⟩ => ?_
  obtain ⟨a, e, ⟨xs, hq⟩, q⟩ := q1
  subst e
  cases r1
  obtain ⟨its, rv, p, hz⟩ := I1.list hq
  refine wpAny_pyIter_list p.isList ?_
  refine ⟨s1.heap.objs.size, [s1.heap.objs.size], _, _, H1, rfl, I1.kept (t' := s1.toks) fun b o e => Heap.get?_push_of_some _ e, turn_list a _, ⟨_, Heap.get?_push_size _ rfl, rfl, rfl⟩, fun b hb => ?_, q⟩
  have e : b = s1.heap.objs.size := by simpa using hb
  subst e
  exact I1.fpOk (Nat.le_refl _) (I1.hok.fresh (Nat.le_refl _))
theorem pi_tup {l : Expr} {tl : TE} (hl : PE X l tl) : PI X tg l (iTup X.K tl) := by
  intro pins s σ H R I h
  refine thn (hl pins s σ H _ I h) fun v s1 ⟨x, H1, I1, r1, q1⟩ => ?_
  obtain ⟨a, e, ⟨xs, hq⟩, q⟩ := q1
  subst e
  cases r1
  obtain ⟨its, rv, p, hz⟩ := I1.tuple hq
  refine wpAny_pyIter_tuple (show s1.heap.IsTuple a its.toArray from p) ?_
  refine ⟨s1.heap.objs.size, [s1.heap.objs.size], _, _, H1, rfl, I1.kept (t' := s1.toks) fun b o e => Heap.get?_push_of_some _ e, turn_tuple a _, ⟨_, Heap.get?_push_size _ rfl, rfl, rfl⟩, fun b hb => ?_, q⟩
  have e : b = s1.heap.objs.size := by simpa using hb
  subst e
  exact I1.fpOk (Nat.le_refl _) (I1.hok.fresh (Nat.le_refl _))
/-- a range object just made, walked -/
theorem range_it {pins : List (Addr × Obj)} {σ : St} {H : Hp} {s : Shared} {R : It → Hp → Prop} {E : Value → Shared → Prop} {lo hi : Int} {t u v : Tok} {tk : Nat} (I : Inv X pins σ H s) (h1 : -(2 ^ 62) ≤ lo) (h2 : lo < 2 ^ 62) (h3 : -(2 ^ 62) ≤ hi) (h4 : hi < 2 ^ 62)
    (q : R (Itr lo (hi - lo).toNat) H) : wpAny (model X.prog X.w) X.A (pyIter (.ref s.heap.objs.size)) (PIE X pins σ tg R) E { s with heap := s.heap.push { cls := .type "range", data := .fields #[.int lo t, .int hi u, .int 1 v] }, toks := tk } := by
  refine wpAny_pyIter_range (IsRange.new ..) (small_one h1 h2 h3 h4) ?_
  have I1 : Inv X pins σ H { s with heap := s.heap.push { cls := .type "range", data := .fields #[.int lo t, .int hi u, .int 1 v] }, toks := tk } := I.kept fun b o e => Heap.get?_push_of_some _ e
  refine ⟨(s.heap.push { cls := .type "range", data := .fields #[.int lo t, .int hi u, .int 1 v] }).objs.size, [(s.heap.push { cls := .type "range", data := .fields #[.int lo t, .int hi u, .int 1 v] }).objs.size], _, _, H, rfl,
    I1.kept (t' := tk) fun b o e => Heap.get?_push_of_some _ e, turn_range _ lo (hi - lo).toNat, ?_, fun b hb => ?_, q⟩
  · have e1 : lo + ((0 : Nat) : Int) * 1 = lo := by simp
    have e2 : (((hi - lo).toNat : Nat) : Int) - ((0 : Nat) : Int) = Builtin.Range.rangeSize lo hi 1 := by rw [rangeSize_one]; split <;> omega
    show IsRangeIter _ _ (lo + ((0 : Nat) : Int) * 1) ((((hi - lo).toNat : Nat) : Int) - ((0 : Nat) : Int)) 1
    rw [e1, e2]
    exact Heap.get?_push_size _ rfl
  · have e : b = (s.heap.push { cls := .type "range", data := .fields #[.int lo t, .int hi u, .int 1 v] }).objs.size := by simpa using hb
    subst e
    exact I1.fpOk (Nat.le_refl _) (I1.hok.fresh (Nat.le_refl _))
noncomputable def iRng1 (ta : TA) : TI := fun σ H R => ta σ H fun vs H1 => ∃ j : Int, vs = [.int j] ∧ -(2 ^ 62) ≤ j ∧ j < 2 ^ 62 ∧ R (Itr 0 j.toNat) H1
theorem pi_range1 {a : Expr} {ta : TA} {p pos : Pos} (hg : Gl X "range") (hm : X.mg "range" = none) (ha : PA X [a] ta) (hs : starEach [a] X.env = [(false, eval a X.env)] := by rfl) : PI X tg (.Call (.Name "range" p) [a] [] pos) (iRng1 ta) := by
  intro pins s σ H R I h
  refine Call_ (ld_blt I hg hm boot_range (PyProof.Rows.callWith_type1 (thn (ha pos pins s σ H _ I h) fun us s1 ⟨vs, H1, I1, r1, q1⟩ => ?_) hs rfl))
  obtain ⟨j, e, q1, q2, q⟩ := q1
  subst e
  cases r1 with
  | cons r rr =>
    cases rr
    obtain ⟨t, rfl⟩ := r
    exact call_range_1 (range_it I1 (by omega) (by omega) q1 q2 (by simpa using q))
/-! ### for -/
/-- W: the invariant by the turn and a measure; N: what the body is to reach -/
noncomputable def tFor (wi : TI) (g : TG) (tb : TS) : TS := fun D σ H => wi σ H fun J H1 => ∃ W : Nat → Nat → St → Hp → Prop, (∃ m, W 0 m σ H1) ∧ ∀ i m σ H, W i m σ H →
  (J.stop i H ∧ D.nx σ H) ∨ (J.go i H ∧ ∃ N : St → Hp → Prop, (∀ σ' H', N σ' H' → ∃ m', m' < m ∧ W (i + 1) m' σ' H') ∧ ∀ x H', J.yld i H x H' → g x σ H' fun σ2 H2 => tb { D with nx := N, ct := N, bk := D.nx } σ2 H2)
/-- the records at fp as they stand -/
noncomputable def pinsAt (fp : List Addr) (h : Heap) : List (Addr × Obj) := fp.filterMap fun b => (h.get? b).map fun o => (b, o)
theorem mem_pinsAt {fp : List Addr} {h : Heap} {b : Addr} {o : Obj} (hb : b ∈ fp) (e : h.get? b = some o) : (b, o) ∈ pinsAt fp h := List.mem_filterMap.mpr ⟨b, hb, by rw [e]; rfl⟩
theorem of_pinsAt {fp : List Addr} {h : Heap} {p : Addr × Obj} (hp : p ∈ pinsAt fp h) : p.1 ∈ fp ∧ h.get? p.1 = some p.2 := by
  obtain ⟨b, hb, e⟩ := List.mem_filterMap.mp hp
  cases q : h.get? b with
  | none => rw [q] at e; cases e
  | some o =>
    rw [q] at e
    have e' : (b, o) = p := Option.some.inj e
    subst e'
    exact ⟨hb, q⟩
theorem Inv.pinned {pins : List (Addr × Obj)} {σ : St} {H : Hp} {s : Shared} {fp : List Addr} (I : Inv X pins σ H s) (hf : ∀ b ∈ fp, FpOk X pins H b) (ho : ∀ b ∈ fp, ∃ o, s.heap.get? b = some o ∧ ∀ v, o.data ≠ .cell v) : Inv X (pins ++ pinsAt fp s.heap) σ H s :=
  I.pins_of fun p hp => (List.mem_append.mp hp).elim (fun z => I.pin p (List.mem_append_right _ z)) fun z => by
    obtain ⟨hb, e⟩ := of_pinsAt z
    obtain ⟨f0, f1, f2, _⟩ := hf p.1 hb
    obtain ⟨o, e', d⟩ := ho p.1 hb
    rw [e] at e'; cases e'
    exact ⟨e, f0, f1, f2, d⟩
theorem Inv.unpinned {pins pl : List (Addr × Obj)} {σ : St} {H : Hp} {s : Shared} (I : Inv X (pins ++ pl) σ H s) : Inv X pins σ H s := I.pins_of fun p hp => I.pin p (List.mem_append_right _ (List.mem_append_left _ hp))
theorem ps_for {iter : Expr} {body : List Stmt} {wi : TI} {g : TG} {tb : TS} {pos : Pos} (hp : PassesOwn (model X.prog X.w) X.A X.env X.xe) (hc : X.calm = true) (hi : PI X tg iter wi) (hg : PG X tg g) (hb : PSs X body tb)
    (hs : ∀ x, foldedSetIterable iter X.env x = pure x := by intro _; rfl) : PS X (.For tg iter body [] pos) (tFor wi g tb) := by
  intro pins s σ H D I h
  refine wpAny_For (thn (hi pins s σ H _ I h) fun v s1 h1 => thn h1 fun itv s2 h2 => ?_) hs
  obtain ⟨it, fp, tn, J, H2, e, I2, T, st2, f2, W, ⟨m0, w0⟩, turn⟩ := h2
  subst e
  -- what stays true of the iterator's objects through the loop
  have stat : ∀ {H' : Hp}, (∀ b ∈ fp, H' b = none) → ∀ b ∈ fp, FpOk X pins H' b := fun hn b hb => ⟨hn b hb, (f2 b hb).2⟩
  refine codeAny_forLoop_any (fun n s' => ∃ i σ' H', Inv X pins σ' H' s' ∧ tn i s'.heap ∧ (∀ b ∈ fp, H' b = none) ∧ W i n σ' H') ?_ m0 ⟨0, σ, H2, I2, st2, fun b hb => (f2 b hb).1, w0⟩
  rintro n s3 ⟨i, σ3, H3, I3, st3, fr3, w3⟩
  rcases turn i n σ3 H3 w3 with ⟨stop, qn⟩ | ⟨go, N, hN, step⟩
  · refine wpAny_passesOwn hp (thn (T.done X rfl rfl rfl hc i pins s3 σ3 H3 X.xe I3 (stat fr3) st3 stop) fun r s4 ⟨hr, I4⟩ => ?_)
    subst hr
    exact wpAny_execs_nil ⟨σ3, H3, I4, qn⟩
  · refine wpAny_passesOwn hp (thn (T.item X rfl rfl rfl hc i pins s3 σ3 H3 X.xe I3 (stat fr3) st3 go) fun r s4 ⟨u, hr, h4⟩ => ?_)
    subst hr
    refine wpAny_passesOwn hp (thn h4 fun _ s5 ⟨x, H5, I5, r5, y5, st5, fr5⟩ => ?_)
    have I5' := I5.pinned (stat fr5) (T.obj _ _ st5)
    refine wpAny_passesOwn hp (thn (hg _ s5 σ3 H5 x u _ I5' r5 (step x H5 y5)) fun _ s6 ⟨σ6, H6, I6, q6⟩ => ?_)
    refine wpAny_passesOwn hp (thn (hb _ s6 σ6 H6 _ I6 q6) fun f s7 q7 => ?_)
    have again : ∀ {σ7 : St} {H7 : Hp}, Inv X (pins ++ pinsAt fp s5.heap) σ7 H7 s7 → N σ7 H7 → ∃ m, m < n ∧ ∃ i σ' H', Inv X pins σ' H' s7 ∧ tn i s7.heap ∧ (∀ b ∈ fp, H' b = none) ∧ W i m σ' H' := fun {σ7 H7} I7 n7 => by
      obtain ⟨m', hm, w7⟩ := hN σ7 H7 n7
      refine ⟨m', hm, i + 1, σ7, H7, I7.unpinned, T.keep _ _ _ st5 fun b hb o e => (I7.pin (b, o) (List.mem_append_right _ (List.mem_append_right _ (mem_pinsAt hb e)))).1, fun b hb => ?_, w7⟩
      obtain ⟨o, e, d⟩ := T.obj _ _ st5 b hb
      exact (I7.pin (b, o) (List.mem_append_right _ (List.mem_append_right _ (mem_pinsAt hb e)))).2.1
    cases f with
    | next => obtain ⟨σ7, H7, I7, n7⟩ := q7; exact again I7 n7
    | cont => obtain ⟨σ7, H7, I7, n7⟩ := q7; exact again I7 n7
    | brk => obtain ⟨σ7, H7, I7, q7⟩ := q7; exact ⟨σ7, H7, I7.unpinned, q7⟩
    | ret v => obtain ⟨x7, σ7, H7, I7, r7, q7⟩ := q7; exact ⟨x7, σ7, H7, I7.unpinned, r7, q7⟩
end

/-! ### the forms one uses -/
/-- over a list that the body leaves as it is -/
theorem for_list {K : PySem.W.Frag} {a : Addr} {xs : List V} {g : TG} {tb : TS} {D : Ends} {σ : St} {H : Hp} (Pv : Nat → St → Hp → Prop) (h0 : Pv 0 σ H) (hl : ∀ i σ H, i ≤ xs.length → Pv i σ H → SqL K H a xs)
    (hs : ∀ i x σ H, xs[i]? = some x → Pv i σ H → g x σ H fun σ2 H2 => tb { D with nx := Pv (i + 1), ct := Pv (i + 1), bk := D.nx } σ2 H2) (hd : ∀ σ H, Pv xs.length σ H → D.nx σ H) :
    ∃ W : Nat → Nat → St → Hp → Prop, (∃ m, W 0 m σ H) ∧ ∀ i m σ H, W i m σ H →
      ((Itl K a).stop i H ∧ D.nx σ H) ∨ ((Itl K a).go i H ∧ ∃ N : St → Hp → Prop, (∀ σ' H', N σ' H' → ∃ m', m' < m ∧ W (i + 1) m' σ' H') ∧ ∀ x H', (Itl K a).yld i H x H' → g x σ H' fun σ2 H2 => tb { D with nx := N, ct := N, bk := D.nx } σ2 H2) := by
  refine ⟨fun i m σ H => m = xs.length - i ∧ i ≤ xs.length ∧ Pv i σ H, ⟨xs.length, by simp, Nat.zero_le _, h0⟩, ?_⟩
  rintro i m σ H ⟨rfl, hi, p⟩
  have q := hl i σ H hi p
  by_cases hlt : i < xs.length
  · refine .inr ⟨⟨xs, xs[i], q, by simp [hlt]⟩, Pv (i + 1), fun σ' H' p' => ⟨xs.length - (i + 1), by omega, rfl, hlt, p'⟩, fun x H' y => ?_⟩
    obtain ⟨e, y⟩ := y
    subst e
    exact hs i x σ _ (y xs q) p
  · have e : i = xs.length := by omega
    subst e
    exact .inl ⟨⟨xs, q, Nat.le_refl _⟩, hd σ H p⟩
theorem for_tup {K : PySem.W.Frag} {a : Addr} {xs : List V} {g : TG} {tb : TS} {D : Ends} {σ : St} {H : Hp} (Pv : Nat → St → Hp → Prop) (h0 : Pv 0 σ H) (hl : ∀ i σ H, i ≤ xs.length → Pv i σ H → SqT K H a xs)
    (hs : ∀ i x σ H, xs[i]? = some x → Pv i σ H → g x σ H fun σ2 H2 => tb { D with nx := Pv (i + 1), ct := Pv (i + 1), bk := D.nx } σ2 H2) (hd : ∀ σ H, Pv xs.length σ H → D.nx σ H) :
    ∃ W : Nat → Nat → St → Hp → Prop, (∃ m, W 0 m σ H) ∧ ∀ i m σ H, W i m σ H →
      ((Itt K a).stop i H ∧ D.nx σ H) ∨ ((Itt K a).go i H ∧ ∃ N : St → Hp → Prop, (∀ σ' H', N σ' H' → ∃ m', m' < m ∧ W (i + 1) m' σ' H') ∧ ∀ x H', (Itt K a).yld i H x H' → g x σ H' fun σ2 H2 => tb { D with nx := N, ct := N, bk := D.nx } σ2 H2) := by
  refine ⟨fun i m σ H => m = xs.length - i ∧ i ≤ xs.length ∧ Pv i σ H, ⟨xs.length, by simp, Nat.zero_le _, h0⟩, ?_⟩
  rintro i m σ H ⟨rfl, hi, p⟩
  have q := hl i σ H hi p
  by_cases hlt : i < xs.length
  · refine .inr ⟨⟨xs, xs[i], q, by simp [hlt]⟩, Pv (i + 1), fun σ' H' p' => ⟨xs.length - (i + 1), by omega, rfl, hlt, p'⟩, fun x H' y => ?_⟩
    obtain ⟨e, y⟩ := y
    subst e
    exact hs i x σ _ (y xs q) p
  · have e : i = xs.length := by omega
    subst e
    exact .inl ⟨⟨xs, q, Nat.le_refl _⟩, hd σ H p⟩
theorem for_range {lo : Int} {n : Nat} {g : TG} {tb : TS} {D : Ends} {σ : St} {H : Hp} (Pv : Nat → St → Hp → Prop) (h0 : Pv 0 σ H)
    (hs : ∀ i σ H, i < n → Pv i σ H → g (.int (lo + i)) σ H fun σ2 H2 => tb { D with nx := Pv (i + 1), ct := Pv (i + 1), bk := D.nx } σ2 H2) (hd : ∀ σ H, Pv n σ H → D.nx σ H) :
    ∃ W : Nat → Nat → St → Hp → Prop, (∃ m, W 0 m σ H) ∧ ∀ i m σ H, W i m σ H →
      ((Itr lo n).stop i H ∧ D.nx σ H) ∨ ((Itr lo n).go i H ∧ ∃ N : St → Hp → Prop, (∀ σ' H', N σ' H' → ∃ m', m' < m ∧ W (i + 1) m' σ' H') ∧ ∀ x H', (Itr lo n).yld i H x H' → g x σ H' fun σ2 H2 => tb { D with nx := N, ct := N, bk := D.nx } σ2 H2) := by
  refine ⟨fun i m σ H => m = n - i ∧ i ≤ n ∧ Pv i σ H, ⟨n, by simp, Nat.zero_le _, h0⟩, ?_⟩
  rintro i m σ H ⟨rfl, hi, p⟩
  by_cases hlt : i < n
  · refine .inr ⟨hlt, Pv (i + 1), fun σ' H' p' => ⟨n - (i + 1), by omega, rfl, hlt, p'⟩, fun x H' y => ?_⟩
    obtain ⟨e, y⟩ := y
    subst e y
    exact hs i σ _ hlt p
  · have e : i = n := by omega
    subst e
    exact .inl ⟨Nat.le_refl _, hd σ H p⟩
end L2

namespace L2
open PySem PySem.Spec PyProof.Rows

abbrev R2 := V → V → Hp → VK → Prop
/-- a two-place operation on values: f is binaryOp op, inplaceOp op or compareOp op -/
noncomputable def OpR (X : Cx) (f : Value → Value → Sem Value) (r : R2) : Prop :=
  ∀ (pins : List (Addr × Obj)) (s : Shared) (σ : St) (H : Hp) (x y : V) (v u : Value) (Q : VK), Inv X pins σ H s → RelV x v → RelV y u → r x y H Q →
    wpAny (model X.prog X.w) X.A (f v u) (EP X pins σ Q) X.xe s
/-- a one-place operation -/
noncomputable def UnR (X : Cx) (f : Value → Sem Value) (r : V → Hp → VK → Prop) : Prop :=
  ∀ (pins : List (Addr × Obj)) (s : Shared) (σ : St) (H : Hp) (x : V) (v : Value) (Q : VK), Inv X pins σ H s → RelV x v → r x H Q →
    wpAny (model X.prog X.w) X.A (f v) (EP X pins σ Q) X.xe s
/-- a call of a value that is known (a builtin, a type) with values -/
noncomputable def CallR (X : Cx) (f : Value) (r : List V → Hp → VK → Prop) : Prop :=
  ∀ (pins : List (Addr × Obj)) (s : Shared) (σ : St) (H : Hp) (xs : List V) (us : List Value) (Q : VK), Inv X pins σ H s → Vals xs us → r xs H Q →
    wpAny (model X.prog X.w) X.A (call f us) (EP X pins σ Q) X.xe s
/-- a value's truth -/
noncomputable def TruR (X : Cx) (r : V → Hp → (Bool → Hp → Prop) → Prop) : Prop :=
  ∀ (pins : List (Addr × Obj)) (s : Shared) (σ : St) (H : Hp) (x : V) (v : Value) (Q : Bool → Hp → Prop), Inv X pins σ H s → RelV x v → r x H Q →
    wpAny (model X.prog X.w) X.A (truthy v) (TP X pins σ Q) X.xe s

noncomputable def tOp (r : R2) (ta tb : TE) : TE := fun σ H Q => ta σ H fun x H1 => tb σ H1 fun y H2 => r x y H2 Q
noncomputable def tUn (r : V → Hp → VK → Prop) (ta : TE) : TE := fun σ H Q => ta σ H fun x H1 => r x H1 Q
/-- ints in, under C, and a value out -/
noncomputable def rI (C : Int → Int → Prop) (g : Int → Int → V) : R2 := fun x y H Q => ∃ i j, x = .int i ∧ y = .int j ∧ C i j ∧ Q (g i j) H
noncomputable def rI0 (g : Int → Int → V) : R2 := fun x y H Q => ∃ i j, x = .int i ∧ y = .int j ∧ Q (g i j) H
noncomputable def rU (g : Int → V) : V → Hp → VK → Prop := fun x H Q => ∃ i, x = .int i ∧ Q (g i) H

section
variable {X : Cx} {a b c : Expr} {ta tb tc : TE} {pos : Pos}

theorem binT (ha : PE X a ta) (hb : PE X b tb) {pins : List (Addr × Obj)} {s : Shared} {σ : St} {H : Hp} {R : V → V → Hp → Prop} (I : Inv X pins σ H s)
    (h : ta σ H fun x H1 => tb σ H1 fun y H2 => R x y H2) {Q : Value → Shared → Prop} {f : Value → Value → Sem Value}
    (hf : ∀ v u s2 x y H2, Inv X pins σ H2 s2 → RelV x v → RelV y u → R x y H2 → wpAny (model X.prog X.w) X.A (f v u) Q X.xe s2) :
    wpAny (model X.prog X.w) X.A (eval a X.env) (fun v s₁ => wpAny (model X.prog X.w) X.A (eval b X.env) (fun u s₂ => wpAny (model X.prog X.w) X.A (f v u) Q X.xe s₂) X.xe s₁) X.xe s := by
  refine thn (ha pins s σ H _ I h) fun v s1 ⟨x, H1, I1, r1, q1⟩ => ?_
  refine thn (hb pins s1 σ H1 _ I1 q1) fun u s2 ⟨y, H2, I2, r2, q2⟩ => ?_
  exact hf v u s2 x y H2 I2 r1 r2 q2

theorem pe_op {op : Operator} {r : R2} (ho : OpR X (binaryOp op) r) (ha : PE X a ta) (hb : PE X b tb) : PE X (.BinOp a op b pos) (tOp r ta tb) := by
  intro pins s σ H Q I h
  exact wpAny_BinOp (binT ha hb I h fun v u s2 x y H2 I2 rx ry q => ho pins s2 σ H2 x y v u Q I2 rx ry q)
theorem pe_un {op : UnaryOp} {r : V → Hp → VK → Prop} (ho : UnR X (unaryOp op) r) (ha : PE X a ta) : PE X (.UnaryOp op a pos) (tUn r ta) := by
  intro pins s σ H Q I h
  exact UnaryOp_ (thn (ha pins s σ H _ I h) fun v s1 ⟨x, H1, I1, r1, q1⟩ => ho pins s1 σ H1 x v Q I1 r1 q1)
/-! ### ints -/
theorem opI {f : Value → Value → Sem Value} {C : Int → Int → Prop} {g : Int → Int → Int}
    (rule : ∀ (i j : Int) (t u : Tok) (s : Shared) (Q : Value → Shared → Prop) (E : Value → Shared → Prop), C i j → Q (.int (g i j) s.toks) { s with toks := s.toks + 1 } → wpAny (model X.prog X.w) X.A (f (.int i t) (.int j u)) Q E s) :
    OpR X f (rI C fun i j => .int (g i j)) := by
  intro pins s σ H x y v u Q I rx ry h
  obtain ⟨i, j, rfl, rfl, hc, q⟩ := h
  obtain ⟨t, rfl⟩ := rx
  obtain ⟨t', rfl⟩ := ry
  exact rule i j t t' s _ _ hc ⟨.int (g i j), H, I.tok _, ⟨_, rfl⟩, q⟩
theorem opI0 {f : Value → Value → Sem Value} {g : Int → Int → Int}
    (rule : ∀ (i j : Int) (t u : Tok) (s : Shared) (Q : Value → Shared → Prop) (E : Value → Shared → Prop), Q (.int (g i j) s.toks) { s with toks := s.toks + 1 } → wpAny (model X.prog X.w) X.A (f (.int i t) (.int j u)) Q E s) :
    OpR X f (rI0 fun i j => .int (g i j)) := by
  intro pins s σ H x y v u Q I rx ry h
  obtain ⟨i, j, rfl, rfl, q⟩ := h
  obtain ⟨t, rfl⟩ := rx
  obtain ⟨t', rfl⟩ := ry
  exact rule i j t t' s _ _ ⟨.int (g i j), H, I.tok _, ⟨_, rfl⟩, q⟩
theorem opB0 {f : Value → Value → Sem Value} {g : Int → Int → Bool}
    (rule : ∀ (i j : Int) (t u : Tok) (s : Shared) (Q : Value → Shared → Prop) (E : Value → Shared → Prop), Q (.bool (g i j)) s → wpAny (model X.prog X.w) X.A (f (.int i t) (.int j u)) Q E s) :
    OpR X f (rI0 fun i j => .bl (g i j)) := by
  intro pins s σ H x y v u Q I rx ry h
  obtain ⟨i, j, rfl, rfl, q⟩ := h
  obtain ⟨t, rfl⟩ := rx
  obtain ⟨t', rfl⟩ := ry
  exact rule i j t t' s _ _ ⟨.bl (g i j), H, I, rfl, q⟩

noncomputable def CPow (i j : Int) : Prop := 0 ≤ j ∧ j ≤ 1000000 ∧ i.natAbs < 2 ^ 64
noncomputable def CMul (i j : Int) : Prop := (-(2 ^ 64) < i ∧ i < 2 ^ 64) ∨ (-(2 ^ 64) < j ∧ j < 2 ^ 64)
theorem CMul.ok {i j : Int} (h : CMul i j) : IntMulOk i j := by
  rcases h with ⟨h1, h2⟩ | ⟨h1, h2⟩
  · exact .of_left (intBits_le_64 h1 h2)
  · exact .of_right (intBits_le_64 h1 h2)
theorem op_add : OpR X (binaryOp .Add) (rI0 fun i j => .int (i + j)) := opI0 fun _ _ _ _ _ _ _ q => add_int q
theorem op_sub : OpR X (binaryOp .Sub) (rI0 fun i j => .int (i - j)) := opI0 fun _ _ _ _ _ _ _ q => sub_int q
theorem op_mul : OpR X (binaryOp .Mult) (rI CMul fun i j => .int (i * j)) := opI fun _ _ _ _ _ _ _ hc q => mul_int q hc.ok
/-- % by a positive divisor of any size -/
theorem op_mod : OpR X (binaryOp .Mod) (rI (fun _ j => 0 < j) fun i j => .int (i % j)) := opI fun i j _ _ _ _ _ hc q => by
  have h1 : (0 : Int) < j := hc
  exact mod_int' (by omega) (by rw [Int.fmod_eq_emod_of_nonneg i (by omega)]; exact q)
theorem op_pow : OpR X (binaryOp .Pow) (rI CPow fun i j => .int (i ^ j.toNat)) := opI fun _ _ _ _ _ _ _ hc q => pow_int_small hc.1 hc.2.1 hc.2.2 q
theorem unI {f : Value → Sem Value} {g : Int → Int}
    (rule : ∀ (i : Int) (t : Tok) (s : Shared) (Q : Value → Shared → Prop) (E : Value → Shared → Prop), Q (.int (g i) s.toks) { s with toks := s.toks + 1 } → wpAny (model X.prog X.w) X.A (f (.int i t)) Q E s) :
    UnR X f (rU fun i => .int (g i)) := by
  intro pins s σ H x v Q I rx h
  obtain ⟨i, rfl, q⟩ := h
  obtain ⟨t, rfl⟩ := rx
  exact rule i t s _ _ ⟨.int (g i), H, I.tok _, ⟨_, rfl⟩, q⟩
theorem un_neg : UnR X (unaryOp .USub) (rU fun i => .int (-i)) := unI fun _ _ _ _ _ q => neg_int q
/-! ### bools among ints: n += (a < b) -/
end

/-! ### comparisons -/
/-- the scalars that == tells apart as data does -/
noncomputable def scal : V → V → Bool
  | .non, .non => true | .non, .int _ => true | .int _, .non => true | .non, .bl _ => true | .bl _, .non => true | .non, .str _ => true | .str _, .non => true
  | .int _, .int _ => true | .bl _, .bl _ => true | .str _, .str _ => true | .byt _, .byt _ => true
  | .int _, .str _ => true | .str _, .int _ => true | .bl _, .str _ => true | .str _, .bl _ => true
  | _, _ => false
noncomputable def rEq : R2 := fun x y H Q => scal x y = true ∧ Q (.bl (decide (x = y))) H
noncomputable def rNe : R2 := fun x y H Q => scal x y = true ∧ Q (.bl (!decide (x = y))) H

theorem dec_int {i j : Int} : decide (V.int i = V.int j) = (i == j) := by
  rw [Bool.eq_iff_iff]
  simp
theorem dec_bl {i j : Bool} : decide (V.bl i = V.bl j) = (i == j) := by
  rw [Bool.eq_iff_iff]
  simp
theorem dec_str {i j : Str} : decide (V.str i = V.str j) = (i == j) := by
  rw [Bool.eq_iff_iff]
  simp
theorem dec_byt {i j : Array UInt8} : decide (V.byt i = V.byt j) = (i.toList == j.toList) := by
  rw [Bool.eq_iff_iff]
  cases i
  cases j
  simp

section
variable {X : Cx} {a b c : Expr} {ta tb tc : TE} {pos : Pos}
theorem fin_bl {pins : List (Addr × Obj)} {σ : St} {H : Hp} {s : Shared} {Q : VK} {k k' : Bool} (I : Inv X pins σ H s) (q : Q (.bl k) H) (e : k = k') : EP X pins σ Q (.bool k') s := by
  subst e
  exact ⟨.bl k, H, I, rfl, q⟩
theorem op_eq : OpR X (compareOp .Eq) rEq := by
  intro pins s σ H x y v u Q I rx ry h
  obtain ⟨hs, q⟩ := h
  cases x with
  | non =>
    cases rx
    cases y with
    | non => cases ry; exact PySem.EqNone.eq_none_none (fin_bl I q (by simp))
    | bl j => cases ry; exact PySem.EqNone.eq_none_bool (fin_bl I q (by simp))
    | int j => obtain ⟨t', rfl⟩ := ry; exact PySem.EqNone.eq_none_int (fin_bl I q (by simp))
    | str j => obtain ⟨t', rfl⟩ := ry; exact PySem.EqNone.eq_none_str (fin_bl I q (by simp))
    | _ => exact absurd (show false = true from hs) Bool.false_ne_true
  | bl i =>
    cases rx
    cases y with
    | non => cases ry; exact PySem.EqNone.eq_bool_none (fin_bl I q (by simp))
    | bl j => cases ry; exact eq_bool (fin_bl I q dec_bl)
    | str j => obtain ⟨t', rfl⟩ := ry; exact PySem.EqMixed.eq_bool_str (fin_bl I q (by simp))
    | _ => exact absurd (show false = true from hs) Bool.false_ne_true
  | int i =>
    obtain ⟨t, rfl⟩ := rx
    cases y with
    | non => cases ry; exact PySem.EqNone.eq_int_none (fin_bl I q (by simp))
    | int j => obtain ⟨t', rfl⟩ := ry; exact eq_int (fin_bl I q dec_int)
    | str j => obtain ⟨t', rfl⟩ := ry; exact PySem.EqMixed.eq_int_str (fin_bl I q (by simp))
    | _ => exact absurd (show false = true from hs) Bool.false_ne_true
  | str i =>
    obtain ⟨t, rfl⟩ := rx
    cases y with
    | non => cases ry; exact PySem.EqNone.eq_str_none (fin_bl I q (by simp))
    | bl j => cases ry; exact PySem.EqMixed.eq_str_bool (fin_bl I q (by simp))
    | int j => obtain ⟨t', rfl⟩ := ry; exact PySem.EqMixed.eq_str_int (fin_bl I q (by simp))
    | str j => obtain ⟨t', rfl⟩ := ry; exact eq_str (fin_bl I q dec_str)
    | _ => exact absurd (show false = true from hs) Bool.false_ne_true
  | byt i =>
    obtain ⟨t, rfl⟩ := rx
    cases y with
    | byt j => obtain ⟨t', rfl⟩ := ry; exact PySem.W.eq_bytes (fin_bl I q dec_byt)
    | _ => exact absurd (show false = true from hs) Bool.false_ne_true
  | _ => cases y <;> exact absurd (show false = true from hs) Bool.false_ne_true
theorem op_ne : OpR X (compareOp .NotEq) rNe := by
  intro pins s σ H x y v u Q I rx ry h
  obtain ⟨hs, q⟩ := h
  cases x with
  | non =>
    cases rx
    cases y with
    | non => cases ry; exact PySem.EqNone.ne_none_none (fin_bl I q (by simp))
    | bl j => cases ry; exact PySem.EqNone.ne_none_bool (fin_bl I q (by simp))
    | int j => obtain ⟨t', rfl⟩ := ry; exact PySem.EqNone.ne_none_int (fin_bl I q (by simp))
    | str j => obtain ⟨t', rfl⟩ := ry; exact PySem.EqNone.ne_none_str (fin_bl I q (by simp))
    | _ => exact absurd (show false = true from hs) Bool.false_ne_true
  | bl i =>
    cases rx
    cases y with
    | non => cases ry; exact PySem.EqNone.ne_bool_none (fin_bl I q (by simp))
    | bl j => cases ry; exact ne_bool (fin_bl I q (congrArg not dec_bl))
    | str j => obtain ⟨t', rfl⟩ := ry; exact PySem.EqMixed.ne_bool_str (fin_bl I q (by simp))
    | _ => exact absurd (show false = true from hs) Bool.false_ne_true
  | int i =>
    obtain ⟨t, rfl⟩ := rx
    cases y with
    | non => cases ry; exact PySem.EqNone.ne_int_none (fin_bl I q (by simp))
    | int j => obtain ⟨t', rfl⟩ := ry; exact ne_int (fin_bl I q (congrArg not dec_int))
    | str j => obtain ⟨t', rfl⟩ := ry; exact PySem.EqMixed.ne_int_str (fin_bl I q (by simp))
    | _ => exact absurd (show false = true from hs) Bool.false_ne_true
  | str i =>
    obtain ⟨t, rfl⟩ := rx
    cases y with
    | non => cases ry; exact PySem.EqNone.ne_str_none (fin_bl I q (by simp))
    | bl j => cases ry; exact PySem.EqMixed.ne_str_bool (fin_bl I q (by simp))
    | int j => obtain ⟨t', rfl⟩ := ry; exact PySem.EqMixed.ne_str_int (fin_bl I q (by simp))
    | str j => obtain ⟨t', rfl⟩ := ry; exact ne_str (fin_bl I q (congrArg not dec_str))
    | _ => exact absurd (show false = true from hs) Bool.false_ne_true
  | byt i =>
    obtain ⟨t, rfl⟩ := rx
    cases y with
    | byt j => obtain ⟨t', rfl⟩ := ry; exact PySem.W.ne_bytes (fin_bl I q (congrArg not dec_byt))
    | _ => exact absurd (show false = true from hs) Bool.false_ne_true
  | _ => cases y <;> exact absurd (show false = true from hs) Bool.false_ne_true

theorem op_lt : OpR X (compareOp .Lt) (rI0 fun i j => .bl (decide (i < j))) := opB0 fun _ _ _ _ _ _ _ q => lt_int q
theorem op_le : OpR X (compareOp .LtE) (rI0 fun i j => .bl (decide (i ≤ j))) := opB0 fun _ _ _ _ _ _ _ q => le_int q
theorem op_gt : OpR X (compareOp .Gt) (rI0 fun i j => .bl (decide (j < i))) := opB0 fun _ _ _ _ _ _ _ q => gt_int q
theorem op_ge : OpR X (compareOp .GtE) (rI0 fun i j => .bl (decide (j ≤ i))) := opB0 fun _ _ _ _ _ _ _ q => ge_int q
/-- is None, is not None: the right side a value none -/
theorem op_isN : OpR X (compareOp .Is) (fun x y H Q => y = .non ∧ Q (.bl (decide (x = .non))) H) := by
  intro pins s σ H x y v u Q I rx ry h
  obtain ⟨rfl, q⟩ := h
  cases ry
  refine is_none_gen (fin_bl I q ?_)
  cases x <;> first
    | (cases rx; rfl)
    | (obtain ⟨t, rfl⟩ := rx; rfl)
theorem op_notN : OpR X (compareOp .IsNot) (fun x y H Q => y = .non ∧ Q (.bl (!decide (x = .non))) H) := by
  intro pins s σ H x y v u Q I rx ry h
  obtain ⟨rfl, q⟩ := h
  cases ry
  refine isnot_none_gen (fin_bl I q ?_)
  cases x <;> first
    | (cases rx; rfl)
    | (obtain ⟨t, rfl⟩ := rx; rfl)

/-- two rules for one operation: by cases -/
theorem OpR.or {f : Value → Value → Sem Value} {r r' : R2} (h : OpR X f r) (h' : OpR X f r') : OpR X f (fun x y H Q => r x y H Q ∨ r' x y H Q) := by
  intro pins s σ H x y v u Q I rx ry q
  rcases q with q | q
  · exact h pins s σ H x y v u Q I rx ry q
  · exact h' pins s σ H x y v u Q I rx ry q

theorem nomark (b : Expr) {op : CmpOp} (h : op ≠ .In := by decide) (h2 : op ≠ .NotIn := by decide) : behindInMarks op b = false := by
  have e1 : (op == CmpOp.In) = false := by cases op <;> first | rfl | exact absurd rfl h
  have e2 : (op == CmpOp.NotIn) = false := by cases op <;> first | rfl | exact absurd rfl h2
  cases b <;> simp [behindInMarks, e1, e2]
/-- a comparison as a value; hm: nomark b, or (for in, not in) by with_unfolding_all rfl -/
theorem pe_cmpR {op : CmpOp} {r : R2} (ho : OpR X (compareOp op) r) (ha : PE X a ta) (hb : PE X b tb) (hm : behindInMarks op b = false) : PE X (.Compare a [op] [b] pos) (tOp r ta tb) := by
  intro pins s σ H Q I h
  exact wpAny_Compare1 (binT ha hb I h fun v u s2 x y H2 I2 rx ry q => ho pins s2 σ H2 x y v u Q I2 rx ry q) hm
/-- a reading of a value as a test -/
noncomputable def tTest (t : TE) : TT := fun σ H Q => t σ H fun x H' => ∃ k, x = .bl k ∧ Q k H'
theorem pt_cmpR {op : CmpOp} {r : R2} (ho : OpR X (compareOp op) r) (ha : PE X a ta) (hb : PE X b tb) (hm : behindInMarks op b = false) : PT X (.Compare a [op] [b] pos) (tTest (tOp r ta tb)) := by
  intro pins s σ H Q I h
  refine wpAny_isTrue_Compare1 (thn (ha pins s σ H _ I h) fun v s1 ⟨x, H1, I1, r1, q1⟩ => thn (hb pins s1 σ H1 _ I1 q1) fun u s2 ⟨y, H2, I2, r2, q2⟩ =>
    thn (ho pins s2 σ H2 x y v u _ I2 r1 r2 q2) fun c s3 ⟨z, H3, I3, r3, k, e, q3⟩ => ?_) hm
  subst e
  cases r3
  exact wpAny_truthy_bool ⟨H3, I3, q3⟩
/-- a op1 b op2 c -/
noncomputable def tChain (r r' : R2) (ta tb tc : TE) : TE := fun σ H Q => ta σ H fun x H1 => tb σ H1 fun y H2 => r x y H2 fun z H3 => ∃ k, z = .bl k ∧
  (if k = true then tc σ H3 fun w' H4 => r' y w' H4 Q else Q (.bl false) H3)
theorem pe_chain {op op' : CmpOp} {r r' : R2} (ho : OpR X (compareOp op) r) (ho' : OpR X (compareOp op') r') (ha : PE X a ta) (hb : PE X b tb) (hc : PE X c tc)
    (hm : lastMarks [op, op'] [b, c] = false := by with_unfolding_all rfl) : PE X (.Compare a [op, op'] [b, c] pos) (tChain r r' ta tb tc) := by
  intro pins s σ H Q I h
  refine Compare_chain (thn (ha pins s σ H _ I h) fun v s1 ⟨x, H1, I1, r1, q1⟩ => chain_link (thn (hb pins s1 σ H1 _ I1 q1) fun u s2 ⟨y, H2, I2, r2, q2⟩ =>
    thn (ho pins s2 σ H2 x y v u _ I2 r1 r2 q2) fun d s3 ⟨z, H3, I3, r3, k, e, q3⟩ => ?_)) hm
  subst e
  cases r3
  refine wpAny_truthy_bool ?_
  cases k with
  | false => exact ite_ff ⟨.bl false, H3, I3, rfl, q3⟩
  | true => exact ite_tt (chain_last (thn (hc pins s3 σ H3 _ I3 q3) fun w' s4 ⟨z', H4, I4, r4, q4⟩ => ho' pins s4 σ H4 y z' u w' Q I4 r2 r4 q4))
/-! ### truth -/
/-- a value's truth by the abstract heap -/
noncomputable def TruV (K : PySem.W.Frag) (x : V) (H : Hp) (k : Bool) : Prop :=
  match x with
  | .non => k = false
  | .bl b => k = b
  | .int i => k = (i != 0)
  | .str y => y.length ≤ sizeLine ∧ k = ((y.length : Int) != 0)
  | .byt y => y.size ≤ sizeLine ∧ k = ((y.size : Int) != 0)
  | .ref p => (∃ xs, SqL K H p xs ∧ k = !xs.isEmpty) ∨ (∃ xs, SqT K H p xs ∧ k = !xs.isEmpty) ∨ ∃ kvs, H p = some (.dK kvs) ∧ k = !kvs.isEmpty
  | _ => False
theorem isEmpty_kv {κ : Type} {kvs : List (κ × V)} {vs : List (κ × Value)} (r : KV kvs vs) : (!vs.isEmpty) = !kvs.isEmpty := by
  cases r <;> rfl
theorem isEmpty_of {xs : List V} {its : List Value} (r : Vals xs its) : (!its.toArray.isEmpty) = !xs.isEmpty := by
  cases r <;> simp
theorem line63 : (sizeLine : Nat) < 2 ^ 63 := by rw [sizeLine_eq]; decide
theorem tru_ok : TruR X (fun x H Q => ∃ k, TruV X.K x H k ∧ Q k H) := by
  intro pins s σ H x v Q I rx h
  obtain ⟨k, e, q⟩ := h
  have hl := line63
  have hs : sizeLine = 16777216 := sizeLine_eq
  cases x with
  | non =>
    cases rx
    have e' : k = false := e
    subst e'
    exact truthy_none ⟨H, I, q⟩
  | bl b =>
    cases rx
    have e' : k = b := e
    subst e'
    exact wpAny_truthy_bool ⟨H, I, q⟩
  | int i =>
    obtain ⟨t, rfl⟩ := rx
    have e' : k = (i != 0) := e
    subst e'
    exact PySem.P.truthy_int ⟨H, I, q⟩
  | str y =>
    obtain ⟨t, rfl⟩ := rx
    obtain ⟨hy, e'⟩ : y.length ≤ sizeLine ∧ k = ((y.length : Int) != 0) := e
    subst e'
    exact PySem.P.truthy_str (by omega) ⟨H, I.tok _, q⟩
  | byt y =>
    obtain ⟨t, rfl⟩ := rx
    obtain ⟨hy, e'⟩ : y.size ≤ sizeLine ∧ k = ((y.size : Int) != 0) := e
    subst e'
    exact PySem.W.truthy_bytes (by omega) ⟨H, I.tok _, q⟩
  | ref p =>
    cases rx
    have e' : (∃ xs, SqL X.K H p xs ∧ k = !xs.isEmpty) ∨ (∃ xs, SqT X.K H p xs ∧ k = !xs.isEmpty) ∨ ∃ kvs, H p = some (.dK kvs) ∧ k = !kvs.isEmpty := e
    rcases e' with ⟨xs, hx, e'⟩ | ⟨xs, hx, e'⟩ | ⟨kvs, hx, e'⟩
    · subst e'
      obtain ⟨its, r, pl, hz⟩ := I.list hx
      have hlen := r.length
      exact wpAny_truthy_list pl.isList (by simp only [List.size_toArray]; omega) ⟨H, I.tok _, by rw [isEmpty_of r]; exact q⟩
    · subst e'
      obtain ⟨its, r, pl, hz⟩ := I.tuple hx
      have hlen := r.length
      exact truthy_tuple pl (by simp only [List.size_toArray]; omega) ⟨H, I.tok _, by rw [isEmpty_of r]; exact q⟩
    · subst e'
      obtain ⟨hz, hS, vs, r, m⟩ : kvs.length ≤ sizeLine ∧ (p == sysModules) = false ∧ ∃ vs, KV kvs vs ∧ s.heap.DictOf (mixKind X.prog X.w) p vs := I.hok p _ hx
      have hlen : kvs.length = vs.length := Paired.length r
      exact wpAny_truthy_dict hS m (by omega) ⟨H, I.tok _, by rw [isEmpty_kv r]; exact q⟩
  | _ => exact (show False from e).elim
/-- any expression whose test is its value's truth (a name, a call, a subscript, a field ..: he by fun _ => rfl) -/
theorem pt_truth (ha : PE X a ta) (he : ∀ whole, isTrue a X.env whole = (do let v ← whole; standAt a.pos; holding [v] (truthy v))) :
    PT X a (fun σ H Q => ta σ H fun x H' => ∃ k, TruV X.K x H' k ∧ Q k H') := by
  intro pins s σ H Q I h
  exact isTrue_plain (thn (ha pins s σ H _ I h) fun v s1 ⟨x, H1, I1, r1, q1⟩ => tru_ok pins s1 σ H1 x v Q I1 r1 q1) (he _)

/-! ### strs and bytes -/
/-! ### scalar builtins, by CallR -/
theorem vals1 {x : V} {us : List Value} (r : Vals [x] us) : ∃ u, us = [u] ∧ RelV x u := by
  cases r with
  | cons r1 r2 => cases r2; exact ⟨_, rfl, r1⟩
theorem vals2 {x y : V} {us : List Value} (r : Vals [x, y] us) : ∃ u w', us = [u, w'] ∧ RelV x u ∧ RelV y w' := by
  cases r with
  | cons r1 r2 =>
    cases r2 with
    | cons r3 r4 => cases r4; exact ⟨_, _, rfl, r1, r3⟩
end
end L2

namespace L2
open PySem PySem.Spec PyProof.Rows

/-! ### an instance, its attributes a map -/
structure ObjM (h : Heap) (x dx C : Addr) (mA : Str → Option Value) : Prop where
  obj : h.get? x = some (PySem.W.instObj C dx)
  ns : h.Ns1 dx mA
  ne : dx ≠ x

theorem lookIn_ns {h : Heap} {dx : Addr} {mA : Str → Option Value} (n : h.Ns1 dx mA) : ∃ od, h.get? dx = some od ∧ ∀ name, PySem.W.lookIn name od = some (mA name) := by
  obtain ⟨o, es, ep, ho, hd, hk, _, hm⟩ := n
  refine ⟨o, ho, fun name => ?_⟩
  have e := hm name
  unfold nsFind findBy at e
  rw [← Array.find?_toList] at e
  unfold PySem.W.lookIn
  rw [hd]
  dsimp only
  split
  · rename_i y q
    rw [q] at e
    exact congrArg some e
  · rename_i q
    rw [q] at e
    have a : es.toList.any (·.refKey) = false := by
      rw [List.any_eq_false]
      intro y hy
      obtain ⟨z, t, hkey⟩ := hk y (Array.mem_toList_iff.mp hy)
      simp [DictEntry.refKey, hkey]
    have a' : ¬ es.toList.any (·.refKey) = true := by rw [a]; exact Bool.false_ne_true
    rw [if_neg a']
    exact congrArg some e

theorem ObjM.look {h : Heap} {x dx C : Addr} {mA : Str → Option Value} (I : ObjM h x dx C mA) : ∃ od, PySem.W.InstAt h x (PySem.W.instObj C dx) C (some od) ∧ ∀ name, PySem.W.lookIn name od = some (mA name) :=
  let ⟨od, ho, hl⟩ := lookIn_ns I.ns
  ⟨od, ⟨I.obj, rfl, rfl, ho⟩, hl⟩

section
variable {prog : Program} {w : World} {A : Around} {E : Value → Shared → Prop} {s : Shared} {K : PySem.W.Frag} {x dx C f : Addr} {mA : Str → Option Value} {name : Str} {v : Value}

end

/-! ### the attributes as a list of pairs -/
theorem RelO.some_of {v : V} {o : Option Value} (r : RelO (some v) o) : ∃ u, o = some u ∧ RelV v u := by
  cases o with
  | none => exact (show False from r).elim
  | some u => exact ⟨u, rfl, r⟩
theorem RelO.none_of {o : Option Value} (r : RelO none o) : o = none := by
  cases o with
  | none => rfl
  | some u => exact (show False from r).elim
section
variable {P : Program} {w : World} {H H' : Hp} {h h' : Heap} {a C dx : Addr} {fs fs' : List (Str × V)}
theorem ins_get (hok : HOk P w H h) (e : H a = some (.ins C dx fs)) : ∃ mA, ObjM h a dx C mA ∧ (∀ f, RelO (fs.lookup f) (mA f)) ∧ PySem.Within mA (fs.map (·.1)) ∧ fs.length ≤ 1000 ∧ H dx = some (.own a) := by
  obtain ⟨d, z, ne, ob, mA, n, r, q⟩ := (show ObjOk P w H h a (.ins C dx fs) from hok a _ e)
  exact ⟨mA, ⟨ob, n, ne⟩, r, q, z, d⟩
end

/-! ### what of the text a class must have -/
structure Cls (K : PySem.W.Frag) (C : Addr) : Prop where
  pg : PySem.W.plainGet K C Str.empty = true
  hd : PySem.W.hasDictIn K C = true
  po : PySem.W.plainOver K C = true
  sa : PySem.W.findIn K (.ref C) "__setattr__" = some (some (.builtin "object.__setattr__"))
theorem Cls.get {K : PySem.W.Frag} {C : Addr} (c : Cls K C) (f : Str) : PySem.W.plainGet K C f = true := c.pg
section
variable {X : Cx} {pins : List (Addr × Obj)} {σ : St} {H : Hp} {s : Shared} {a C dx : Addr} {fs : List (Str × V)} {f : Str} {v : V} {A : Around} {E : Value → Shared → Prop}

/-- a new instance, tracked, without attributes -/
theorem Inv.made (I : Inv X pins σ H s) : Inv X pins σ (upd (upd H s.heap.objs.size (.own (s.heap.objs.size + 1))) (s.heap.objs.size + 1) (.ins C s.heap.objs.size []))
    { s with heap := (s.heap.push PySem.W.emptyDict).push (PySem.W.instObj C s.heap.objs.size) } := by
  have e1 : (s.heap.push PySem.W.emptyDict).get? s.heap.objs.size = some PySem.W.emptyDict := Heap.get?_push_size s.heap rfl
  have e2 : ((s.heap.push PySem.W.emptyDict).push (PySem.W.instObj C s.heap.objs.size)).get? (s.heap.objs.size + 1) = some (PySem.W.instObj C s.heap.objs.size) := by
    have := Heap.get?_push_size (s.heap.push PySem.W.emptyDict) (o := PySem.W.instObj C s.heap.objs.size) rfl
    rwa [Heap.size_push] at this
  have e3 : (s.heap.push PySem.W.emptyDict).Ns s.heap.objs.size (fun _ => none) := ⟨PySem.W.emptyDict, #[], _, e1, rfl, (fun e he => absurd he (by simp)), fun _ => rfl⟩
  have I1 := I.laid (a := s.heap.objs.size) (o := .own (s.heap.objs.size + 1)) (h' := s.heap.push PySem.W.emptyDict) (t' := s.toks) (fun b u q => Heap.get?_push_of_some _ q) (Nat.le_refl _) ⟨_, e1⟩
  refine I1.laid (a := s.heap.objs.size + 1) (o := .ins C s.heap.objs.size []) (t' := s.toks) (fun b u q => Heap.get?_push_of_some _ q) (Nat.le_of_eq (Heap.size_push _ _)) ?_
  have ne : s.heap.objs.size ≠ s.heap.objs.size + 1 := Nat.ne_of_lt (Nat.lt_succ_self _)
  refine ⟨by rw [upd_ne ne, upd_same], Nat.zero_le _, ne, e2, fun _ => none, (Heap.Ns1.of_empty e3).at fun o q => Heap.get?_push_of_some _ q, fun _ => True.intro, fun y hy => absurd rfl hy⟩

end

/-! ### readings and rules -/
section
variable {X : Cx} {o e value : Expr} {f : Str} {pos pos' tpos : Pos} {ta tv : TE}
end

/-! ### isinstance -/
section
variable {X : Cx} {pins : List (Addr × Obj)} {σ : St} {H : Hp} {s : Shared} {A : Around} {E : Value → Shared → Prop} {Q : Value → Shared → Prop} {c : Value} {b : Bool}
/-- the type of a value, as the fragment's deciders take it; for an instance its class -/
inductive TyOf (K : PySem.W.Frag) (H : Hp) : V → Value → Prop where
  | non : TyOf K H .non (.type "NoneType")
  | bl (x : Bool) : TyOf K H (.bl x) (.type "bool")
  | int (i : Int) : TyOf K H (.int i) (.type "int")
  | str (x : Str) : TyOf K H (.str x) (.type "str")
  | flt (x : UInt64) : TyOf K H (.flt x) (.type "float")
  | lst {a : Addr} {xs : List V} (e : H a = some (.lst xs)) : TyOf K H (.ref a) (.type "list")
  | frz {a : Addr} {o : Obj} {xs : List V} (e : H a = some (.frz o (.lst xs))) : TyOf K H (.ref a) (.type "list")
  | tup {a : Addr} {xs : List V} (e : H a = some (.tup xs)) : TyOf K H (.ref a) (.type "tuple")
  | dK {a : Addr} {kvs : List (Key × V)} (e : H a = some (.dK kvs)) : TyOf K H (.ref a) (.type "dict")
  | dT {a : Addr} {kvs : List (List Key × V)} (e : H a = some (.dT kvs)) : TyOf K H (.ref a) (.type "dict")
  | ins {a C dx : Addr} {fs : List (Str × V)} (e : H a = some (.ins C dx fs)) (cl : Cls K C) (ha : PySem.W.findIn K (.ref C) "__class__" = some (some (.builtin "object.__class__")))
      (hn : PySem.W.specialIn K (.builtin "object.__class__") "__get__" = some (some (.builtin "getset_descriptor.__get__"))) (htk : PySem.W.takesIn K (.builtin "object.__class__") = some true)
      (hm : PySem.W.mroIn K C (.type "object") = some true) : TyOf K H (.ref a) (.ref C)
/-- isinstance(x, c) for one class c, a built-in or an own one: kitOne's answer -/
theorem isinst_ok {x : V} {u t : Value} (I : Inv X pins σ H s) (rx : RelV x u) (ty : TyOf X.K H x t) (e : PySem.W.kitOne X.K t c = some b) (h : ∀ tk, Q (.bool b) { s with toks := tk }) :
    wpAny (model X.prog X.w) A (call (.builtin "isinstance") [u, c]) Q E s := by
  cases ty with
  | non => cases (show u = Value.none from rx); exact PySem.W.kia_one PySem.W.kitx_none I.kIn True.intro e (fun z => nomatch z) h
  | bl y => cases (show u = Value.bool y from rx); exact PySem.W.kia_one PySem.W.kitx_bool I.kIn True.intro e (fun z => nomatch z) h
  | int i => obtain ⟨t, q⟩ := (show ∃ t, u = Value.int i t from rx); cases q; exact PySem.W.kia_one PySem.W.kitx_int I.kIn True.intro e (fun z => nomatch z) h
  | str y => obtain ⟨t, q⟩ := (show ∃ t, u = Value.str y t from rx); cases q; exact PySem.W.kia_one PySem.W.kitx_str I.kIn True.intro e (fun z => nomatch z) h
  | flt y => obtain ⟨t, q⟩ := (show ∃ t, u = Value.float y t from rx); cases q; exact PySem.W.kia_one PySem.W.kitx_float I.kIn True.intro e (fun z => nomatch z) h
  | @lst a xs ea =>
    cases (show u = Value.ref a from rx)
    obtain ⟨_, _, n, _, h1⟩ := (show ObjOk X.prog X.w H s.heap a (.lst xs) from I.hok a _ ea)
    exact PySem.W.kia_one PySem.W.kitx_list I.kIn ⟨_, h1, rfl⟩ e (fun z => nomatch z) h
  | @frz a ob xs ea =>
    cases (show u = Value.ref a from rx)
    obtain ⟨_, _, _, n, _, h1⟩ := (show ObjOk X.prog X.w H s.heap a (.frz ob (.lst xs)) from I.hok a _ ea)
    exact PySem.W.kia_one PySem.W.kitx_list I.kIn ⟨_, h1, rfl⟩ e (fun z => nomatch z) h
  | @tup a xs ea =>
    cases (show u = Value.ref a from rx)
    obtain ⟨_, _, _, p⟩ := (show ObjOk X.prog X.w H s.heap a (.tup xs) from I.hok a _ ea)
    obtain ⟨⟨o, h1, h2, _⟩, _⟩ := p
    exact PySem.W.kia_one PySem.W.kitx_tuple I.kIn ⟨o, h1, h2⟩ e (fun z => nomatch z) h
  | @dK a kvs ea =>
    cases (show u = Value.ref a from rx)
    obtain ⟨_, _, vs, _, p⟩ := (show ObjOk X.prog X.w H s.heap a (.dK kvs) from I.hok a _ ea)
    obtain ⟨o, es, ep, h1, h2, _⟩ := p
    exact PySem.W.kia_one PySem.W.kitx_dict I.kIn ⟨o, h1, h2.1⟩ e (fun z => nomatch z) h
  | @dT a kvs ea =>
    cases (show u = Value.ref a from rx)
    obtain ⟨_, _, xs, _, o, es, ep, h1, h2, _⟩ := (show ObjOk X.prog X.w H s.heap a (.dT kvs) from I.hok a _ ea)
    exact PySem.W.kia_one PySem.W.kitx_dict I.kIn ⟨o, h1, h2.1⟩ e (fun z => nomatch z) h
  | @ins a C dx fs ea cl ha hn htk hm =>
    cases (show u = Value.ref a from rx)
    obtain ⟨mA, O, _⟩ := ins_get I.hok ea
    obtain ⟨od, J, _⟩ := O.look
    exact PySem.W.kia_one (PySem.W.kitx_own (cl.get _) cl.hd ha hn htk hm) I.kIn J e (fun z => nomatch z) h
end
end L2

namespace L2
open PySem PySem.Spec PyProof.Rows

/-! ### room -/
structure Room (k : Nat) (A : Around) : Prop where
  hd : A.handled = none
  dp : A.depth + 3 * k + 5 < recursionLimit
  un : A.units + 16 * k + 200 < cLine
theorem Room.mono {j k : Nat} {A : Around} (r : Room k A) (h : j ≤ k) : Room j A := ⟨r.hd, by have := r.dp; omega, by have := r.un; omega⟩
theorem Room.deeper {k : Nat} {A : Around} (r : Room (k + 1) A) (env : Env) : Room k (A.deeper env) :=
  ⟨r.hd, by have := r.dp; show A.depth + 1 + 3 * k + 5 < _; omega, by have := r.un; show A.units + 3 + 16 * k + 200 < _; omega⟩
theorem Room.in1 {k : Nat} {A : Around} (r : Room (k + 1) A) : Room k A.in1 :=
  ⟨r.hd, by have := r.dp; show A.depth + 3 * k + 5 < _; omega, by have := r.un; show A.units + 1 + 16 * k + 200 < _; omega⟩
theorem make_depth {A : Around} {C : Addr} {us : List Value} {kw : List (Str × Value)} : (A.under (.builtin "type.__call__" ⟨.ref C :: us, kw⟩)).depth = A.depth + 1 := by
  first | rfl | simp [Around.under, Code.weight, Code.isCreation, Code.isGuard, Code.isCaller, Code.frames, Code.isFrame, guardIds]
theorem make_units {A : Around} {C : Addr} {us : List Value} {kw : List (Str × Value)} : (A.under (.builtin "type.__call__" ⟨.ref C :: us, kw⟩)).units = A.units + 1 := by
  first | rfl | simp [Around.under, Code.cUnits, Code.frames, Code.isFrame]
theorem Room.make {k : Nat} {A : Around} (r : Room (k + 1) A) (C : Addr) (us : List Value) (kw : List (Str × Value)) : Room k (A.under (.builtin "type.__call__" ⟨.ref C :: us, kw⟩)) :=
  ⟨r.hd, by have := r.dp; rw [make_depth]; omega, by have := r.un; rw [make_units]; omega⟩
theorem Room.depth {k : Nat} {A : Around} (r : Room k A) : A.depth < recursionLimit := by have := r.dp; omega
theorem Room.units {k : Nat} {A : Around} (r : Room k A) : A.units + 64 < cLine := by have := r.un; omega
theorem Room.units0 {k : Nat} {A : Around} (r : Room k A) : A.units < cLine := by have := r.un; omega

/-! ### argument lists and displays -/
noncomputable def tNil : TA := fun _ H Q => Q [] H
noncomputable def tCons (ta : TE) (tr : TA) : TA := fun σ H Q => ta σ H fun x H1 => tr σ H1 fun xs H2 => Q (x :: xs) H2
section
variable {X : Cx} {e : Expr} {es : List Expr} {te : TE} {t : TA} {pos : Pos}
theorem pa_nil : PA X [] tNil := fun _ _ _ _ H Q I h => Calls.spliced_nil ⟨[], H, I, .nil, h⟩
theorem pa_cons (ha : PE X e te) (hr : PA X es t) (hs : starEach (e :: es) X.env = (false, eval e X.env) :: starEach es X.env := by rfl) : PA X (e :: es) (tCons te t) := by
  intro pos pins s σ H Q I h
  rw [hs]
  show wpAny _ _ (spliced ((false, eval e X.env) :: backTo pos (starEach es X.env))) _ _ s
  refine Calls.spliced_cons (thn (ha pins s σ H _ I h) fun u s1 ⟨x, H1, I1, r1, q1⟩ => ?_)
  exact thn (hr pos pins s1 σ H1 _ I1 q1) fun us s2 ⟨xs, H2, I2, r2, q2⟩ => ⟨x :: xs, H2, I2, .cons r1 r2, q2⟩

/-- a tuple, a list of written items -/
noncomputable def tTup (t : TA) : TE := fun σ H Q => t σ H fun xs H1 => xs.length ≤ sizeLine ∧ ∀ p, H1 p = none → Q (.ref p) (upd H1 p (.tup xs))
noncomputable def tLst (t : TA) : TE := fun σ H Q => t σ H fun xs H1 => xs.length ≤ sizeLine ∧ ∀ p, H1 p = none → Q (.ref p) (upd H1 p (.lst xs))
theorem pe_tup {x1} (h : PA X es t) : PE X (.Tuple es x1 pos) (tTup t) := by
  intro pins s σ H Q I hq
  refine wpAny_Tuple_spliced (thn (h pos pins s σ H _ I hq) fun us s1 ⟨xs, H1, I1, r, z, q⟩ => ⟨by rw [← r.length]; exact z, ?_⟩)
  have hf : H1 s1.heap.objs.size = none := I1.hok.fresh (Nat.le_refl _)
  refine ⟨.ref s1.heap.objs.size, upd H1 s1.heap.objs.size (.tup xs), I1.laid (t' := s1.toks) (fun b u e => Heap.get?_push_of_some _ e) (Nat.le_refl _) ?_, rfl, q _ hf⟩
  exact ⟨z, us, r, ⟨_, Heap.get?_push_size _ rfl, rfl, _, rfl⟩, NoD.push⟩
theorem pe_lst (h : PA X es t) : PE X (.List es pos) (tLst t) := by
  intro pins s σ H Q I hq
  refine wpAny_List_spliced (thn (h pos pins s σ H _ I hq) fun us s1 ⟨xs, H1, I1, r, z, q⟩ => ⟨by rw [← r.length]; exact z, ?_⟩)
  have hf : H1 s1.heap.objs.size = none := I1.hok.fresh (Nat.le_refl _)
  refine ⟨.ref s1.heap.objs.size, upd H1 s1.heap.objs.size (.lst xs), I1.laid (t' := s1.toks) (fun b u e => Heap.get?_push_of_some _ e) (Nat.le_refl _) ?_, rfl, q _ hf⟩
  exact ⟨z, us, 0, r, Heap.get?_push_size _ rfl⟩
end

/-! ### what a def promises -/
/-- a def's promise: the bound arguments in the parameters' order, the heap, the wanted end, the wanted exception -/
abbrev Sp := List V → Hp → VK → XK → Prop
/-- how an exception lies behind a call (file 08 gives it): the callers' frames, abstract heap and state ahead of the call, the wish, the exception, the state -/
abbrev CXT := List Env → Hp → Shared → XK → Value → Shared → Prop

/-- the state at a call -/
structure Env0 (P : Program) (w : World) (K : PySem.W.Frag) (mg : Str → Option Value) (base : Heap) (A : Around) (outer : List Env) (s : Shared) (H : Hp) : Prop where
  frames : A.frames = some outer
  mod : Mod K mg base
  bs : ∀ b o, base.get? b = some o → s.heap.get? b = some o ∧ H b = none
  bsz : base.objs.size ≤ s.heap.objs.size
  funs : s.heap.FunFrames base outer
  frf : ∀ b ∈ frs outer, H b = none
  hok : HOk P w H s.heap
  bare : AllBare s.gens
/-- a call's end -/
noncomputable def CE (outer : List Env) (P : Program) (w : World) (H : Hp) (s : Shared) (Q : VK) (u : Value) (s' : Shared) : Prop :=
  ∃ v H', s'.os = s.os ∧ AllBare s'.gens ∧ Un (frs outer) [] H H' s.heap s'.heap ∧ HOk P w H' s'.heap ∧ RelV v u ∧ Q v H'
noncomputable def CR (CX : CXT) (outer : List Env) (P : Program) (w : World) (H : Hp) (s : Shared) (Q : VK) (E : XK) (r : Result) (s' : Shared) : Prop :=
  match r with
  | .ok (.ret u) => CE outer P w H s Q u s'
  | .ok _ => False
  | .error e => CX outer H s E e s'
structure FnOk (P : Program) (w : World) (K : PySem.W.Frag) (mg : Str → Option Value) (base : Heap) (CX : CXT) (k : Nat) (f : Addr) (fd : FuncData) (ps : List Str) (sp : Sp) : Prop where
  len : ∀ vs H Q E, sp vs H Q E → vs.length = ps.length
  run : ∀ (A : Around) (outer : List Env) (s : Shared) (H : Hp) (args : Args) (us : List Value) (vs : List V) (Q : VK) (E : XK), Room k A → Env0 P w K mg base A outer s H → BindsTo s fd args (ps.zip us) → Vals vs us → sp vs H Q E →
    codeAny (model P w) A (.call (.ref f) args) (CR CX outer P w H s Q E) s
theorem FnOk.mono {P : Program} {w : World} {K : PySem.W.Frag} {mg : Str → Option Value} {base : Heap} {CX : CXT} {j k : Nat} {f : Addr} {fd : FuncData} {ps : List Str} {sp : Sp} (F : FnOk P w K mg base CX j f fd ps sp) (h : j ≤ k) :
    FnOk P w K mg base CX k f fd ps sp := ⟨F.len, fun A outer s H args us vs Q E hr => F.run A outer s H args us vs Q E (hr.mono h)⟩
/-- a weaker promise -/
theorem FnOk.imp {P : Program} {w : World} {K : PySem.W.Frag} {mg : Str → Option Value} {base : Heap} {CX : CXT} {k : Nat} {f : Addr} {fd : FuncData} {ps : List Str} {sp sp' : Sp} (F : FnOk P w K mg base CX k f fd ps sp)
    (h : ∀ vs H Q E, sp' vs H Q E → sp vs H Q E) : FnOk P w K mg base CX k f fd ps sp' :=
  ⟨fun vs H Q E q => F.len vs H Q E (h _ _ _ _ q), fun A outer s H args us vs Q E hr he hb hv hs => F.run A outer s H args us vs Q E hr he hb hv (h _ _ _ _ hs)⟩

theorem Env0.make {P : Program} {w : World} {K : PySem.W.Frag} {mg : Str → Option Value} {base : Heap} {A : Around} {outer : List Env} {s : Shared} {H : Hp} (e : Env0 P w K mg base A outer s H) (C : Addr) (us : List Value) (kw : List (Str × Value)) :
    Env0 P w K mg base (A.under (.builtin "type.__call__" ⟨.ref C :: us, kw⟩)) outer s H := ⟨by first | exact e.frames | (simpa [Around.under, Code.envs, Code.isFrame, pushEnvs] using e.frames), e.mod, e.bs, e.bsz, e.funs, e.frf, e.hok, e.bare⟩
theorem Env0.in1 {P : Program} {w : World} {K : PySem.W.Frag} {mg : Str → Option Value} {base : Heap} {A : Around} {outer : List Env} {s : Shared} {H : Hp} (e : Env0 P w K mg base A outer s H) :
    Env0 P w K mg base A.in1 outer s H := ⟨e.frames, e.mod, e.bs, e.bsz, e.funs, e.frf, e.hok, e.bare⟩

section
variable {X : Cx} {pins : List (Addr × Obj)} {σ : St} {H : Hp} {s s' : Shared}
/-- from a body: what a callee wants -/
theorem Inv.env0 (I : Inv X pins σ H s) : Env0 X.prog X.w X.K X.mg X.base X.A X.stack s H :=
  ⟨I.ok.frames, I.ok.mod, I.bs, Nat.le_trans I.ok.bsz I.sz, I.stack, I.stkFree, I.hok, I.bare⟩
/-- behind a call -/
theorem Inv.after {Q : VK} {u : Value} (I : Inv X pins σ H s) (h : CE X.stack X.prog X.w H s Q u s') : EP X pins σ Q u s' := by
  obtain ⟨v, H', os, bare, un, hok, r, q⟩ := h
  obtain ⟨hh, g, d, t, os'⟩ := s'
  obtain rfl : os' = s.os := os
  exact ⟨v, H', I.call (h' := hh) (g' := g) (d' := d) (t' := t) (ch := []) un hok bare (fun b z => absurd z (by simp)), r, q⟩
end

/-! ### calls -/
/-- f(..): the written arguments, then the defaults dvs; E: what is wanted of an exception -/
noncomputable def tCall (sp : Sp) (dvs : List V) (E : XK) (t : TA) : TE := fun σ H Q => t σ H fun vs H1 => sp (vs ++ dvs) H1 Q E
/-- how the parameters are bound: us the positional arguments, kw the keywords' values by name, ds the defaults that fill up -/
noncomputable def Binds (K : PySem.W.Frag) (fd : FuncData) (ps : List Str) (ds : List Value) : Prop :=
  ∀ (s : Shared) (us : List Value), K.In s.heap → (us ++ ds).length = ps.length → BindsTo s fd ⟨us, []⟩ (ps.zip (us ++ ds))
/-- every parameter is given -/
theorem Binds.all {K : PySem.W.Frag} {fd : FuncData} {ps : List Str} (h : ∀ us : List Value, us.length = ps.length → bindArgs fd ⟨us, []⟩ = pure (ps.zip us)) : Binds K fd ps [] := fun s us _ hl => by
  rw [List.append_nil] at hl ⊢
  exact .of_eq (h us hl)

/-- an exception of a callee reaches what this body wants of exceptions -/
noncomputable def Passes (CX : CXT) (X : Cx) (E : XK) : Prop := ∀ (pins : List (Addr × Obj)) (σ : St) (H : Hp) (s : Shared) (e : Value) (s' : Shared), Inv X pins σ H s → CX X.stack H s E e s' → X.xe e s'

section
variable {X : Cx} {CX : CXT} {k : Nat} {f C : Addr} {fd : FuncData} {ps : List Str} {sp : Sp} {dvs : List V} {ds : List Value} {E : XK} {x m : Str} {p pos apos : Pos} {e o : Expr} {es : List Expr} {ta : TE} {t : TA}

/-- the callee runs -/
theorem run_fn {pins : List (Addr × Obj)} {σ : St} {H : Hp} {s : Shared} {Q : VK} {us : List Value} {vs : List V} (F : FnOk X.prog X.w X.K X.mg X.base CX k f fd ps sp) (hr : Room k X.A) (hb : Binds X.K fd ps ds) (hd : Vals dvs ds) (hx : Passes CX X E)
    (I : Inv X pins σ H s) (r : Vals vs us) (h : sp (vs ++ dvs) H Q E) : wpAny (model X.prog X.w) X.A (call (.ref f) us) (EP X pins σ Q) X.xe s := by
  have r2 : Vals (vs ++ dvs) (us ++ ds) := r.append hd
  have hl : (us ++ ds).length = ps.length := by rw [← r2.length]; exact F.len _ _ _ _ h
  refine wpAny_call (codeAny_mono (F.run X.A X.stack s H ⟨us, []⟩ (us ++ ds) (vs ++ dvs) Q E hr I.env0 (hb s us I.kIn hl) r2 h) fun r s' hq => ?_)
  cases r with
  | error e => exact hx pins σ H s e s' I hq
  | ok fl =>
    cases fl with
    | ret u => exact I.after hq
    | next => exact False.elim hq
    | brk => exact False.elim hq
    | cont => exact False.elim hq

theorem pe_call (F : FnOk X.prog X.w X.K X.mg X.base CX k f fd ps sp) (hr : Room k X.A) (hg : Gl X x) (hm : X.mg x = some (.ref f)) (hk : PySem.W.keepIn X.K (.ref f) = true) (hb : Binds X.K fd ps ds) (hd : Vals dvs ds) (hx : Passes CX X E)
    (ha : PA X (e :: es) t) (hdb : (x == ("__debug__" : Str)) = false := by decide) (he : starEach (e :: es) X.env = (false, eval e X.env) :: starEach es X.env := by rfl) (hpl : (backTo pos (starEach es X.env)).any (·.1) = false := by rfl) :
    PE X (.Call (.Name x p) (e :: es) [] pos) (tCall sp dvs E t) := by
  intro pins s σ H Q I h
  refine wpAny_Call_Name_kw (ld_glob I hg hm ?_ hdb)
  refine PySem.W.callWith_K (h₀ := X.base) I.ok.mod.kin hk (thn (ha pos pins s σ H _ I h) fun us s1 ⟨vs, H1, I1, r, q⟩ => ⟨I1.kIn, ?_⟩) he hpl
  exact run_fn F hr hb hd hx I1 r q
end

/-! ### keywords -/
section
variable {X : Cx} {CX : CXT} {k : Nat} {f C : Addr} {fd : FuncData} {ps ks : List Str} {sp : Sp} {E : XK} {x m : Str} {p pos apos kpos : Pos} {e o : Expr} {es : List Expr} {kws : List Keyword} {te ta : TE} {t tk : TA} {nm : Option Str}
variable {g : List Value → List Value → List Value} {gV : List V → List V → List V}
end

/-! ### a def's body keeps its promise -/
/-- names: the parameters first -/
structure FnScope (N P : List Str) (sc : Scope) : Prop where
  kind : sc.kind = .function
  co : sc.isCoroutine = false
  gen : sc.isGenerator = false
  nd : N.Nodup
  pre : N.take P.length = P
  par : ∀ x ∈ P, sc.names.lookup x = some .local ∨ sc.names.lookup x = some .cell
  nofree : ∀ y ∈ sc.names, y.2 ≠ .free

theorem bindL_out {kindOf : Str → Option NameKind} {x : Str} : ∀ {binds : List (Str × Value)} {m : Str → Option Value}, (∀ v, (x, v) ∉ binds) → bindL kindOf binds m x = m x
  | [], _, _ => rfl
  | (n, v) :: r, m, h => by
    unfold bindL
    rw [bindL_out fun w hw => h w (List.mem_cons_of_mem _ hw)]
    split
    · have : x ≠ n := by rintro rfl; exact h v List.mem_cons_self
      simp [this]
    · rfl
theorem bindC_out {kindOf : Str → Option NameKind} {x : Str} : ∀ {binds : List (Str × Value)} {m : Str → Option Value}, (∀ v, (x, v) ∉ binds) → bindC kindOf binds m x = m x
  | [], _, _ => rfl
  | (n, v) :: r, m, h => by
    unfold bindC
    rw [bindC_out fun w hw => h w (List.mem_cons_of_mem _ hw)]
    split
    · rfl
    · have : x ≠ n := by rintro rfl; exact h v List.mem_cons_self
      simp [this]
theorem bindL_get {kindOf : Str → Option NameKind} {x : Str} {v : Value} : ∀ {P : List Str} {vs : List Value} {i : Nat} {m : Str → Option Value}, P.Nodup → P[i]? = some x → vs[i]? = some v → kindOf x = some .local →
    bindL kindOf (P.zip vs) m x = some v
  | [], _, _, _, _, h, _, _ => by simp at h
  | _ :: _, [], _, _, _, _, h, _ => by simp at h
  | p :: P, w :: vs, 0, m, nd, h1, h2, hk => by
    simp at h1 h2; subst h1; subst h2
    show bindL kindOf ((p, w) :: P.zip vs) m p = _
    unfold bindL
    rw [bindL_out fun v hv => (List.nodup_cons.mp nd).1 (List.of_mem_zip hv).1, if_pos hk]
    simp
  | p :: P, w :: vs, i + 1, m, nd, h1, h2, hk => by
    show bindL kindOf ((p, w) :: P.zip vs) m x = _
    unfold bindL
    exact bindL_get (i := i) (List.nodup_cons.mp nd).2 (by simpa using h1) (by simpa using h2) hk
theorem bindC_get {kindOf : Str → Option NameKind} {x : Str} {v : Value} : ∀ {P : List Str} {vs : List Value} {i : Nat} {m : Str → Option Value}, P.Nodup → P[i]? = some x → vs[i]? = some v → kindOf x ≠ some .local →
    bindC kindOf (P.zip vs) m x = some v
  | [], _, _, _, _, h, _, _ => by simp at h
  | _ :: _, [], _, _, _, _, h, _ => by simp at h
  | p :: P, w :: vs, 0, m, nd, h1, h2, hk => by
    simp at h1 h2; subst h1; subst h2
    show bindC kindOf ((p, w) :: P.zip vs) m p = _
    unfold bindC
    rw [bindC_out fun v hv => (List.nodup_cons.mp nd).1 (List.of_mem_zip hv).1, if_neg hk]
    simp
  | p :: P, w :: vs, i + 1, m, nd, h1, h2, hk => by
    show bindC kindOf ((p, w) :: P.zip vs) m x = _
    unfold bindC
    exact bindC_get (i := i) (List.nodup_cons.mp nd).2 (by simpa using h1) (by simpa using h2) hk

/-- the names' values at the entry -/
noncomputable def start (N : List Str) (vs : List V) : St := vs.map some ++ List.replicate (N.length - vs.length) none

/-- the context of a def's body, at its entry; an exception leaves the frame, then lies as CX says -/
noncomputable def cxOf (CX : CXT) (P : Program) (w : World) (K : PySem.W.Frag) (mg : Str → Option Value) (base : Heap) (N : List Str) (qual : Str) (scope : Scope) (f : Addr) (cd : Value) (A : Around) (outer : List Env) (s : Shared) (H : Hp) (E : XK) : Cx where
  prog := P
  w := w
  K := K
  mg := mg
  base := base
  A := A.deeper (envOfC qual scope s.heap.objs.size f cd)
  N := N
  s₀ := s
  H₀ := H
  env := envOfC qual scope s.heap.objs.size f cd
  outer := outer
  stack := envOfC qual scope s.heap.objs.size f cd :: outer
  ex := []
  calm := true
  fn := fun _ => true
  pn := []
  xe := fun e s' => wpAny (model P w) (A.deeper (envOfC qual scope s.heap.objs.size f cd)) (leaving (envOfC qual scope s.heap.objs.size f cd) e) (fun _ s'' => CX outer H s E e s'') (fun e' s'' => CX outer H s E e' s'') s'

theorem cell_has {sc : Scope} {n : Nat} {x : Str} (h : sc.names.lookup x = some .cell) : ∃ c, (cellsFrom n sc.names []).lookup x = some c := by
  have q := PySem.W.cellsFrom_some sc.names n [] (.inl h)
  exact Option.isSome_iff_exists.mp q

theorem inv_start {CX : CXT} {P : Program} {w : World} {K : PySem.W.Frag} {mg : Str → Option Value} {base : Heap} {N ps : List Str} {qual : Str} {scope : Scope} {f : Addr} {cd : Value} {A : Around} {outer : List Env} {s s1 : Shared} {H : Hp} {E : XK} {us : List Value} {vs : List V}
    (S : FnScope N ps scope) (hd : A.handled = none) (e0 : Env0 P w K mg base A outer s H) (hl : vs.length = ps.length) (r : Vals vs us)
    (x : InCallC s s.heap.objs.size (bindL (envOfC qual scope s.heap.objs.size f cd).kindOf (ps.zip us) fun _ => none) (cellsFrom (s.heap.objs.size + 1) scope.names []) (bindC (envOfC qual scope s.heap.objs.size f cd).kindOf (ps.zip us) fun _ => none) s1) :
    Inv (cxOf CX P w K mg base N qual scope f cd A outer s H E) [] (start N vs) H s1 := by
  have hpl : ps.length ≤ N.length := by have := congrArg List.length S.pre; rw [List.length_take] at this; omega
  obtain ⟨h1, tk, rfl, hk⟩ := x.done
  have noA : ∀ b : Addr, b ∉ (cxOf CX P w K mg base N qual scope f cd A outer s H E).ex := fun b z => absurd (show b ∈ ([] : List Addr) from z) (by simp)
  refine ⟨⟨e0.mod, S.kind, rfl, rfl, Nat.le_refl _, fun y z c h1 h2 => ?_, fun y hy => ?_, fun y c _ h => ?_, fun _ => hd, Around.frames_deeper e0.frames, .inr ⟨rfl, rfl⟩, fun b z => absurd z (noA b), e0.bs, e0.bsz, fun b _ _ => noA b, fun b z => absurd z (noA b), e0.funs, e0.frf⟩,
    rfl, e0.bare, Un.kept hk, ⟨_, x.toInCall.ns, fun i y v h1 h2 h3 => ?_⟩, fun y c h => ⟨_, x.cell y c h⟩, e0.hok.fresh (Nat.le_refl _), fun y c h => ?_, fun p hp => absurd (show p ∈ ([] : List (Addr × Obj)) from hp) (by simp), e0.hok.kept hk, ?_⟩
  · exact name_of_addr x.apart (PySem.mem_of_lookup h1) (PySem.mem_of_lookup h2)
  · have hy : scope.names.lookup y = some .cell ∨ scope.names.lookup y = some .free := hy
    rcases hy with hy | hy
    · exact cell_has hy
    · exact absurd rfl (S.nofree _ (PySem.mem_of_lookup hy))
  · exact Nat.le_of_lt (x.above y c (PySem.mem_of_lookup h))
  · have hi : i < vs.length := by
      unfold start at h2
      by_cases hi : i < vs.length
      · exact hi
      · rw [List.getElem?_append_right (by simpa using hi)] at h2
        rw [List.getElem?_replicate] at h2
        split at h2 <;> cases h2
    have ha : vs[i]? = some v := by
      unfold start at h2
      rw [List.getElem?_append_left (by simpa using hi), List.getElem?_map] at h2
      cases e : vs[i]? with
      | none => rw [e] at h2; cases h2
      | some a => rw [e] at h2; cases h2; rfl
    obtain ⟨u, hu, rv⟩ := r.get ha
    have hp : ps[i]? = some y := by
      rw [← S.pre, List.getElem?_take_of_lt (by omega)]; exact h1
    have ndP : ps.Nodup := by rw [← S.pre]; exact S.nd.sublist (List.take_sublist _ _)
    refine ⟨u, rv, ?_⟩
    rcases S.par y (List.mem_of_getElem? hp) with k | k
    · exact .inl ⟨k, bindL_get ndP hp hu k⟩
    · obtain ⟨c, e⟩ := cell_has (n := s.heap.objs.size + 1) k
      refine .inr ⟨.inl k, c, e, ?_⟩
      have q := x.cell y c e
      rw [bindC_get ndP hp hu (by show scope.names.lookup y ≠ _; rw [k]; decide)] at q
      exact q
  · exact e0.hok.fresh (Nat.le_of_lt (x.above y c (PySem.mem_of_lookup h)))
  · unfold start
    show _ = N.length
    rw [List.length_append, List.length_map, List.length_replicate]
    omega

/-- THE RULE: a def (or a method) of the text, by its body. The body's reading t is chosen for each entry; it is run at the parameters' values -/
theorem fn_of {CX : CXT} {P : Program} {w : World} {K : PySem.W.Frag} {mg : Str → Option Value} {base : Heap} {k : Nat} {f : Addr} {name qual : Str} {params : Arguments} {body : List Stmt} {scope : Scope} {dV kV doc pm cdv ct oc : Value} {an od : Option Addr}
    {osl : Array (Option Value)} {N ps : List Str} {sp : Sp} (lk : K.lookup f = some ⟨oc, od, .func (PySem.W.fnOf name qual params body scope dV kV doc pm an cdv ct), osl⟩) (hcd : PySem.W.codeIn K cdv qual = true) (S : FnScope N ps scope)
    (len : ∀ vs H Q E, sp vs H Q E → vs.length = ps.length)
    (hbody : ∀ (A : Around) (outer : List Env) (s : Shared) (H : Hp) (vs : List V) (Q : VK) (E : XK), Room k (A.deeper (envOfC qual scope s.heap.objs.size f cdv)) → sp vs H Q E →
      ∃ t, PSs (cxOf CX P w K mg base N qual scope f cdv A outer s H E) body t ∧ t { nx := fun _ H' => Q .non H', rt := Q } (start N vs) H) :
    FnOk P w K mg base CX (k + 1) f (PySem.W.fnOf name qual params body scope dV kV doc pm an cdv ct) ps sp := by
  refine ⟨len, fun A outer s H args us vs Q E hr e0 hb r hsp => ?_⟩
  have hl := len _ _ _ _ hsp
  have KX : K.In s.heap := e0.mod.kin.keeps fun b o e => (e0.bs b o e).1
  have lim : s.heap.NoLimit := e0.mod.nolimit.keeps fun b o e => (e0.bs b o e).1
  have hkind : ∀ y ∈ ps.zip us, scope.names.lookup y.1 = some .local ∨ (scope.names.lookup y.1 = some .cell ∧ ((cellsFrom (s.heap.objs.size + 1) scope.names []).lookup y.1).isSome = true) := fun ⟨n, v⟩ hy => by
    rcases S.par n (List.of_mem_zip hy).1 with q | q
    · exact .inl q
    · exact .inr ⟨q, PySem.W.cellsFrom_some _ _ _ (.inl q)⟩
  refine codeAny_call_function hr.depth (KX _ _ lk) rfl S.co S.gen rfl (PySem.W.codeRec_of KX hcd) (hb _ _ _ _ ?_)
  refine wpAny_newFunctionEnv_cells S.kind hkind fun env he s1 x => ?_
  subst he
  refine ⟨lim.keeps x.toInCall.keep, codeAny_func ?_⟩
  obtain ⟨t, ht, hq⟩ := hbody A outer s H vs Q E (hr.deeper _) hsp
  have I : Inv (cxOf CX P w K mg base N qual scope f cdv A outer s H E) [] (start N vs) H s1 := inv_start S hr.hd e0 hl r x
  refine wpAny_mono (ht [] s1 (start N vs) H _ I hq) (fun fl s' hs => ?_) fun e s' hs => hs
  have fin : ∀ {σ' : St} {H' : Hp} {v : V} {u : Value}, Inv (cxOf CX P w K mg base N qual scope f cdv A outer s H E) [] σ' H' s' → RelV v u → Q v H' → CE outer P w H s Q u s' :=
    fun {σ' H' v u} J rv q => ⟨v, H', J.os, J.bare, J.base, J.hok, rv, q⟩
  cases fl with
  | ret u =>
    obtain ⟨v, σ', H', J, rv, q⟩ := hs
    exact fin J rv q
  | next =>
    obtain ⟨σ', H', J, q⟩ := hs
    exact fin (v := V.non) (u := Value.none) J rfl q
  | brk =>
    obtain ⟨_, _, _, q⟩ := hs
    exact False.elim q
  | cont =>
    obtain ⟨_, _, _, q⟩ := hs
    exact False.elim q
end L2

namespace L2
open PySem PySem.Spec PyProof.Rows
section
variable {X : Cx} {x : Str} {p pos : Pos} {e : Expr} {es : List Expr} {t : TA} {id T : String} {r : List V → Hp → VK → Prop}

noncomputable def tCB (r : List V → Hp → VK → Prop) (t : TA) : TE := fun σ H Q => t σ H fun vs H1 => r vs H1 Q
/-- f(e, ..), f a built-in function -/
theorem pe_callB (hc : CallR X (.builtin id) r) (hg : Gl X x) (hm : X.mg x = none) (hv : bootBuiltins x = some (.builtin id)) (ha : PA X (e :: es) t) (hn : x ≠ "__name__" := by decide) (hdb : (x == ("__debug__" : Str)) = false := by decide)
    (he : starEach (e :: es) X.env = (false, eval e X.env) :: starEach es X.env := by rfl) (hpl : (backTo pos (starEach es X.env)).any (·.1) = false := by rfl) : PE X (.Call (.Name x p) (e :: es) [] pos) (tCB r t) := by
  intro pins s σ H Q I h
  refine wpAny_Call_Name_kw (ld_blt I hg hm hv ?_ hn hdb)
  exact PyProof.Rows.callWith_builtin1 (thn (ha pos pins s σ H _ I h) fun us s1 ⟨vs, H1, I1, r1, q1⟩ => hc pins s1 σ H1 vs us Q I1 r1 q1) he hpl
/-- T(e, ..), T a built-in type -/
theorem pe_callTy (hc : CallR X (.type T) r) (hg : Gl X x) (hm : X.mg x = none) (hv : bootBuiltins x = some (.type T)) (ha : PA X (e :: es) t) (hn : x ≠ "__name__" := by decide) (hdb : (x == ("__debug__" : Str)) = false := by decide)
    (he : starEach (e :: es) X.env = (false, eval e X.env) :: starEach es X.env := by rfl) (hpl : (backTo pos (starEach es X.env)).any (·.1) = false := by rfl) : PE X (.Call (.Name x p) (e :: es) [] pos) (tCB r t) := by
  intro pins s σ H Q I h
  refine wpAny_Call_Name_kw (ld_blt I hg hm hv ?_ hn hdb)
  exact PyProof.Rows.callWith_type1 (thn (ha pos pins s σ H _ I h) fun us s1 ⟨vs, H1, I1, r1, q1⟩ => hc pins s1 σ H1 vs us Q I1 r1 q1) he hpl
end
end L2

namespace L2
open PySem PySem.Spec PyProof.Rows

/-! ### lists of pairs as tables -/
section
variable {κ : Type} [DecidableEq κ]
noncomputable def valV (kvs : List (κ × V)) (k : κ) : Option V := (kvs.find? fun kv => decide (kv.1 = k)).map (·.2)
/-- in its place, or at the end -/
noncomputable def putK (kvs : List (κ × V)) (k : κ) (v : V) : List (κ × V) :=
  if (kvs.any fun kv => decide (kv.1 = k)) = true then kvs.map (fun kv => if kv.1 = k then (kv.1, v) else kv) else kvs ++ [(k, v)]
noncomputable def dropK (kvs : List (κ × V)) (k : κ) : List (κ × V) := kvs.filter fun kv => decide (kv.1 ≠ k)

theorem valV_pos {p : κ × V} {r : List (κ × V)} {k : κ} (e : p.1 = k) : valV (p :: r) k = some p.2 := by simp [valV, List.find?_cons, e]
theorem valV_neg {p : κ × V} {r : List (κ × V)} {k : κ} (e : ¬ p.1 = k) : valV (p :: r) k = valV r k := by simp [valV, List.find?_cons, e]
theorem valV_any (k : κ) : ∀ kvs : List (κ × V), (kvs.any fun kv => decide (kv.1 = k)) = (valV kvs k).isSome
  | [] => rfl
  | p :: r => by
    rw [List.any_cons]
    by_cases e : p.1 = k
    · simp only [valV_pos e, decide_eq_true e, Bool.true_or, Option.isSome_some]
    · rw [valV_neg e, decide_eq_false e, Bool.false_or]; exact valV_any k r
theorem length_putK (kvs : List (κ × V)) (k : κ) (v : V) : (putK kvs k v).length ≤ kvs.length + 1 := by
  unfold putK
  split
  · rw [List.length_map]; omega
  · rw [List.length_append, List.length_cons, List.length_nil]; omega
theorem putK_new {kvs : List (κ × V)} {k : κ} (v : V) (h : valV kvs k = none) : putK kvs k v = kvs ++ [(k, v)] := by
  unfold putK
  rw [valV_any, h]
  exact if_neg (by decide)

theorem RelO.isSome_eq {o : Option V} {u : Option Value} (r : RelO o u) : o.isSome = u.isSome := by
  cases o with
  | none => cases u with
    | none => rfl
    | some _ => exact (show False from r).elim
  | some _ => cases u with
    | none => exact (show False from r).elim
    | some _ => rfl
theorem RelO.getD {o : Option V} {u : Option Value} {d : V} {d' : Value} (r : RelO o u) (rd : RelV d d') : RelV (o.getD d) (u.getD d') := by
  cases o with
  | none => cases u with
    | none => exact rd
    | some _ => exact (show False from r).elim
  | some _ => cases u with
    | none => exact (show False from r).elim
    | some _ => exact r

/-- raw tables of the same keys -/
theorem KV.val {kvs : List (κ × V)} {vs : List (κ × Value)} (r : KV kvs vs) (k : κ) : RelO (valV kvs k) (valueAt vs k) := by
  unfold KV at r
  induction r with
  | nil => exact True.intro
  | @cons p q ps qs h t ih =>
    obtain ⟨h1, h2⟩ := h
    by_cases e : p.1 = k
    · have e' : q.1 = k := h1.symm.trans e
      have b : valueAt (q :: qs) k = some q.2 := by simp [valueAt, List.find?_cons, e']
      rw [valV_pos e, b]; exact h2
    · have e' : ¬ q.1 = k := fun z => e (h1.trans z)
      have b : valueAt (q :: qs) k = valueAt qs k := by simp [valueAt, List.find?_cons, e']
      rw [valV_neg e, b]; exact ih
theorem KV.any {kvs : List (κ × V)} {vs : List (κ × Value)} (r : KV kvs vs) (k : κ) : (kvs.any fun kv => decide (kv.1 = k)) = vs.any fun kv => decide (kv.1 = k) := by
  unfold KV at r
  induction r with
  | nil => rfl
  | cons h t ih => rw [List.any_cons, List.any_cons, ih, h.1]
theorem KV.repl {kvs : List (κ × V)} {vs : List (κ × Value)} (r : KV kvs vs) (k : κ) {y : V} {u : Value} (ry : RelV y u) :
    KV (kvs.map fun kv => if kv.1 = k then (kv.1, y) else kv) (vs.map fun kv => if kv.1 = k then (kv.1, u) else kv) := by
  unfold KV at r ⊢
  induction r with
  | nil => exact .nil
  | @cons p q ps qs h t ih =>
    rw [List.map_cons, List.map_cons]
    refine .cons ?_ ih
    obtain ⟨h1, h2⟩ := h
    by_cases e : p.1 = k
    · rw [if_pos e, if_pos (h1.symm.trans e)]; exact ⟨h1, ry⟩
    · rw [if_neg e, if_neg (fun z => e (h1.trans z))]; exact ⟨h1, h2⟩
theorem KV.put {kvs : List (κ × V)} {vs : List (κ × Value)} (r : KV kvs vs) (k : κ) {y : V} {u : Value} (ry : RelV y u) : KV (putK kvs k y) (stored vs k u) := by
  unfold putK stored
  rw [r.any k]
  by_cases e : (vs.any fun kv => decide (kv.1 = k)) = true
  · rw [if_pos e, if_pos e]; exact r.repl k ry
  · rw [if_neg e, if_neg e]; exact Paired.snoc r ⟨rfl, ry⟩
theorem KV.drop {kvs : List (κ × V)} {vs : List (κ × Value)} (r : KV kvs vs) (k : κ) : KV (dropK kvs k) (without vs k) := by
  unfold KV at r ⊢
  unfold dropK without
  induction r with
  | nil => exact .nil
  | @cons p q ps qs h t ih =>
    obtain ⟨h1, h2⟩ := h
    rw [List.filter_cons, List.filter_cons]
    by_cases e : p.1 = k
    · have a : ¬ decide (p.1 ≠ k) = true := by simp [e]
      have b : ¬ decide (q.1 ≠ k) = true := by simp [h1.symm.trans e]
      rw [if_neg a, if_neg b]; exact ih
    · have e' : ¬ q.1 = k := fun z => e (h1.trans z)
      have a : decide (p.1 ≠ k) = true := by simp [e]
      have b : decide (q.1 ≠ k) = true := by simp [e']
      rw [if_pos a, if_pos b]; exact .cons ⟨h1, h2⟩ ih
theorem KV.keys {kvs : List (κ × V)} {vs : List (κ × Value)} (r : KV kvs vs) : kvs.map (·.1) = vs.map (·.1) := by
  unfold KV at r
  induction r with
  | nil => rfl
  | cons h t ih => rw [List.map_cons, List.map_cons, ih, h.1]
theorem KV.length {kvs : List (κ × V)} {vs : List (κ × Value)} (r : KV kvs vs) : kvs.length = vs.length := Paired.length r
end


/-! ### a tracked dict, its keys ints and texts or tuples of these -/
theorem kV_is {P : Program} {w : World} {k : Key} {u : Value} (r : RelV (kV k) u) : (mixKind P w).is k u = true := by
  cases k with
  | inl i => obtain ⟨t, e⟩ := (show ∃ t, u = Value.int i t from r); subst e; exact mixKind_int P w i t
  | inr x => obtain ⟨t, e⟩ := (show ∃ t, u = Value.str x t from r); subst e; exact mixKind_str P w x t
theorem items_are {P : Program} {w : World} : ∀ {ks : List Key} {us : List Value}, Vals (ks.map kV) us → ItemsAre (mixKind P w) ks us
  | [], _, r => by rw [List.map_nil] at r; cases r; exact .nil
  | k :: ks, _, r => by
    rw [List.map_cons] at r
    cases r with
    | cons h t => exact .cons (kV_is h) (items_are t)

/-- raw entries of a dict with tuple keys -/
abbrev KT (H : Hp) : List (List Key × V) → List (List Key × Addr × Value) → Prop := Paired fun p q => p.1 = q.1 ∧ H q.2.1 = some (.tup (p.1.map kV)) ∧ RelV p.2 q.2.2
theorem KT.val {H : Hp} {kvs : List (List Key × V)} {xs : List (List Key × Addr × Value)} (r : KT H kvs xs) (k : List Key) : RelO (valV kvs k) ((atKey xs k).map (·.2)) := by
  induction r with
  | nil => exact True.intro
  | @cons p q ps qs h t ih =>
    obtain ⟨h1, _, h2⟩ := h
    by_cases e : p.1 = k
    · have e' : q.1 = k := h1.symm.trans e
      have b : atKey (q :: qs) k = some q.2 := by simp [atKey, List.find?_cons, e']
      rw [valV_pos e, b]; exact h2
    · have e' : ¬ q.1 = k := fun z => e (h1.trans z)
      have b : atKey (q :: qs) k = atKey qs k := by simp [atKey, List.find?_cons, e']
      rw [valV_neg e, b]; exact ih
theorem KT.repl {H : Hp} {kvs : List (List Key × V)} {xs : List (List Key × Addr × Value)} (r : KT H kvs xs) (k : List Key) {y : V} {u : Value} (ry : RelV y u) :
    KT H (kvs.map fun kv => if kv.1 = k then (kv.1, y) else kv) (xs.map (putAt k u)) := by
  induction r with
  | nil => exact .nil
  | @cons p q ps qs h t ih =>
    rw [List.map_cons, List.map_cons]
    refine .cons ?_ ih
    obtain ⟨h1, h2, h3⟩ := h
    unfold putAt
    by_cases e : p.1 = k
    · rw [if_pos e, if_pos (h1.symm.trans e)]; exact ⟨h1, h2, ry⟩
    · rw [if_neg e, if_neg (fun z => e (h1.trans z))]; exact ⟨h1, h2, h3⟩
theorem KT.put {H : Hp} {kvs : List (List Key × V)} {xs : List (List Key × Addr × Value)} (r : KT H kvs xs) (k : List Key) {b : Addr} {y : V} {u : Value} (hb : H b = some (.tup (k.map kV))) (ry : RelV y u) :
    KT H (putK kvs k y) (storedH xs k b u) := by
  have e : (kvs.any fun kv => decide (kv.1 = k)) = (atKey xs k).isSome := by
    rw [valV_any, (r.val k).isSome_eq, Option.isSome_map]
  unfold putK storedH
  rw [e]
  by_cases q : (atKey xs k).isSome = true
  · rw [if_pos q, if_pos q]; exact r.repl k ry
  · rw [if_neg q, if_neg q]; exact Paired.snoc r ⟨rfl, hb, ry⟩
theorem KT.keeps {H H' : Hp} {kvs : List (List Key × V)} {xs : List (List Key × Addr × Value)} (r : KT H kvs xs) (ht : ∀ b ys, H b = some (.tup ys) → H' b = some (.tup ys)) : KT H' kvs xs :=
  Paired.mapP r fun _ _ z => ⟨z.1, ht _ _ z.2.1, z.2.2⟩

section
variable {P : Program} {w : World} {H : Hp} {h : Heap} {a : Addr}
theorem rd_of {u : HO} (ok : HOk P w H h) (e : Rd H a u) : ObjOk P w H h a u := e.ok ok
theorem dk_rd {kvs : List (Key × V)} (ok : HOk P w H h) (e : Rd H a (.dK kvs)) : kvs.length ≤ sizeLine ∧ (a == sysModules) = false ∧ ∃ vs, KV kvs vs ∧ h.DictOf (mixKind P w) a vs :=
  show ObjOk P w H h a (.dK kvs) from rd_of ok e
theorem dk_of {kvs : List (Key × V)} (ok : HOk P w H h) (e : H a = some (.dK kvs)) : kvs.length ≤ sizeLine ∧ (a == sysModules) = false ∧ ∃ vs, KV kvs vs ∧ h.DictOf (mixKind P w) a vs := dk_rd ok (.inl e)
/-- a tracked tuple of ints and texts is a key -/
theorem key_of {ks : List Key} (ok : HOk P w H h) (e : H a = some (.tup (ks.map kV))) : (tupleKind (mixKind P w)).is h ks a := by
  obtain ⟨_, its, r, ⟨o, h1, h2, n, h3⟩, _⟩ := (show ObjOk P w H h a (.tup (ks.map kV)) from ok a _ e)
  exact ⟨o, its.toArray, n, h1, h2, h3, by simpa using items_are r⟩
theorem dt_rd {kvs : List (List Key × V)} (ok : HOk P w H h) (e : Rd H a (.dT kvs)) : kvs.length ≤ sizeLine ∧ (a == sysModules) = false ∧
    ∃ xs, KT H kvs xs ∧ h.DictOfH (tupleKind (mixKind P w)) a xs := by
  obtain ⟨z, y, xs, r, o, es, ep, h1, h2, h3, h4, h5⟩ := (show ObjOk P w H h a (.dT kvs) from rd_of ok e)
  refine ⟨z, y, xs, r, o, es, ep, h1, h2, h3, h4, fun x hx => ?_, h5⟩
  have all : ∀ {l : List (List Key × V)} {m : List (List Key × Addr × Value)}, KT H l m → ∀ x ∈ m, (tupleKind (mixKind P w)).is h x.1 x.2.1 := by
    intro l m q
    induction q with
    | nil => intro x hx; exact nomatch hx
    | @cons p q ps qs hq t ih =>
      intro x hx
      rcases List.mem_cons.mp hx with e | hx
      · subst e
        exact key_of ok (by rw [← hq.1]; exact hq.2.1)
      · exact ih x hx
  exact all r x hx
theorem dt_of {kvs : List (List Key × V)} (ok : HOk P w H h) (e : H a = some (.dT kvs)) : kvs.length ≤ sizeLine ∧ (a == sysModules) = false ∧
    ∃ xs, KT H kvs xs ∧ h.DictOfH (tupleKind (mixKind P w)) a xs := dt_rd ok (.inl e)
end

/-- what the dict at a holds at the key y -/
noncomputable def DGet (H : Hp) (a : Addr) (y : V) (r : Option V) : Prop :=
  (∃ kvs k, Rd H a (.dK kvs) ∧ y = kV k ∧ r = valV kvs k) ∨ ∃ kvs k b, Rd H a (.dT kvs) ∧ y = .ref b ∧ H b = some (.tup (k.map kV)) ∧ r = valV kvs k
/-- the heap behind a[y] = v -/
noncomputable def DPut (H : Hp) (a : Addr) (y v : V) (H' : Hp) : Prop :=
  (∃ kvs k, H a = some (.dK kvs) ∧ y = kV k ∧ kvs.length < sizeLine ∧ H' = upd H a (.dK (putK kvs k v))) ∨
  ∃ kvs k b, H a = some (.dT kvs) ∧ y = .ref b ∧ H b = some (.tup (k.map kV)) ∧ kvs.length < sizeLine ∧ H' = upd H a (.dT (putK kvs k v))
theorem DGet.k {H : Hp} {a : Addr} {kvs : List (Key × V)} {k : Key} (e : H a = some (.dK kvs)) : DGet H a (kV k) (valV kvs k) := .inl ⟨kvs, k, .inl e, rfl, rfl⟩
theorem DGet.t {H : Hp} {a b : Addr} {kvs : List (List Key × V)} {k : List Key} (e : H a = some (.dT kvs)) (eb : H b = some (.tup (k.map kV))) : DGet H a (.ref b) (valV kvs k) := .inr ⟨kvs, k, b, .inl e, rfl, eb, rfl⟩
theorem DPut.k {H : Hp} {a : Addr} {kvs : List (Key × V)} {k : Key} {v : V} (e : H a = some (.dK kvs)) (hl : kvs.length < sizeLine) : DPut H a (kV k) v (upd H a (.dK (putK kvs k v))) := .inl ⟨kvs, k, e, rfl, hl, rfl⟩
theorem DPut.t {H : Hp} {a b : Addr} {kvs : List (List Key × V)} {k : List Key} {v : V} (e : H a = some (.dT kvs)) (eb : H b = some (.tup (k.map kV))) (hl : kvs.length < sizeLine) :
    DPut H a (.ref b) v (upd H a (.dT (putK kvs k v))) := .inr ⟨kvs, k, b, e, rfl, eb, hl, rfl⟩


section
variable {X : Cx} {pins : List (Addr × Obj)} {σ : St} {H : Hp} {s : Shared} {a : Addr} {y v : V} {u r : Value} {o : Option V} {A : Around} {E : Value → Shared → Prop}

theorem Inv.big (I : Inv X pins σ H s) : sysModules < s.heap.objs.size := by
  have h : mainGlobals < s.heap.objs.size := (I.mod.glob.keeps I.bk).lt
  exact Nat.lt_trans (by decide) h

/-- d[y], there -/
theorem d_getItem {Q : Value → Shared → Prop} (hu : A.units + 1 < cLine) (I : Inv X pins σ H s) (g : DGet H a y (some v)) (ry : RelV y u) (h : ∀ w' s', Inv X pins σ H s' → RelV v w' → Q w' s') :
    wpAny (model X.prog X.w) A (getItem (.ref a) u) Q E s := by
  rcases g with ⟨kvs, k, e, ey, l⟩ | ⟨kvs, k, b, e, ey, eb, l⟩
  · subst ey
    obtain ⟨z, hd, vs, rel, dd⟩ := dk_rd I.hok e
    obtain ⟨w', hw, rw'⟩ := RelO.some_of (v := v) (o := valueAt vs k) (by rw [l]; exact rel.val k)
    exact wpAny_getItem_of (kV_is ry) dd.mapOf hw (h w' _ (I.tok _) rw')
  · subst ey
    cases (show u = Value.ref b from ry)
    obtain ⟨z, hd, xs, rel, dd⟩ := dt_rd I.hok e
    obtain ⟨w', hw, rw'⟩ := RelO.some_of (v := v) (o := (atKey xs k).map (·.2)) (by rw [l]; exact rel.val k)
    obtain ⟨p, hp, hp2⟩ := Option.map_eq_some_iff.mp hw
    refine wpAny_getItem_heap (tupleKind_room_in1 hu) (key_of I.hok eb) dd hp ?_
    rw [hp2]
    exact h w' _ (I.tok _) rw'
/-- y in d -/
theorem d_in {Q : Value → Shared → Prop} (hu : A.units + 1 < cLine) (I : Inv X pins σ H s) (g : DGet H a y o) (ry : RelV y u) (h : ∀ s', Inv X pins σ H s' → Q (.bool o.isSome) s') :
    wpAny (model X.prog X.w) A (compareOp .In u (.ref a)) Q E s := by
  rcases g with ⟨kvs, k, e, ey, l⟩ | ⟨kvs, k, b, e, ey, eb, l⟩
  · subst ey
    obtain ⟨z, hd, vs, rel, dd⟩ := dk_rd I.hok e
    refine wpAny_in_of (kV_is ry) hd dd.mapOf ?_
    rw [← (rel.val k).isSome_eq, ← l]
    exact h _ (I.tok _)
  · subst ey
    cases (show u = Value.ref b from ry)
    obtain ⟨z, hd, xs, rel, dd⟩ := dt_rd I.hok e
    refine wpAny_in_heap (tupleKind_room_in1 hu) (key_of I.hok eb) hd dd ?_
    have q := (rel.val k).isSome_eq
    rw [Option.isSome_map] at q
    rw [← q, ← l]
    exact h _ (I.tok _)
theorem d_notIn {Q : Value → Shared → Prop} (hu : A.units + 1 < cLine) (I : Inv X pins σ H s) (g : DGet H a y o) (ry : RelV y u) (h : ∀ s', Inv X pins σ H s' → Q (.bool (!o.isSome)) s') :
    wpAny (model X.prog X.w) A (compareOp .NotIn u (.ref a)) Q E s := by
  rcases g with ⟨kvs, k, e, ey, l⟩ | ⟨kvs, k, b, e, ey, eb, l⟩
  · subst ey
    obtain ⟨z, hd, vs, rel, dd⟩ := dk_rd I.hok e
    refine wpAny_notIn_of (kV_is ry) hd dd.mapOf ?_
    rw [← (rel.val k).isSome_eq, ← l]
    exact h _ (I.tok _)
  · subst ey
    cases (show u = Value.ref b from ry)
    obtain ⟨z, hd, xs, rel, dd⟩ := dt_rd I.hok e
    refine wpAny_notIn_heap (tupleKind_room_in1 hu) (key_of I.hok eb) hd dd ?_
    have q := (rel.val k).isSome_eq
    rw [Option.isSome_map] at q
    rw [← q, ← l]
    exact h _ (I.tok _)
/-- a dict's object is replaced -/
theorem d_write {h' : Heap} {t' : Nat} {ob : HO} (I : Inv X pins σ H s) (mu : Mut (H a)) (hs : Heap.SameBut a s.heap h') (he : ∃ q, h'.get? a = some q) (new : ObjOk X.prog X.w (upd H a ob) h' a ob) :
    Inv X pins σ (upd H a ob) { s with heap := h', toks := t' } :=
  I.write (x := a) (e := a) mu (.inl rfl) (fun b q hb z => (hs.2 b hb).trans z) he new
theorem dk_new {P : Program} {w : World} {H' : Hp} {h' : Heap} {kvs : List (Key × V)} {vs : List (Key × Value)} (z : kvs.length ≤ sizeLine) (hd : (a == sysModules) = false) (rel : KV kvs vs) (dd : h'.DictOf (mixKind P w) a vs) :
    ObjOk P w H' h' a (.dK kvs) := ⟨z, hd, vs, rel, dd⟩
/-- d[y] = v -/
theorem d_setItem {H' : Hp} {Q : Unit → Shared → Prop} (hu : A.units + 1 < cLine) (I : Inv X pins σ H s) (g : DPut H a y v H') (ry : RelV y u) (rv : RelV v r) (h : ∀ s', Inv X pins σ H' s' → Q () s') :
    wpAny (model X.prog X.w) A (setItem (.ref a) u r) Q E s := by
  rcases g with ⟨kvs, k, e, ey, l, eH⟩ | ⟨kvs, k, b, e, ey, eb, l, eH⟩
  · subst ey eH
    obtain ⟨z, hd, vs, rel, dd⟩ := dk_of I.hok e
    have hz : vs.length ≤ sizeLine := by rw [← rel.length]; exact z
    have hl : (putK kvs k v).length ≤ sizeLine := by have := length_putK kvs k v; omega
    refine wpAny_setItem_pairs (hsz := hz) (kV_is ry) dd fun h' dd' hs => h _ ?_
    have he : ∃ q, h'.get? a = some q := let ⟨q, _, _, hq, _⟩ := dd'; ⟨q, hq⟩
    exact d_write I (by rw [e]; exact True.intro) hs he (dk_new hl hd (rel.put k rv) dd')
  · subst ey eH
    cases (show u = Value.ref b from ry)
    obtain ⟨z, hd, xs, rel, dd⟩ := dt_of I.hok e
    have hz : xs.length ≤ sizeLine := by rw [← Paired.length rel]; exact z
    have hl : (putK kvs k v).length ≤ sizeLine := by have := length_putK kvs k v; omega
    refine wpAny_setItem_heap (hsz := hz) (tupleKind_room_in1 hu) (key_of I.hok eb) dd fun h' dd' hs => h _ ?_
    obtain ⟨q, es, ep, hq, h2, h3, h4, _, h5⟩ := dd'
    refine d_write I (by rw [e]; exact True.intro) hs ⟨q, hq⟩ ⟨hl, hd, _, (rel.put k eb rv).keeps fun c ys ec => ?_, q, es, ep, hq, h2, h3, h4, h5⟩
    rw [upd_ne (ne_of ec e (fun z => nomatch z))]
    exact ec
end

section
variable {X : Cx} {pins : List (Addr × Obj)} {σ : St} {H : Hp} {s : Shared} {a : Addr} {kvs : List (Key × V)} {k : Key} {u : Value} {A : Around} {E : Value → Shared → Prop}
end


/-! ### readings and rules -/
/-- the element of a subscription, not a slice -/
noncomputable def NoSl (i : Expr) : Prop := ∀ ov iv, subscripted i false ov iv = operate [ov, iv] (getItem ov iv)
theorem subD_of {prog : Program} {w : World} {A : Around} {E : Value → Shared → Prop} {s : Shared} {env : Env} {value slice : Expr} {pos : Pos} {T id : String} {Q : Value → Shared → Prop}
    (hl : typeLookup (.type T) "__getitem__" = pure (some (.builtin id))) (hs : NoSl slice)
    (h : wpAny (model prog w) A (eval value env) (fun o s₁ => wpAny (model prog w) A (eval slice env) (fun i s₂ => s₂.TypeIs o T ∧ wpAny (model prog w) A (getItem o i) Q E s₂) E s₁) E s) :
    wpAny (model prog w) A (eval (.Subscript value slice pos) env) Q E s := by
  refine Subscript_ (wpAny_mono h (fun o s₁ h₁ => wpAny_mono h₁ (fun i s₂ h₂ => ?_) fun _ _ x => x) fun _ _ x => x)
  obtain ⟨hT, h₂⟩ := h₂
  unfold subscriptTail
  refine wpAny_bind ?_
  rw [getitemInPython_of_ne hT.not_modules]
  refine wpAny_bind (wpAny_specialOf hT hl ?_)
  have fin : wpAny (model prog w) A (subscripted slice false o i) (fun r s₃ => wpAny (model prog w) A (letTemporaryGo value o r >>= fun _ => pure r) Q E s₃) E s₂ := by
    rw [hs o i]
    exact wpAny_operating (wpAny_mono h₂ (fun r s₃ h₃ => wpAny_bind (wpAny_letTemporaryGo (wpAny_pure h₃))) fun _ _ x => x)
  first
    | exact wpAny_pure (wpAny_bind fin)
    | exact wpAny_bind (wpAny_pure (wpAny_bind fin))
    | exact wpAny_bind fin

theorem dict_typeIs {X : Cx} {pins : List (Addr × Obj)} {σ : St} {H : Hp} {s : Shared} {a : Addr} {y : V} {o : Option V} (I : Inv X pins σ H s) (g : DGet H a y o) : s.TypeIs (.ref a) "dict" := by
  rcases g with ⟨kvs, k, e, _, _⟩ | ⟨kvs, k, b, e, _, _, _⟩
  · obtain ⟨_, _, vs, _, dd⟩ := dk_rd I.hok e
    exact dd.typeIs
  · obtain ⟨_, _, xs, _, dd⟩ := dt_rd I.hok e
    exact dd.typeIs
/-- d[y] -/
noncomputable def tDGet (td ty : TE) : TE := fun σ H Q => td σ H fun x H1 => ty σ H1 fun y H2 => ∃ a v, x = .ref a ∧ DGet H2 a y (some v) ∧ Q v H2
/-- y in d, y not in d -/
noncomputable def tDIn (ty td : TE) : TE := fun σ H Q => ty σ H fun y H1 => td σ H1 fun x H2 => ∃ a o, x = .ref a ∧ DGet H2 a y o ∧ Q (.bl o.isSome) H2
noncomputable def tDNotIn (ty td : TE) : TE := fun σ H Q => ty σ H fun y H1 => td σ H1 fun x H2 => ∃ a o, x = .ref a ∧ DGet H2 a y o ∧ Q (.bl (!o.isSome)) H2
/-- d[y] = v -/
noncomputable def sDPut (td ty tv : TE) : TS := fun D σ H => tv σ H fun v H1 => td σ H1 fun x H2 => ty σ H2 fun y H3 => ∃ a H4, x = .ref a ∧ DPut H3 a y v H4 ∧ D.nx σ H4
section
variable {X : Cx} {o i e value : Expr} {pos pos' tpos : Pos} {td ty tv : TE}
theorem pe_dget (hu : X.A.units + 1 < cLine) (ho : PE X o td) (hi : PE X i ty) (hs : NoSl i) : PE X (.Subscript o i pos) (tDGet td ty) := by
  intro pins s σ H Q I h
  refine subD_of PySem.F.slot_dict_getitem.lookup hs (thn (ho pins s σ H _ I h) fun u s1 ⟨x, H1, I1, rx, q1⟩ => thn (hi pins s1 σ H1 _ I1 q1) fun iv s2 ⟨y, H2, I2, ry, a, v, ex, g, q2⟩ => ?_)
  subst ex
  obtain rfl : u = Value.ref a := rx
  exact ⟨dict_typeIs I2 g, d_getItem hu I2 g ry fun w' s3 I3 rw' => ⟨v, H2, I3, rw', q2⟩⟩
theorem pc_din (hu : X.A.units + 1 < cLine) (hi : PE X i ty) (ho : PE X o td) : PC X .In i o (tDIn ty td) := by
  intro pins s σ H Q I h
  refine thn (hi pins s σ H _ I h) fun iv s1 ⟨y, H1, I1, ry, q1⟩ => thn (ho pins s1 σ H1 _ I1 q1) fun u s2 ⟨x, H2, I2, rx, a, ov, ex, g, q2⟩ => ?_
  subst ex
  obtain rfl : u = Value.ref a := rx
  exact d_in hu I2 g ry fun s3 I3 => ⟨.bl ov.isSome, H2, I3, rfl, q2⟩
theorem pc_dnotin (hu : X.A.units + 1 < cLine) (hi : PE X i ty) (ho : PE X o td) : PC X .NotIn i o (tDNotIn ty td) := by
  intro pins s σ H Q I h
  refine thn (hi pins s σ H _ I h) fun iv s1 ⟨y, H1, I1, ry, q1⟩ => thn (ho pins s1 σ H1 _ I1 q1) fun u s2 ⟨x, H2, I2, rx, a, ov, ex, g, q2⟩ => ?_
  subst ex
  obtain rfl : u = Value.ref a := rx
  exact d_notIn hu I2 g ry fun s3 I3 => ⟨.bl (!ov.isSome), H2, I3, rfl, q2⟩
theorem ps_dput (hu : X.A.units + 1 < cLine) (ho : PE X o td) (hi : PE X i ty) (hv : PE X value tv) (hs : swapsWith value (some (.Subscript o i pos')) pos.line X.env = pure false) :
    PS X (.Assign [.Subscript o i pos'] value pos) (sDPut td ty tv) := by
  intro pins s σ H D I h
  refine wpAny_Assign_Subscript (thn (hv pins s σ H _ I h) fun r s1 ⟨v, H1, I1, rv, q1⟩ => thn (ho pins s1 σ H1 _ I1 q1) fun u s2 ⟨x, H2, I2, rx, q2⟩ => thn (hi pins s2 σ H2 _ I2 q2) fun iv s3 ⟨y, H3, I3, ry, a, H4, ex, g, q3⟩ => ?_) hs
  subst ex
  obtain rfl : u = Value.ref a := rx
  exact d_setItem hu I3 g ry rv fun s4 I4 => ⟨σ, H4, I4, q3⟩
end


/-! ### displays -/
theorem dt_empty {P : Program} {w : World} {H : Hp} (h : Heap) (hb : sysModules < h.objs.size) : ObjOk P w H (h.push { cls := .type "dict", data := .dict #[] }) h.objs.size (.dT []) :=
  ⟨Nat.zero_le _, beq_eq_false_iff_ne.mpr (Ne.symm (Nat.ne_of_lt hb)), [], .nil, _, #[], 0, Heap.get?_push_size _ rfl, ⟨rfl, rfl, rfl⟩, rfl, rfl, List.nodup_nil⟩
section
variable {X : Cx} {pos : Pos}
end

/-! ### methods -/
section
variable {X : Cx} {pins : List (Addr × Obj)} {σ : St} {H : Hp} {s : Shared} {a : Addr} {y d : V} {u r : Value} {o : Option V} {A : Around} {E : Value → Shared → Prop}
end

section
variable {X : Cx} {o e f : Expr} {apos cpos : Pos} {td ty tx : TE}
end

/-! ### dict(d): a copy -/
section
variable {X : Cx} {pins : List (Addr × Obj)} {σ : St} {H : Hp} {s : Shared} {a : Addr} {kvs : List (Key × V)} {A : Around} {E : Value → Shared → Prop}
end


section
variable {X : Cx} {pins : List (Addr × Obj)} {σ : St} {H : Hp} {s : Shared} {a : Addr} {y : V} {u : Value} {A : Around} {E : Value → Shared → Prop}
end
end L2

namespace HT
open PySem PyProof.Rows

section
open PySem.SeqAt
open PySem.AutoSeq1 (wpAny_loadPart')
open PySem.MeetsSeq PySem.MeetsSeq2 PySem.MeetsSeq3

end

section
variable {prog : Program} {w : World} {A : Around} {E : Value → Shared → Prop} {s : Shared}

/-- t + u, t not empty -/
theorem cat_tup {t b : Addr} {vs ws : List Value} {Q : Value → Shared → Prop} (ht : IsTup s.heap t vs.toArray) (hb : IsTup s.heap b ws.toArray) (hv : vs ≠ [])
    (h1 : ws = [] → Q (.ref t) s) (h2 : ws ≠ [] → Q (.ref s.heap.objs.size) { s with heap := s.heap.push { cls := .type "tuple", data := .seq (vs ++ ws).toArray } })
    (hsz : vs.length + ws.length ≤ sizeLine) : wpAny (model prog w) A (binaryOp .Add (.ref t) (.ref b)) Q E s := by
  obtain ⟨⟨cls, dd, data, sl⟩, ho, hc, n, hd⟩ := id ht
  obtain ⟨⟨cls2, dd2, data2, sl2⟩, ho2, hc2, n2, hd2⟩ := id hb
  simp only at hc hd hc2 hd2
  subst hc hd hc2 hd2
  have e : vs.toArray ++ ws.toArray = (vs ++ ws).toArray := by simp
  by_cases hw : ws = []
  · exact concat_meets ⟨_, ho, rfl⟩ ⟨_, ho2, rfl⟩ noFill_tuple_add seq_tuple_add PySem.F.slot_tuple_add PySem.F.entry_tuple_add (PySem.F.args_tuple_add_2 _ _)
      (tuple_addW1 t b vs.toArray ws.toArray n n2 dd dd2 sl sl2 (by simpa using hv) (by simp [hw])) ⟨ho, ho2, h1 hw⟩
  · refine concat_meets ⟨_, ho, rfl⟩ ⟨_, ho2, rfl⟩ noFill_tuple_add seq_tuple_add PySem.F.slot_tuple_add PySem.F.entry_tuple_add (PySem.F.args_tuple_add_2 _ _)
      (tuple_addW2 t b vs.toArray ws.toArray n n2 dd dd2 sl sl2 (by simpa using hv) (by simpa using hw) (by rw [List.size_toArray, List.size_toArray]; exact hsz)) ⟨ho, ho2, ?_⟩
    rw [e]
    exact h2 hw

/-! ### t[a:b], not the whole -/
/-- a slice's bound as a place among n (d where it is left out) -/
noncomputable def sIx (n d : Nat) : Option Int → Nat
  | none => d
  | some v => if v < 0 then (v + (n : Int)).toNat else min v.toNat n
end
end HT

namespace L2
open PySem PySem.Spec PyProof.Rows

/-! ### the parts of a slice -/
abbrev TO := St → Hp → (Option Int → Hp → Prop) → Prop
section
variable {X : Cx} {e : Expr} {te : TE} {lo hi : Option Expr} {tl th : TO} {pos p2 : Pos}

/-- what a slice of a value is, by values: the slice object stands at sl -/
noncomputable def SlR (X : Cx) (r : V → Option Int → Option Int → Hp → VK → Prop) : Prop :=
  ∀ (pins : List (Addr × Obj)) (s : Shared) (σ : St) (H : Hp) (x : V) (v vl vu : Value) (lo hi : Option Int) (sl : Addr) (Q : VK), Inv X pins σ H s → RelV x v → s.heap.IsSliceOf sl vl vu .none → IsPart vl lo → IsPart vu hi → r x lo hi H Q →
    ∃ T id, typeLookup (.type T) "__getitem__" = pure (some (.builtin id)) ∧ s.TypeIs v T ∧ wpAny (model X.prog X.w) X.A (getItem v (.ref sl)) (EP X pins σ Q) X.xe s
theorem SlR.or {r r' : V → Option Int → Option Int → Hp → VK → Prop} (h : SlR X r) (h' : SlR X r') : SlR X (fun x lo hi H Q => r x lo hi H Q ∨ r' x lo hi H Q) := by
  intro pins s σ H x v vl vu lo hi sl Q I rx hs pl pu q
  rcases q with q | q
  · exact h pins s σ H x v vl vu lo hi sl Q I rx hs pl pu q
  · exact h' pins s σ H x v vl vu lo hi sl Q I rx hs pl pu q
/-! ### t < u, t + u -/
/-- t + u, t not empty: u empty gives t itself -/
noncomputable def rCatT (K : PySem.W.Frag) : R2 := fun x y H Q => ∃ a b xs ys, x = .ref a ∧ y = .ref b ∧ SqT K H a xs ∧ SqT K H b ys ∧ xs ≠ [] ∧ xs.length + ys.length ≤ sizeLine ∧
  (ys = [] → Q (.ref a) H) ∧ (ys ≠ [] → ∀ p, H p = none → Q (.ref p) (upd H p (.tup (xs ++ ys))))
theorem Vals.nil_iff {xs : List V} {us : List Value} (r : Vals xs us) : us = [] ↔ xs = [] := by
  cases r with
  | nil => simp
  | cons _ _ => simp
theorem op_catT : OpR X (binaryOp .Add) (rCatT X.K) := by
  intro pins s σ H x y v u Q I rx ry h
  obtain ⟨a, b, xs, ys, rfl, rfl, ha, hb, hx, hz, q1, q2⟩ := h
  cases rx
  cases ry
  obtain ⟨its, r1, p1, _⟩ := I.tuple ha
  obtain ⟨its2, r2, p2, _⟩ := I.tuple hb
  refine HT.cat_tup p1 p2 (fun z => hx (r1.nil_iff.mp z)) (fun z => ⟨.ref a, H, I, rfl, q1 (r2.nil_iff.mp z)⟩) (fun z => ?_) (by rw [← r1.length, ← r2.length]; exact hz)
  refine ⟨.ref s.heap.objs.size, _, I.laid (t' := s.toks) (o := .tup (xs ++ ys)) (fun b ob q => Heap.get?_push_of_some _ q) (Nat.le_refl _) ?_, rfl, q2 (fun w => z (r2.nil_iff.mpr w)) _ (I.hok.fresh (Nat.le_refl _))⟩
  exact ⟨by rw [List.length_append]; exact hz, _, r1.append r2, IsTup.new _ _, NoD.push⟩
end
end L2

namespace L2
open PySem PySem.Spec PyProof.Rows

/-! ### places -/
/-- the place that an index of any sign means -/
noncomputable def ixN (n : Nat) (i : Int) : Option Nat := if 0 ≤ i then (if i < n then some i.toNat else none) else if -(n : Int) ≤ i then some (i + n).toNat else none
noncomputable def atI {α : Type} (xs : List α) (i : Int) : Option α := (ixN xs.length i).bind fun j => xs[j]?
theorem ixN_seq {n : Nat} {i : Int} {j : Nat} (h : ixN n i = some j) : seqIndex? i n = some j ∧ j < n ∧ -(n : Int) ≤ i ∧ i < n := by
  unfold ixN at h
  by_cases h0 : 0 ≤ i
  · rw [if_pos h0] at h
    by_cases h1 : i < n
    · rw [if_pos h1] at h
      have e : i.toNat = j := Option.some.inj h
      exact ⟨by rw [seqIndex_of h0 h1, e], by omega, by omega, h1⟩
    · rw [if_neg h1] at h; cases h
  · rw [if_neg h0] at h
    by_cases h1 : -(n : Int) ≤ i
    · rw [if_pos h1] at h
      have e : (i + n).toNat = j := Option.some.inj h
      exact ⟨by rw [seqIndex_neg (by omega) h1, e], by omega, h1, by omega⟩
    · rw [if_neg h1] at h; cases h
theorem atI_get {α : Type} {xs : List α} {i : Int} {v : α} (h : atI xs i = some v) : ∃ j, seqIndex? i xs.length = some j ∧ xs[j]? = some v ∧ j < xs.length ∧ -(xs.length : Int) ≤ i ∧ i < xs.length := by
  unfold atI at h
  cases e : ixN xs.length i with
  | none => rw [e] at h; cases h
  | some j =>
    rw [e] at h
    obtain ⟨h1, h2, h3, h4⟩ := ixN_seq e
    exact ⟨j, h1, h, h2, h3, h4⟩
theorem atI_nat {α : Type} {xs : List α} {j : Nat} {v : α} (h : xs[j]? = some v) : atI xs (j : Int) = some v := by
  have hj : j < xs.length := (List.getElem?_eq_some_iff.mp h).1
  have e : ixN xs.length (j : Int) = some j := by
    unfold ixN
    rw [if_pos (by omega), if_pos (by omega)]; simp
  unfold atI; rw [e]; exact h
/-! ### what may be subscripted -/
/-- what stands as an index of a plain subscript -/
noncomputable def PlainIx (b : Expr) : Prop := ∀ o i, subscripted b false o i = operate [o, i] (getItem o i)
/-- a subscript by values -/
noncomputable def IxR (X : Cx) (r : R2) : Prop :=
  ∀ (value slice : Expr) (pins : List (Addr × Obj)) (s : Shared) (σ : St) (H : Hp) (x y : V) (v u : Value) (Q : VK), Inv X pins σ H s → RelV x v → RelV y u → r x y H Q →
    subscripted slice false v u = operate [v, u] (getItem v u) → wpAny (model X.prog X.w) X.A (subscriptTail value slice v u) (EP X pins σ Q) X.xe s
/-- a call of a builtin's method by values: the receiver, the arguments -/
noncomputable def MtR (X : Cx) (id : String) (r : V → List V → Hp → VK → Prop) : Prop :=
  ∀ (pins : List (Addr × Obj)) (s : Shared) (σ : St) (H : Hp) (x : V) (xs : List V) (v : Value) (us : List Value) (Q : VK), Inv X pins σ H s → RelV x v → Vals xs us → r x xs H Q →
    wpAny (model X.prog X.w) X.A (call (.builtin id) (v :: us)) (EP X pins σ Q) X.xe s
section
variable {X : Cx} {a b : Expr} {ta tb : TE} {pos : Pos}
theorem IxR.or {r r' : R2} (h : IxR X r) (h' : IxR X r') : IxR X (fun x y H Q => r x y H Q ∨ r' x y H Q) := by
  intro value slice pins s σ H x y v u Q I rx ry q hs
  rcases q with q | q
  · exact h value slice pins s σ H x y v u Q I rx ry q hs
  · exact h' value slice pins s σ H x y v u Q I rx ry q hs
theorem MtR.or {id : String} {r r' : V → List V → Hp → VK → Prop} (h : MtR X id r) (h' : MtR X id r') : MtR X id (fun x xs H Q => r x xs H Q ∨ r' x xs H Q) := by
  intro pins s σ H x xs v us Q I rx rs q
  rcases q with q | q
  · exact h pins s σ H x xs v us Q I rx rs q
  · exact h' pins s σ H x xs v us Q I rx rs q
/-- a[b] -/
theorem pe_ix {r : R2} (hr : IxR X r) (ha : PE X a ta) (hb : PE X b tb) (hs : PlainIx b) : PE X (.Subscript a b pos) (tOp r ta tb) := by
  intro pins s σ H Q I h
  exact Subscript_ (binT ha hb I h fun v u s2 x y H2 I2 rx ry q => hr a b pins s2 σ H2 x y v u Q I2 rx ry q (hs _ _))

noncomputable def rIxL (K : PySem.W.Frag) : R2 := fun x y H Q => ∃ p xs i v, x = .ref p ∧ y = .int i ∧ SqL K H p xs ∧ atI xs i = some v ∧ Q v H
noncomputable def rIxT (K : PySem.W.Frag) : R2 := fun x y H Q => ∃ p xs i v, x = .ref p ∧ y = .int i ∧ SqT K H p xs ∧ atI xs i = some v ∧ Q v H
theorem ix_list : IxR X (rIxL X.K) := by
  intro value slice pins s σ H x y v u Q I rx ry h hs
  obtain ⟨p, xs, i, z, rfl, rfl, hq, he, q⟩ := h
  cases rx
  obtain ⟨t, rfl⟩ := ry
  obtain ⟨its, r, pl, hz⟩ := I.list hq
  obtain ⟨j, h1, h2, h3, h4, h5⟩ := atI_get he
  obtain ⟨w, ew, rw'⟩ := r.get h2
  have hl := r.length
  have hn := line63
  have fin : EP X pins σ Q w s := ⟨z, H, I, rw', q⟩
  by_cases h0 : 0 ≤ i
  · have hj : i.toNat = j := by
      rw [seqIndex_of h0 h5] at h1
      exact Option.some.inj h1
    exact item_listR pl.isList h0 (by omega) (by rw [hj]; simpa using ew) fin hs
  · have hj : (i + (its.toArray.size : Int)).toNat = j := by
      rw [seqIndex_neg (by omega) h4] at h1
      rw [List.size_toArray, ← hl]
      exact Option.some.inj h1
    exact subscriptTail_builtinR (x := w) pl.isList.typeIs slot_list_getitem.lookup
      (wpAny_getItem_list_neg (Q := fun r s' => r = w ∧ EP X pins σ Q r s') pl.isList (by omega) (by rw [List.size_toArray] <;> omega) (by omega) (by rw [hj]; simpa using ew) ⟨rfl, fin⟩) hs
theorem ix_tup : IxR X (rIxT X.K) := by
  intro value slice pins s σ H x y v u Q I rx ry h hs
  obtain ⟨p, xs, i, z, rfl, rfl, hq, he, q⟩ := h
  cases rx
  obtain ⟨t, rfl⟩ := ry
  obtain ⟨its, r, pl, hz⟩ := I.tuple hq
  obtain ⟨j, h1, h2, h3, h4, h5⟩ := atI_get he
  obtain ⟨w, ew, rw'⟩ := r.get h2
  have hl := r.length
  have hn := line63
  have fin : EP X pins σ Q w s := ⟨z, H, I, rw', q⟩
  exact subscriptTail_builtinR (x := w) pl.typeIs slot_tuple_getitem.lookup
    (getItem_tuple (j := j) (Q := fun r s' => r = w ∧ EP X pins σ Q r s') pl (by omega) (by omega) (by rw [List.size_toArray, ← hl]; exact h1) (by simpa using ew) ⟨rfl, fin⟩) hs
/-! ### xs[i] = v, any sign -/
/-- the list's object behind a store -/
theorem mapSeq_set (its : List Value) (n j : Nat) (u : Value) : Obj.mapSeq (·.setIfInBounds j u) { cls := .type "list", data := .seq its.toArray n } = { cls := .type "list", data := .seq (its.set j u).toArray n } := by
  simp [Obj.mapSeq]
theorem Inv.lst {pins : List (Addr × Obj)} {σ : St} {H : Hp} {s : Shared} {p : Addr} {xs : List V} (I : Inv X pins σ H s) (h : H p = some (.lst xs)) :
    ∃ (its : List Value) (n : Nat), Vals xs its ∧ s.heap.get? p = some { cls := .type "list", data := .seq its.toArray n } ∧ xs.length ≤ sizeLine := by
  obtain ⟨z, its, n, r, e⟩ := I.hok p _ h
  exact ⟨its, n, r, e, z⟩
/-- the list at p is written by an update of its object -/
theorem Inv.lstUpd {pins : List (Addr × Obj)} {σ : St} {H : Hp} {s : Shared} {p : Addr} {xs ys : List V} {its its' : List Value} {n n' : Nat} {f : Obj → Obj} (I : Inv X pins σ H s) (h : H p = some (.lst xs))
    (ho : s.heap.get? p = some { cls := .type "list", data := .seq its.toArray n }) (hf : f { cls := .type "list", data := .seq its.toArray n } = { cls := .type "list", data := .seq its'.toArray n' }) (r : Vals ys its') (hz : ys.length ≤ sizeLine) (t : Nat) :
    Inv X pins σ (upd H p (.lst ys)) { s with heap := s.heap.update p f, toks := t } := by
  have e : (s.heap.update p f).get? p = some { cls := .type "list", data := .seq its'.toArray n' } := by
    rw [Heap.get?_update_self f ho (by rw [hf] <;> rfl), hf]
  refine I.write (x := p) (e := p) (by rw [h]; trivial) (.inl rfl) (fun b u hb q => (Heap.get?_update_other _ _ (Ne.symm hb)).trans q) ⟨_, e⟩ ?_
  exact ⟨hz, its', n', r, e⟩
noncomputable def rSetL : V → V → V → Hp → (Hp → Prop) → Prop := fun o i v H Q => ∃ p xs k j, o = .ref p ∧ i = .int k ∧ H p = some (.lst xs) ∧ ixN xs.length k = some j ∧ Q (upd H p (.lst (xs.set j v)))
theorem set_list : PSet X rSetL := by
  intro pins s σ H o i v ov iv u Q I ro ri rv h
  obtain ⟨p, xs, k, j, rfl, rfl, hp, hj, q⟩ := h
  cases ro
  obtain ⟨t, rfl⟩ := ri
  obtain ⟨its, n, r, ho, hz⟩ := I.lst hp
  obtain ⟨h1, h2, h3, h4⟩ := ixN_seq hj
  have hl := r.length
  have hn := line63
  have I' : Inv X pins σ (upd H p (.lst (xs.set j v))) { s with heap := s.heap.update p (Obj.mapSeq (·.setIfInBounds j u)) } :=
    I.lstUpd hp ho (mapSeq_set its n j u) (r.set rv j) (by rw [List.length_set]; exact hz) s.toks
  by_cases h0 : 0 ≤ k
  · have hk : k.toNat = j := by
      rw [seqIndex_of h0 h4] at h1
      exact Option.some.inj h1
    exact PySem.W.ki_setAt ho h0 (by omega) (by rw [List.size_toArray, ← hl]; exact h4) (by rw [hk]; exact ⟨_, I', q⟩)
  · have hk : (k + (its.toArray.size : Int)).toNat = j := by
      rw [seqIndex_neg (by omega) h3] at h1
      rw [List.size_toArray, ← hl]
      exact Option.some.inj h1
    exact PySem.W.ki_setBack ho (by omega) (by rw [List.size_toArray, ← hl]; exact h3) (by omega) (by rw [hk]; exact ⟨_, I', q⟩)

/-! ### slices -/
/-! ### in, not in: flat items -/
noncomputable def flatV : V → Bool
  | .non => true
  | .bl _ => true
  | .int _ => true
  | .str _ => true
  | _ => false
/-- == of flat values -/
noncomputable def eqV : V → V → Bool
  | .non, .non => true
  | .bl a, .bl b => a == b
  | .bl a, .int b => (if a then 1 else 0) == b
  | .int a, .bl b => a == (if b then 1 else 0)
  | .int a, .int b => a == b
  | .str a, .str b => a == b
  | _, _ => false
theorem eqAt_V {A : Around} {s : Shared} {y x : V} {u v : Value} (ry : RelV y u) (rx : RelV x v) (fy : flatV y = true) (fx : flatV x = true) : SeqAt.EqAt A s u v (eqV y x) := by
  cases y with
  | non =>
    cases ry
    cases x with
    | non => cases rx; exact SeqAt.EqAt.same _
    | bl b => cases rx; exact SeqAt.EqAt.none_bool b
    | int b => obtain ⟨t, rfl⟩ := rx; exact SeqAt.EqAt.none_int b t
    | str b => obtain ⟨t, rfl⟩ := rx; exact SeqAt.EqAt.none_str b t
    | _ => exact absurd (show false = true from fx) Bool.false_ne_true
  | bl a =>
    cases ry
    cases x with
    | non => cases rx; exact SeqAt.EqAt.bool_none a
    | bl b => cases rx; exact SeqAt.EqAt.bool_bool a b
    | int b => obtain ⟨t, rfl⟩ := rx; exact SeqAt.EqAt.bool_int a b t
    | str b => obtain ⟨t, rfl⟩ := rx; exact SeqAt.EqAt.bool_str a b t
    | _ => exact absurd (show false = true from fx) Bool.false_ne_true
  | int a =>
    obtain ⟨t', rfl⟩ := ry
    cases x with
    | non => cases rx; exact SeqAt.EqAt.int_none a t'
    | bl b => cases rx; exact SeqAt.EqAt.int_bool a t' b
    | int b => obtain ⟨t, rfl⟩ := rx; exact SeqAt.EqAt.int_int a t' b t
    | str b => obtain ⟨t, rfl⟩ := rx; exact SeqAt.EqAt.int_str a t' b t
    | _ => exact absurd (show false = true from fx) Bool.false_ne_true
  | str a =>
    obtain ⟨t', rfl⟩ := ry
    cases x with
    | non => cases rx; exact SeqAt.EqAt.str_none a t'
    | bl b => cases rx; exact SeqAt.EqAt.str_bool a t' b
    | int b => obtain ⟨t, rfl⟩ := rx; exact SeqAt.EqAt.str_int a t' b t
    | str b => obtain ⟨t, rfl⟩ := rx; exact SeqAt.EqAt.str_str a t' b t
    | _ => exact absurd (show false = true from fx) Bool.false_ne_true
  | _ => exact absurd (show false = true from fy) Bool.false_ne_true
/-- the items' answers, read off the values (a value's own answer does not lean on its token) -/
noncomputable def eqU (x : V) (u : Value) : Bool := match u with
  | .none => eqV .non x
  | .bool b => eqV (.bl b) x
  | .int i _ => eqV (.int i) x
  | .str z _ => eqV (.str z) x
  | _ => false
theorem eqU_of {x y : V} {u : Value} (r : RelV y u) (f : flatV y = true) : eqU x u = eqV y x := by
  cases y with
  | non => cases r; rfl
  | bl b => cases r; rfl
  | int i => obtain ⟨t, rfl⟩ := r; rfl
  | str z => obtain ⟨t, rfl⟩ := r; rfl
  | _ => exact absurd (show false = true from f) Bool.false_ne_true
theorem any_eqU {x : V} : ∀ {xs : List V} {us : List Value}, Vals xs us → xs.all flatV = true → us.any (eqU x) = xs.any fun y => eqV y x
  | _, _, .nil, _ => rfl
  | y :: xs, u :: us, .cons r t, f => by
    rw [List.all_cons, Bool.and_eq_true] at f
    rw [List.any_cons, List.any_cons, eqU_of r f.1, any_eqU t f.2]
theorem mem_eqAt {A : Around} {s : Shared} {x : V} {v : Value} (rx : RelV x v) (fx : flatV x = true) : ∀ {xs : List V} {us : List Value}, Vals xs us → xs.all flatV = true → ∀ u ∈ us, SeqAt.EqAt A s u v (eqU x u)
  | _, _, .nil, _ => fun u hu => by cases hu
  | y :: xs, u :: us, .cons r t, f => fun u' hu => by
    rw [List.all_cons, Bool.and_eq_true] at f
    rcases List.mem_cons.mp hu with rfl | hu
    · rw [eqU_of r f.1]; exact eqAt_V r rx f.1 fx
    · exact mem_eqAt rx fx t f.2 u' hu
noncomputable def inV (x : V) (xs : List V) : Bool := xs.any fun y => eqV y x
/-- x in a list or tuple of flat items -/
noncomputable def rIn (K : PySem.W.Frag) (neg : Bool) : R2 := fun x y H Q => ∃ p xs, y = .ref p ∧ (SqL K H p xs ∨ SqT K H p xs) ∧ flatV x = true ∧ xs.all flatV = true ∧ Q (.bl (if neg then !inV x xs else inV x xs)) H
theorem op_in_seq : OpR X (compareOp .In) (rIn X.K false) := by
  intro pins s σ H x y v u Q I rx ry h
  obtain ⟨p, xs, rfl, hq, fx, fs, q⟩ := h
  cases ry
  rcases hq with hq | hq
  · obtain ⟨its, r, pl, hz⟩ := I.list hq
    refine SeqAt.in_listAt (eqU x) pl.isList (fun w hw => mem_eqAt rx fx r fs w (by simpa using hw)) ⟨.bl _, H, I, rfl, ?_⟩
    rw [show its.toArray.any (eqU x) = its.any (eqU x) by simp, any_eqU r fs]
    exact q
  · obtain ⟨its, r, pl, hz⟩ := I.tuple hq
    refine SeqAt.in_tupleAt (eqU x) pl (fun w hw => mem_eqAt rx fx r fs w (by simpa using hw)) ⟨.bl _, H, I, rfl, ?_⟩
    rw [show its.toArray.any (eqU x) = its.any (eqU x) by simp, any_eqU r fs]
    exact q
/-! ### len, list(x), tuple(x) of any list or tuple that is read -/
theorem call_len_seq : CallR X (.builtin "len") (fun xs H Q => ∃ p ys, xs = [.ref p] ∧ (SqL X.K H p ys ∨ SqT X.K H p ys) ∧ Q (.int ys.length) H) := by
  intro pins s σ H xs us Q I r h
  obtain ⟨p, ys, rfl, hq, q⟩ := h
  obtain ⟨u, rfl, rx⟩ := vals1 r
  cases rx
  have hn := line63
  rcases hq with hq | hq
  · obtain ⟨its, r', pl, hz⟩ := I.list hq
    have hlen := r'.length
    exact Calls.call_len_list pl.isList (by simp only [List.size_toArray] <;> omega) ⟨.int ys.length, H, I.tok _, ⟨s.toks + 1, by rw [List.size_toArray, hlen]⟩, q⟩
  · obtain ⟨its, r', pl, hz⟩ := I.tuple hq
    have hlen := r'.length
    exact len_tuple pl (by simp only [List.size_toArray] <;> omega) ⟨.int ys.length, H, I.tok _, ⟨s.toks + 1, by rw [List.size_toArray, hlen]⟩, q⟩
theorem CallR.or {f : Value} {r r' : List V → Hp → VK → Prop} (h : CallR X f r) (h' : CallR X f r') : CallR X f (fun xs H Q => r xs H Q ∨ r' xs H Q) := by
  intro pins s σ H xs us Q I rs q
  rcases q with q | q
  · exact h pins s σ H xs us Q I rs q
  · exact h' pins s σ H xs us Q I rs q
theorem call_list_of : CallR X (.type "list") (fun xs H Q => ∃ p ys, xs = [.ref p] ∧ (SqL X.K H p ys ∨ SqT X.K H p ys) ∧ ∀ l, H l = none → Q (.ref l) (upd H l (.lst ys))) := by
  intro pins s σ H xs us Q I r h
  obtain ⟨p, ys, rfl, hq, q⟩ := h
  obtain ⟨u, rfl, rx⟩ := vals1 r
  cases rx
  have fin : ∀ (its : List Value), Vals ys its → ys.length ≤ sizeLine → ∀ (h' : Heap) (c' : Nat), (∀ b o', s.heap.get? b = some o' → h'.get? b = some o') →
      h'.get? s.heap.objs.size = some { cls := .type "list", dict := none, data := .seq its.toArray c', slots := #[] } → EP X pins σ Q (.ref s.heap.objs.size) { s with heap := h' } := fun its r' hz h' c' kp e =>
    ⟨.ref s.heap.objs.size, _, I.laid (t' := s.toks) kp (Nat.le_refl _) (show ObjOk X.prog X.w _ h' _ (.lst ys) from ⟨hz, its, c', r', e⟩), rfl, q _ (I.hok.fresh (Nat.le_refl _))⟩
  rcases hq with hq | hq
  · obtain ⟨its, r', pl, hz⟩ := I.list hq
    have hlen := r'.length
    obtain ⟨o, ho, hc, n, hd⟩ := pl.isList
    exact call_list_seq p (.inl rfl) ho hc hd (fun h' c' kp e => fin its r' hz h' c' kp e) (by simp only [List.size_toArray] <;> omega)
  · obtain ⟨its, r', pl, hz⟩ := I.tuple hq
    have hlen := r'.length
    obtain ⟨o, ho, hc, n, hd⟩ := pl
    exact call_list_seq p (.inr rfl) ho hc hd (fun h' c' kp e => fin its r' hz h' c' kp e) (by simp only [List.size_toArray] <;> omega)
theorem call_tuple_of : CallR X (.type "tuple") (fun xs H Q => ∃ p ys, xs = [.ref p] ∧ ((SqL X.K H p ys ∧ ∀ l, H l = none → Q (.ref l) (upd H l (.tup ys))) ∨ (SqT X.K H p ys ∧ Q (.ref p) H))) := by
  intro pins s σ H xs us Q I r h
  obtain ⟨p, ys, rfl, h⟩ := h
  obtain ⟨u, rfl, rx⟩ := vals1 r
  cases rx
  rcases h with ⟨hq, q⟩ | ⟨hq, q⟩
  · obtain ⟨its, r', pl, hz⟩ := I.list hq
    have hlen := r'.length
    refine call_tuple_list pl.isList (fun h' kp => ?_) (by simp only [List.size_toArray] <;> omega)
    have I1 : Inv X pins σ H { s with heap := h' } := I.kept (t' := s.toks) kp
    have I2 : Inv X pins σ (upd H h'.objs.size (.tup ys)) { s with heap := h'.push { cls := .type "tuple", data := .seq its.toArray } } :=
      I1.laid (t' := s.toks) (fun b o e => Heap.get?_push_of_some _ e) (Nat.le_refl _) (show ObjOk X.prog X.w _ _ _ (.tup ys) from ⟨hz, its, r', IsTup.new _ _, NoD.push⟩)
    exact ⟨.ref h'.objs.size, _, I2, rfl, q _ (I1.hok.fresh (Nat.le_refl _))⟩
  · obtain ⟨its, r', pl, hz⟩ := I.tuple hq
    exact call_tuple_same pl ⟨.ref p, H, I, rfl, q⟩

/-! ### the call of a builtin's method: o.m(..) -/
/-- the value is of that builtin type -/
noncomputable def tyV (K : PySem.W.Frag) (T : String) (x : V) (H : Hp) : Prop := match x with
  | .str _ => T = "str"
  | .int _ => T = "int"
  | .ref p => (T = "list" ∧ ∃ xs, SqL K H p xs) ∨ (T = "tuple" ∧ ∃ o, K.lookup p = some o ∧ o.cls = .type "tuple" ∧ o.dict = none) ∨
      (T = "dict" ∧ ((∃ kvs, H p = some (.dK kvs)) ∨ ∃ kvs, H p = some (.dT kvs))) ∨ (T = "set" ∧ ∃ S n, H p = some (.set S n))
  | _ => False
theorem tyV_is {pins : List (Addr × Obj)} {σ : St} {H : Hp} {s : Shared} {T : String} {x : V} {v : Value} (I : Inv X pins σ H s) (r : RelV x v) (ty : tyV X.K T x H) :
    s.TypeIs v T ∧ ∀ a, v = .ref a → ∃ ob, s.heap.get? a = some ob ∧ ob.dict = none := by
  cases x with
  | str z =>
    obtain ⟨t, rfl⟩ := r
    cases (show T = "str" from ty)
    exact ⟨typeIs_str s z t, fun _ e => nomatch e⟩
  | int i =>
    obtain ⟨t, rfl⟩ := r
    cases (show T = "int" from ty)
    exact ⟨typeIs_int s i t, fun _ e => nomatch e⟩
  | ref p =>
    cases r
    rcases ty with ⟨rfl, xs, hq⟩ | ⟨rfl, o, hk, hc, hd⟩ | ⟨rfl, hk⟩ | ⟨rfl, S, n, hk⟩
    · obtain ⟨its, _, pl, _⟩ := I.list hq
      refine ⟨pl.isList.typeIs, fun a e => ?_⟩
      cases e
      obtain ⟨o, n, e, c, hd, _⟩ := pl
      exact ⟨o, e, hd⟩
    · refine ⟨⟨o, I.kIn p o hk, hc⟩, fun a e => ?_⟩
      cases e
      exact ⟨o, I.kIn _ o hk, hd⟩
    · have z : ∃ o, s.heap.get? p = some o ∧ o.ExactDict := by
        rcases hk with ⟨kvs, hk⟩ | ⟨kvs, hk⟩
        · obtain ⟨_, _, _, _, o, _, _, e, ex, _⟩ := I.hok p _ hk
          exact ⟨o, e, ex⟩
        · obtain ⟨_, _, _, _, o, _, _, e, ex, _⟩ := I.hok p _ hk
          exact ⟨o, e, ex⟩
      obtain ⟨o, e, ex⟩ := z
      refine ⟨⟨o, e, ex.1⟩, fun a e2 => ?_⟩
      cases e2
      exact ⟨o, e, ex.2.1⟩
    · obtain ⟨o, _, _, _, e, ex, _⟩ := I.hok p _ hk
      refine ⟨⟨o, e, ex.1⟩, fun a e2 => ?_⟩
      cases e2
      exact ⟨o, e, ex.2.1⟩
  | _ => exact False.elim ty
noncomputable def tBM (K : PySem.W.Frag) (T : String) (r : V → List V → Hp → VK → Prop) (to : TE) (t : TA) : TE := fun σ H Q => to σ H fun x H1 => tyV K T x H1 ∧ t σ H1 fun xs H2 => r x xs H2 Q
variable {o e : Expr} {es : List Expr} {to : TE} {t : TA} {name : Str} {apos cpos : Pos} {T id : String} {r : V → List V → Hp → VK → Prop}
theorem pe_bm (pa : PlainAttrs T) (slot : Slot T name id) (hty : typeOf (.builtin id) = pure (.type "method_descriptor")) (hm : MtR X id r) (ho : PE X o to) (ha : PA X (e :: es) t)
    (hbase : attributeBase o name X.env (eval o X.env) = eval o X.env := by rfl)
    (hfew : ((backTo cpos (starEach (e :: es) X.env)).all (fun x => !x.1) && (backToKw cpos (keywordEach [] X.env)).all (fun x => x.1.isSome)
      && decide ((e :: es).length + ([] : List Keyword).length + (if ([] : List Keyword).isEmpty then 0 else 1) < 30)) = true := by rfl)
    (hline : (apos.endLine == cpos.line) = true := by rfl) (hs : starEach (e :: es) X.env = (false, eval e X.env) :: starEach es X.env := by rfl) (hplain : (backTo cpos (starEach es X.env)).any (·.1) = false := by rfl) :
    PE X (.Call (.Attribute o name apos) (e :: es) [] cpos) (tBM X.K T r to t) := by
  intro pins s σ H Q I h
  refine wpAny_Call_method_late hbase hfew hline rfl (thn (ho pins s σ H _ I h) fun v s1 ⟨x, H1, I1, r1, ty, q1⟩ => ?_)
  obtain ⟨h1, h2⟩ := tyV_is I1 r1 ty
  refine ⟨T, id, pa, slot, hty, h1, h2, ?_⟩
  have hA := ha cpos pins s1 σ H1 _ I1 q1
  rw [hs] at hA ⊢
  refine Calls.callWith_builtin (by show (false || (backTo cpos (starEach es X.env)).any (·.1)) = false; rw [hplain] <;> rfl) (Calls.evalArgs_plain ?_)
  exact thn hA fun us s2 ⟨vs, H2, I2, r2, q2⟩ => hm pins s2 σ H2 x vs v us Q I2 r1 r2 q2
/- xs.append(e), list.index on a module's tuple .. are MtR facts of 06m -/
end
end L2

namespace L2
open PySem PySem.Spec PyProof.Rows

noncomputable def MtM (X : Cx) (id : String) (r : V → List V → Hp → VK → Prop) : Prop :=
  ∀ (pins : List (Addr × Obj)) (s : Shared) (σ : St) (H : Hp) (x : V) (xs : List V) (v : Value) (us : List Value) (Q : VK), Inv X pins σ H s → RelV x v → Vals xs us → r x xs H Q →
    wpAny (model X.prog X.w) X.A (call (.builtin id) (v :: us)) (EP X pins σ Q) X.xe s

/-! ### lists of values -/
theorem Vals.one : ∀ {x : V} {us : List Value}, Vals [x] us → ∃ u, us = [u] ∧ RelV x u
  | _, _, .cons r .nil => ⟨_, rfl, r⟩
theorem Vals.two : ∀ {x y : V} {us : List Value}, Vals [x, y] us → ∃ u v, us = [u, v] ∧ RelV x u ∧ RelV y v
  | _, _, _, .cons r (.cons q .nil) => ⟨_, _, rfl, r, q⟩
theorem Vals.zero : ∀ {us : List Value}, Vals [] us → us = []
  | _, .nil => rfl
theorem Vals.reverse {xs : List V} {us : List Value} (h : Vals xs us) : Vals xs.reverse us.reverse := by
  induction h with
  | nil => exact .nil
  | cons r t ih => rw [List.reverse_cons, List.reverse_cons]; exact Vals.append ih (.cons r .nil)
theorem Vals.rep {xs : List V} {us : List Value} (h : Vals xs us) : ∀ k : Nat, Vals (List.replicate k xs).flatten (List.replicate k us).flatten
  | 0 => .nil
  | k + 1 => by
    rw [List.replicate_succ, List.replicate_succ, List.flatten_cons, List.flatten_cons]
    exact Vals.append h (Vals.rep h k)
theorem foldl_rep (its : List Value) : ∀ (k : Nat) (acc : List Value),
    List.foldl (fun x1 x2 => x1 ++ x2) acc.toArray (List.replicate k its.toArray) = (acc ++ (List.replicate k its).flatten).toArray
  | 0, acc => by simp
  | k + 1, acc => by
    have e : acc.toArray ++ its.toArray = (acc ++ its).toArray := by simp
    have e2 : (acc ++ its) ++ (List.replicate k its).flatten = acc ++ (List.replicate (k + 1) its).flatten := by
      rw [List.replicate_succ, List.flatten_cons, List.append_assoc]
    rw [← e2, ← foldl_rep its k (acc ++ its), ← e, List.replicate_succ, List.foldl_cons]

section
variable {X : Cx} {pins : List (Addr × Obj)} {σ : St} {H : Hp} {s : Shared} {l b : Addr} {xs ys zs : List V}

/-! ### the two steps: a tracked list is rewritten, a new list is laid -/
theorem Inv.lset {its its' : List Value} {n : Nat} {f : Array Value → Array Value} {t' : Nat} (I : Inv X pins σ H s) (hH : H l = some (.lst xs))
    (e : s.heap.get? l = some { cls := .type "list", data := .seq its.toArray n }) (hf : f its.toArray = its'.toArray) (hv : Vals ys its') (hz : ys.length ≤ sizeLine) :
    Inv X pins σ (upd H l (.lst ys)) { s with heap := s.heap.update l (Obj.mapSeq f), toks := t' } := by
  have q := PySem.IsL.update e f
  rw [hf] at q
  refine I.write (x := l) (e := l) (by rw [hH]; exact trivial) (.inl rfl) (fun b' u hb hu => (Heap.get?_update_other s.heap (Obj.mapSeq f) (Ne.symm hb)).trans hu) ⟨_, q⟩ ?_
  exact ⟨hz, its', _, hv, q⟩
theorem Inv.lnew {its : List Value} {t' : Nat} (I : Inv X pins σ H s) (hv : Vals ys its) (hz : ys.length ≤ sizeLine) :
    Inv X pins σ (upd H s.heap.objs.size (.lst ys)) { s with heap := s.heap.push { cls := .type "list", data := .seq its.toArray }, toks := t' } :=
  I.laid (fun _ _ q => Heap.get?_push_of_some _ q) (Nat.le_refl _) ⟨hz, its, 0, hv, Heap.get?_push_size _ rfl⟩
theorem Inv.fresh (I : Inv X pins σ H s) : H s.heap.objs.size = none := I.hok.fresh (Nat.le_refl _)
theorem Inv.lstM (I : Inv X pins σ H s) (hH : H l = some (.lst xs)) : xs.length ≤ sizeLine ∧ ∃ (its : List Value) (n : Nat), Vals xs its ∧ xs.length = its.length ∧ s.heap.get? l = some { cls := .type "list", data := .seq its.toArray n } := by
  obtain ⟨z, its, n, r, e⟩ := I.hok l _ hH
  exact ⟨z, its, n, r, r.length, e⟩

end

section
variable {X : Cx}

/-! ### methods -/
noncomputable def rAppend : V → List V → Hp → VK → Prop := fun x vs H Q => ∃ l xs y, x = .ref l ∧ vs = [y] ∧ H l = some (.lst xs) ∧ xs.length < sizeLine ∧ Q .non (upd H l (.lst (xs ++ [y])))
theorem mt_append : MtM X "list.append" rAppend := by
  intro pins s σ H x vs v us Q I rx rv h
  obtain ⟨l, xs, y, rfl, rfl, hH, hz, q⟩ := h
  cases rx
  obtain ⟨u, rfl, ru⟩ := rv.one
  obtain ⟨z, its, n, r, hl, e⟩ := I.lstM hH
  refine call_meets F.slot_list_append ⟨_, e, rfl⟩ F.entry_list_append (F.args_list_append_2 _ _) (PySem.list_append l its.toArray n u (by rw [List.size_toArray]; omega)) ⟨e, ?_⟩
  refine ⟨.non, _, I.lset (its' := its ++ [u]) hH e (by simp) (r.append (.cons ru .nil)) ?_, rfl, q⟩
  rw [List.length_append, List.length_singleton]
  omega

/-! ### list + list, list += list, list * int -/
noncomputable def rCat : R2 := fun x y H Q => ∃ l b xs zs, x = .ref l ∧ y = .ref b ∧ H l = some (.lst xs) ∧ H b = some (.lst zs) ∧ xs.length + zs.length ≤ sizeLine ∧ ∀ p, H p = none → Q (.ref p) (upd H p (.lst (xs ++ zs)))
theorem op_cat : OpR X (binaryOp .Add) rCat := by
  intro pins s σ H x y v u Q I rx ry h
  obtain ⟨l, b, xs, zs, rfl, rfl, hH, hB, hz, q⟩ := h
  cases rx
  cases ry
  obtain ⟨z, its, n, r, hl, e⟩ := I.lstM hH
  obtain ⟨z2, its2, n2, r2, hl2, e2⟩ := I.lstM hB
  refine PySem.P.add_list e e2 ?_ (by rw [List.size_toArray, List.size_toArray]; omega)
  have ea : its.toArray ++ its2.toArray = (its ++ its2).toArray := by simp
  rw [ea]
  exact ⟨.ref _, _, I.lnew (t' := s.toks) (r.append r2) (by rw [List.length_append]; omega), rfl, q _ I.fresh⟩
theorem len_rep {α : Type} (xs : List α) (k : Nat) : (List.replicate k xs).flatten.length = k * xs.length := by
  induction k with
  | zero => simp
  | succ k ih => rw [List.replicate_succ, List.flatten_cons, List.length_append, ih, Nat.succ_mul, Nat.add_comm]
/-! ### del xs[i] -/
end

/-! ### xs[a:b] = ys -/
section
variable {prog : Program} {w : World} {A : Around} {E : Value → Shared → Prop} {s : Shared}
set_option maxRecDepth 100000 in
end

section
variable {X : Cx}
end
end L2

namespace Att
open PySem PySem.W PySem.Calls PyProof.Rows

/-! ### the script -/
theorem ints_of_wellAll {P : Params} {h : Heap} : ∀ (ns : List Int) (vs : List Value), WellAll P h vs (ns.map WData.int) → IntsAre vs ns := by
  intro ns
  induction ns with
  | nil =>
    intro vs w
    rw [List.map_nil] at w
    cases w
    exact .nil
  | cons n ns ih =>
    intro vs w
    rw [List.map_cons] at w
    cases w with
    | cons a b =>
      cases a
      exact .cons _ _ (ih _ b)

theorem script_of {l : OpenLaw} {n : Nat} (hn : l.most = some n) {P : Params} {h : Heap} {args : List WData} {vals : List Value}
    (hpre : l.row.toRowW.claim.pre args = true) (hwl : WellAll P h vals args) :
    ∃ a vs ns, vals = [Value.ref a] ∧ args = [WData.list (ns.map WData.int)] ∧ h.get? a = some { cls := .type "list", data := .seq vs.toArray } ∧ IntsAre vs ns ∧ ns.length ≤ n := by
  have hsh : WShape.hasAll [] args [.list .int] = true := (pre_splitW hpre).1
  have hc : l.pre.holds [] { args := args } = true := (pre_splitW hpre).2
  obtain ⟨d, r, rfl, h1, h2⟩ := hasAllW_cons hsh
  obtain rfl := hasAllW_nil h2
  obtain ⟨xs, rfl, h3⟩ := hasW_list h1
  obtain ⟨ns, rfl⟩ := items_int h3
  have hlen : ns.length ≤ n := by
    unfold OpenLaw.pre at hc
    have h4 : (WTm.not (.lt (.lit (.int (n : Int))) (.len (.arg 0)))).holds [] { args := [.list (ns.map .int)] } = true := by
      have h4 := (holds_andW hc).1
      rw [hn] at h4
      exact h4
    have h5 := condW_of h4 (w_not (w_lt w_lit (w_len_list (w_arg rfl))))
    rw [List.length_map] at h5
    refine Nat.le_of_not_lt fun q => ?_
    have q' : (n : Int) < ((ns.length : Nat) : Int) := by omega
    first
      | (rw [decide_eq_true q'] at h5; exact absurd h5 (by decide))
      | (simp at h5; omega)
  cases hwl with
  | cons w1 w2 =>
    cases w2
    cases w1 with
    | list ho hall => exact ⟨_, _, ns, rfl, rfl, ho, ints_of_wellAll ns _ hall, hlen⟩

theorem post_true (l : OpenLaw) (args : List WData) : l.row.toRowW.claim.post args (.bool true) args = true :=
  postW_of (r := l.row.toRowW) (X := (true == true))
    (show WShape.has [] (.bool true) .bool = true by first | rfl | decide | simp [WShape.has, WShape.arms, WShape.armsAll])
    (show (WTm.eq .res (.lit (.bool true))).value [] { args := args, res := some (.bool true), after := args } = some (.bool (true == true)) from w_eq_bool (w_res rfl) w_lit) rfl

/-! ### the attachment: holds_open's last premise (the goal 'hc' behind k_head) from a wpAny of the law's body -/
/-- the same from a codeAny of the CALL (for a layer whose function contracts speak of calls) -/
theorem attach_call {l : OpenLaw} {n : Nat} {q : Program} {loose : List Str} {XP : (Str → Option Value) → Heap → Prop} {YP : World → Heap → Prop} {d : DefRec}
    (hn : l.most = some n) (hdf : d.params.defaults = [])
    (call : ∀ (w : World) (s₀ s₁ : Shared) (mg mb : Str → Option Value) (fa : Addr) (o : Obj) (pm cd doc : Value) (a : Addr) (vs : List Value) (ns : List Int),
      Ground q loose [] XP w s₀ mg mb s₁.heap → YP w s₁.heap →
      s₁.heap.get? fa = some o → o.data = .func (docDef d.name d.params d.body d.scope pm cd doc) → s₁.heap.CodeRec cd d.name → mg d.name = some (.ref fa) →
      s₁.heap.get? a = some { cls := .type "list", data := .seq vs.toArray } → IntsAre vs ns → ns.length ≤ n → s₁.gens = #[] →
      codeAny (model l.prog w) callerA (.call (.ref fa) ⟨[.ref a], []⟩) (fun r s' => r = .ok (.ret (.bool true)) ∧ OldK s₁.heap s'.heap ∧ s'.os = s₁.os ∧ AllBare s'.gens) s₁) :
    WalkO q loose XP YP l.row.toRowW d [] (fun f vs => PySem.call f vs) := by
  intro w s₀ s₁ mg mb G Y fa o pm cd doc dV kV ho hd hcd hD hmg hg args vals as hpre hlay hrd hwl hlo
  obtain rfl : dV = .none := Dflts.none hD hdf
  obtain rfl : kV = .none := Dflts.noKw hD
  obtain ⟨a, vs, ns, rfl, rfl, hobj, hints, hlen⟩ := script_of hn hpre hwl
  refine enter_call (codeAny_mono (call w s₀ s₁ mg mb fa o pm cd doc a vs ns G Y ho (fd_plain hd) hcd hmg hobj hints hlen hg) fun r s' hq => ?_)
  obtain ⟨rfl, h2, h3, h4⟩ := hq
  exact ⟨.inl ⟨.bool true, .bool true, [], rfl, fun _ => rfl, .bool true, post_true l _, fun _ => ⟨List.Pairwise.nil, fun _ hm => (nomatch hm)⟩⟩, h2, h3, h4⟩

/-! ### rules over ANY heap (no ledger) from facts about the written part K: the library's own take a ledger (News) for what they write -/
section
variable {prog : Program} {w : World} {A : Around} {E : Value → Shared → Prop} {s : Shared} {K : Frag}

/-! the whole heap as the ledger: makes every rule that writes through a ledger a rule over any heap -/
noncomputable def ledger (h : Heap) (L d : Addr) : List (Addr × Obj) := (List.range h.objs.size).filterMap fun a => if a = L ∨ a = d then none else (h.get? a).map fun o => (a, o)
end
end Att

namespace L2
open PySem PySem.Spec PyProof.Rows

theorem vals_ints : ∀ {vs : List Value} {ns : List Int}, IntsAre vs ns → Vals (ns.map V.int) vs
  | _, _, .nil => .nil
  | _, _, .cons n t h => .cons ⟨t, rfl⟩ (vals_ints h)

end L2

namespace L2
open PySem PySem.Spec PyProof.Rows

end L2

namespace L2
open PySem PySem.Spec PyProof.Rows

/-! ### the text by places -/
noncomputable def defArgs (s : Stmt) : Arguments := match s with
  | .FunctionDef _ a _ _ _ _ _ _ _ _ => a
  | _ => { posonlyargs := [], args := [], vararg := none, kwonlyargs := [], kw_defaults := [], kwarg := none, defaults := [] }
noncomputable def defBody (s : Stmt) : List Stmt := match s with
  | .FunctionDef _ _ b _ _ _ _ _ _ _ => b
  | _ => []
noncomputable def defScope (s : Stmt) : Scope := match s with
  | .FunctionDef _ _ _ _ _ _ sc _ _ _ => sc
  | _ => { kind := .function, names := [], isGenerator := false, isCoroutine := false }

/-! ### no exception leaves a def -/
abbrev CX0 : CXT := fun _ _ _ _ _ _ => False
abbrev E0 : XK := fun _ _ _ => False
theorem pass0 {X : Cx} : Passes CX0 X E0 := fun _ _ _ _ _ _ _ h => h.elim

/-! ### a def (or method) of the text as it stands behind the top -/
structure Fun (K : PySem.W.Frag) (x qual : Str) (st : Stmt) (f : Addr) (fd : FuncData) : Prop where
  ex : ∃ (oc : Value) (od : Option Addr) (kV doc pm : Value) (an : Option Addr) (cdv ct : Value) (osl : Array (Option Value)),
    fd = PySem.W.fnOf x qual (defArgs st) (defBody st) (defScope st) .none kV doc pm an cdv ct ∧ K.lookup f = some ⟨oc, od, .func fd, osl⟩ ∧ PySem.W.codeIn K cdv qual = true
  kp : PySem.W.keepIn K (.ref f) = true
section
variable {P : Program} {w : World} {K : PySem.W.Frag} {mg : Str → Option Value} {base : Heap}
/-- THE RULE for a def: its body as a term of rules, and the reading of that term -/
theorem Fun.ok {x qual : Str} {st : Stmt} {f : Addr} {fd : FuncData} {N ps : List Str} {k : Nat} {sp : Sp} (F : Fun K x qual st f fd) (S : FnScope N ps (defScope st)) (len : ∀ vs H Q E, sp vs H Q E → vs.length = ps.length)
    (hbody : ∀ (cdv : Value) (A : Around) (outer : List Env) (s : Shared) (H : Hp) (vs : List V) (Q : VK) (E : XK), Room k (A.deeper (envOfC qual (defScope st) s.heap.objs.size f cdv)) → sp vs H Q E →
      ∃ t, PSs (cxOf CX0 P w K mg base N qual (defScope st) f cdv A outer s H E).nox (defBody st) t ∧ t { nx := fun _ H' => Q .non H', rt := Q } (start N vs) H) : FnOk P w K mg base CX0 (k + 1) f fd ps sp := by
  obtain ⟨oc, od, kV, doc, pm, an, cdv, ct, osl, rfl, lk, hcd⟩ := F.ex
  refine fn_of lk hcd S len fun A outer s H vs Q E hr hsp => ?_
  obtain ⟨t, h, q⟩ := hbody cdv A outer s H vs Q E hr hsp
  exact ⟨t, h.nox, q⟩
/-- how its arguments bind (no defaults): h is «fun _ _ _ _ _ _ us hl => match us, hl with | [_, _], _ => rfl», one _ a parameter -/
theorem Fun.binds {x qual : Str} {st : Stmt} {f : Addr} {fd : FuncData} {ps : List Str} (F : Fun K x qual st f fd)
    (h : ∀ (kV doc pm : Value) (an : Option Addr) (cdv ct : Value) (us : List Value), us.length = ps.length → bindArgs (PySem.W.fnOf x qual (defArgs st) (defBody st) (defScope st) .none kV doc pm an cdv ct) ⟨us, []⟩ = pure (ps.zip us)) : Binds K fd ps [] := by
  obtain ⟨oc, od, kV, doc, pm, an, cdv, ct, osl, rfl, lk, hcd⟩ := F.ex
  exact .all (h kV doc pm an cdv ct)
theorem fun_mk {x qual : Str} {st : Stmt} {f : Addr} {oc : Value} {od an : Option Addr} {osl : Array (Option Value)} {kV doc pm cdv ct : Value} (l : K.lookup f = some ⟨oc, od, .func (PySem.W.fnOf x qual (defArgs st) (defBody st) (defScope st) .none kV doc pm an cdv ct), osl⟩)
    (c : PySem.W.codeIn K cdv qual = true) (k : PySem.W.keepIn K (.ref f) = true) : Fun K x qual st f (PySem.W.fnOf x qual (defArgs st) (defBody st) (defScope st) .none kV doc pm an cdv ct) := ⟨⟨oc, od, kV, doc, pm, an, cdv, ct, osl, rfl, l, c⟩, k⟩
end
/-! ### expressions in short: the name that stands in the i-th slot -/
section
variable {X : Cx}
theorem pv (i : Nat) {x : Str} {pos : Pos} (hN : X.N[i]? = some x := by rfl) (hv : Vis X.env.scope x := by first | exact Or.inl rfl | exact Or.inr (Or.inl rfl) | exact Or.inr (Or.inr rfl)) (hd : (x == ("__debug__" : Str)) = false := by decide)
    (hcd : (x == ("__classdict__" : Str)) = false := by decide) : PE X (.Name x pos) (tVar i) := pe_var hN hv hd hcd
end

/-! ### tests -/
theorem iteF {A B : Prop} (h : B) : if false = true then A else B := by
  rw [if_neg Bool.false_ne_true]
  exact h
theorem iteT {A B : Prop} (h : A) : if true = true then A else B := by
  rw [if_pos rfl]
  exact h
theorem ite2 {c A B : Prop} [Decidable c] (h1 : c → A) (h2 : ¬ c → B) : if c then A else B := by
  by_cases h : c
  · rw [if_pos h]
    exact h1 h
  · rw [if_neg h]
    exact h2 h
/-! ### heaps -/
/-- all that was tracked is as it was -/
noncomputable def Same (H H' : Hp) : Prop := ∀ b o, H b = some o → H' b = some o
theorem Same.refl (H : Hp) : Same H H := fun _ _ h => h
theorem Same.trans {H H1 H2 : Hp} (a : Same H H1) (b : Same H1 H2) : Same H H2 := fun c o h => b c o (a c o h)
theorem Same.free {H H' : Hp} (e : Same H H') {l : Addr} (h : H' l = Option.none) : H l = Option.none := by
  cases q : H l with
  | none => rfl
  | some o =>
    rw [e l o q] at h
    cases h
theorem Same.seq {K : PySem.W.Frag} {H H' : Hp} {a : Addr} {xs : List V} (e : Same H H') (h : SqL K H a xs) : SqL K H' a xs := by
  rcases h with (h | ⟨o, h⟩) | h
  · exact .inl (.inl (e _ _ h))
  · exact .inl (.inr ⟨o, e _ _ h⟩)
  · exact .inr h

/-! ### a dict's pairs: keys that differ -/
section
variable {κ : Type} [DecidableEq κ]
end
end L2

namespace L2
open PySem PySem.Spec PyProof.Rows

/-! ### list comprehensions -/
section
variable {prog : Program} {w : World} {A : Around} {R : Result → Shared → Prop} {s : Shared}
/-- the loop of a list comprehension, whatever its target -/
theorem compLoop_any {elt target iter : Expr} {ifs : List Expr} {scope : Scope} {pos : Pos} {it acc : Value} {env : Env} (I : Nat → Shared → Prop)
    (turn : ∀ n s, I n s → wpAny (model prog w) A (pyNext it) (fun r s₁ => match r with
      | none => R (.ok .next) s₁
      | some v => wpAny (model prog w) A (letOwnedTupleGo target it v) (fun _ s₂ => wpAny (model prog w) A (assign target env v) (fun _ s₂ =>
          wpAny (model prog w) A (forIn ifs true fun c r => if r = true then do let ok ← isTrue c env (eval c env); pure (ForInStep.yield ok) else pure (ForInStep.yield r)) (fun ok s₃ =>
            if ok = true then wpAny (model prog w) A (eval elt env) (fun x s₄ =>
              wpAny (model prog w) A (call (.builtin "list.append") [acc, x]) (fun _ s₅ => ∃ m, m < n ∧ I m s₅) (fun _ _ => False) s₄) (fun _ _ => False) s₃
            else ∃ m, m < n ∧ I m s₃) (fun _ _ => False) s₂) (fun _ _ => False) s₂) (fun _ _ => False) s₁) (fun _ _ => False) s)
    (n : Nat) (h : I n s) :
    codeAny (model prog w) A (.compLoop (.ListComp elt [⟨target, iter, ifs, 0⟩] scope pos) 0 it acc env) R s := by
  refine codeAny_loop rfl I (fun n s hI => ?_) n h
  show wpAny _ A ((compTurn (.ListComp elt [⟨target, iter, ifs, 0⟩] scope pos) 0 it acc env).onRaise (fun x => do noteFrame x env; theTreesLotGoes x)) _ _ s
  refine wpAny_noted ?_
  rw [compTurn_list]
  refine wpAny_bind (wpAny_standAt (wpAny_bind (wpAny_mono (turn n s hI) (fun r s₁ h₁ => ?_) fun _ _ h' => h'.elim)))
  cases r with
  | none => exact wpAny_pure h₁
  | some v =>
    refine wpAny_bind (wpAny_mono h₁ (fun _ s₁ h₁ => ?_) fun _ _ h' => h'.elim)
    refine wpAny_bind (wpAny_mono h₁ (fun _ s₂ h₂ => wpAny_bind (wpAny_mono h₂ (fun ok s₃ h₃ => ?_) fun _ _ h' => h'.elim)) fun _ _ h' => h'.elim)
    cases ok with
    | false => exact wpAny_pure ⟨rfl, h₃⟩
    | true =>
      exact wpAny_bind (wpAny_bind (wpAny_mono h₃ (fun x s₄ h₄ => wpAny_bind (wpAny_mono h₄ (fun _ s₅ h₅ => wpAny_pure (wpAny_pure ⟨rfl, h₅⟩)) fun _ _ h' => h'.elim)) fun _ _ h' => h'.elim))
end

/-! #### the cells that a block takes along -/
noncomputable def clo (env : Env) : List (Str × NameKind) → List (Str × Addr) → List (Str × Addr)
  | [], cs => cs
  | (n, k) :: r, cs => if k == .free then clo env r ((n, (env.cells.lookup n).getD 0) :: cs) else clo env r cs
theorem closureFor_clo {scope : Scope} {env : Env} (hf : ∀ x ∈ scope.names, x.2 = .free → ∃ c, env.cells.lookup x.1 = some c) : closureFor scope env = pure (clo env scope.names []) := by
  have go : ∀ (l : List (Str × NameKind)) (cs : List (Str × Addr)), (∀ x ∈ l, x.2 = .free → ∃ c, env.cells.lookup x.1 = some c) →
      (forIn (m := Sem) l cs fun x r => (if (x.2 == NameKind.free) = true then do let a ← cellOf env x.1; pure (ForInStep.yield ((x.1, a) :: r)) else pure (ForInStep.yield r))) = pure (clo env l cs) := by
    intro l
    induction l with
    | nil => intro cs _; rfl
    | cons p r ih =>
      obtain ⟨n, k⟩ := p
      intro cs h
      have hr : ∀ x ∈ r, x.2 = .free → ∃ c, env.cells.lookup x.1 = some c := fun x hx => h x (List.mem_cons_of_mem _ hx)
      rw [List.forIn_cons]
      by_cases hk : k = .free
      · subst hk
        obtain ⟨c, hc⟩ := h (n, .free) List.mem_cons_self rfl
        have e : cellOf env n = pure c := by unfold cellOf; dsimp only at hc; rw [hc]
        dsimp only
        rw [if_pos (by rfl), e, pure_bind, pure_bind]
        dsimp only
        rw [ih _ hr]
        dsimp only at hc
        show _ = pure (if (NameKind.free == .free) = true then clo env r ((n, (env.cells.lookup n).getD 0) :: cs) else clo env r cs)
        rw [if_pos (by rfl), hc]
        rfl
      · have hk' : (k == NameKind.free) = false := by simpa using hk
        dsimp only
        rw [hk', if_neg Bool.false_ne_true, pure_bind]
        dsimp only
        rw [ih _ hr]
        show _ = pure (if (k == .free) = true then clo env r ((n, (env.cells.lookup n).getD 0) :: cs) else clo env r cs)
        rw [hk', if_neg Bool.false_ne_true]
  have e := go scope.names [] hf
  unfold closureFor
  simp only []
  exact (by
    first
      | exact e
      | (rw [show (forIn (m := Sem) scope.names ([] : List (Str × Addr)) _) = _ from e]; rfl)
      | (simpa using e))
theorem clo_lookup {env : Env} {x : Str} {c : Addr} : ∀ {l : List (Str × NameKind)} {cs : List (Str × Addr)}, (∀ x ∈ l, x.2 = .free → ∃ c, env.cells.lookup x.1 = some c) → (clo env l cs).lookup x = some c → cs.lookup x = some c ∨ env.cells.lookup x = some c
  | [], cs, _, h => .inl h
  | (n, k) :: r, cs, hf, h => by
    have hr : ∀ x ∈ r, x.2 = .free → ∃ c, env.cells.lookup x.1 = some c := fun x hx => hf x (List.mem_cons_of_mem _ hx)
    unfold clo at h
    split at h
    · rename_i hk
      obtain ⟨c', hc'⟩ := hf (n, k) List.mem_cons_self (by simpa using hk)
      dsimp only at hc'
      rcases clo_lookup hr h with q | q
      · rw [List.lookup_cons] at q
        cases e : x == n with
        | true =>
          rw [e] at q
          have : x = n := by simpa using e
          subst this
          rw [hc'] at q
          dsimp at q
          exact .inr (hc'.trans q)
        | false => rw [e] at q; exact .inl q
      · exact .inr q
    · exact clo_lookup hr h
theorem clo_some {env : Env} {x : Str} : ∀ {l : List (Str × NameKind)} {cs : List (Str × Addr)}, (x, NameKind.free) ∈ l ∨ (∃ c, cs.lookup x = some c) → ∃ c, (clo env l cs).lookup x = some c
  | [], cs, h => by
    rcases h with h | h
    · cases h
    · exact h
  | (n, k) :: r, cs, h => by
    unfold clo
    split
    · rename_i hk
      have hk : k = .free := by simpa using hk
      subst hk
      refine clo_some (cs := (n, (env.cells.lookup n).getD 0) :: cs) ?_
      rcases h with h | ⟨c, h⟩
      · rcases List.mem_cons.mp h with h | h
        · cases h
          exact .inr ⟨_, List.lookup_cons_self⟩
        · exact .inl h
      · refine .inr ?_
        cases e : x == n with
        | true => exact ⟨_, by rw [List.lookup_cons, e]⟩
        | false => exact ⟨c, by rw [List.lookup_cons, e]; exact h⟩
    · rename_i hk
      refine clo_some ?_
      rcases h with h | h
      · rcases List.mem_cons.mp h with h | h
        · cases h
          exact absurd rfl hk
        · exact .inl h
      · exact .inr h
theorem relabel_kind {scope : Scope} {env : Env} {x : Str} (hcell : ∀ y ∈ scope.names, y.2 ≠ .cell) (h : (relabel scope env).names.lookup x = some .cell ∨ (relabel scope env).names.lookup x = some .free) : (x, NameKind.free) ∈ scope.names := by
  have go : ∀ (l : List (Str × NameKind)), (∀ y ∈ l, y.2 ≠ .cell) → ∀ k, (k = NameKind.cell ∨ k = .free) →
      (l.map fun (n, k) => if (k == NameKind.free && env.scope.kind == .function && env.kindOf n == some .cell) then (n, NameKind.cell) else (n, k)).lookup x = some k → (x, NameKind.free) ∈ l := by
    intro l
    induction l with
    | nil => intro _ k _ h; cases h
    | cons p r ih =>
      obtain ⟨n, k0⟩ := p
      intro hc k hk h
      have hr : ∀ y ∈ r, y.2 ≠ .cell := fun y hy => hc y (List.mem_cons_of_mem _ hy)
      rw [List.map_cons] at h
      dsimp only at h
      have hn := hc (n, k0) List.mem_cons_self
      dsimp only at hn
      by_cases hx : (x == n) = true
      · have e : x = n := by simpa using hx
        subst e
        split at h
        · rename_i hz
          have : k0 = .free := by
            simp only [Bool.and_eq_true] at hz
            simpa using hz.1.1
          subst this
          exact List.mem_cons_self
        · rw [List.lookup_cons_self] at h
          cases h
          rcases hk with rfl | rfl
          · exact absurd rfl hn
          · exact List.mem_cons_self
      · have hx : (x == n) = false := by simpa using hx
        have h' : (r.map fun (n, k) => if (k == NameKind.free && env.scope.kind == .function && env.kindOf n == some .cell) then (n, NameKind.cell) else (n, k)).lookup x = some k := by
          split at h
          · rw [List.lookup_cons, hx] at h; exact h
          · rw [List.lookup_cons, hx] at h; exact h
        exact List.mem_cons_of_mem _ (ih hr k hk h')
  rcases h with h | h
  · exact go scope.names hcell _ (.inl rfl) h
  · exact go scope.names hcell _ (.inr rfl) h
end L2

namespace L2
open PySem PySem.Spec PyProof.Rows

/-- a list object of these values -/
abbrev lstO (us : List Value) : Obj := { cls := .type "list", data := .seq us.toArray us.length }
theorem lstO_snoc (us : List Value) (u : Value) : ({ cls := .type "list", data := .seq (us.toArray.push u) (us.length + 1) } : Obj) = lstO (us ++ [u]) := by
  show ({ cls := .type "list", data := .seq (us.toArray.push u) (us.length + 1) } : Obj) = { cls := .type "list", data := .seq (us ++ [u]).toArray (us ++ [u]).length }
  rw [List.length_append, List.length_singleton, List.push_toArray]

/-- what a comprehension's block begins with: its own names empty, then the names it takes along (by their slots in the def) -/
noncomputable def capσ (k : Nat) (cap : List Nat) (σ : St) : St := List.replicate k none ++ cap.map fun j => (σ[j]?).getD none
noncomputable def capN (own : List Str) (cap : List Nat) (N : List Str) : List Str := own ++ cap.map fun j => (N[j]?).getD Str.empty
/-- the context of a comprehension's block -/
noncomputable def compCx (X : Cx) (own : List Str) (cap : List Nat) (scope : Scope) (C : Addr) (fp : List Addr) (s₂ : Shared) (H₂ : Hp) : Cx :=
  { X with N := capN own cap X.N, s₀ := s₂, H₀ := H₂, env := compEnvC scope (clo X.env scope.names []) C X.env, outer := X.stack, ex := fp, fn := fun _ => false, pn := [], xe := fun _ _ => False }
/-- the names that are taken along are cells of the def (or of the block around) -/
noncomputable def CapOk (X : Cx) (scope : Scope) : List Nat → Prop
  | [] => True
  | j :: r => (∃ x, X.N[j]? = some x ∧ (X.env.scope.names.lookup x = some .cell ∨ X.env.scope.names.lookup x = some .free) ∧ (relabel scope X.env).names.lookup x ≠ some .local) ∧ CapOk X scope r
theorem CapOk.mem {X : Cx} {scope : Scope} : ∀ {cap : List Nat}, CapOk X scope cap → ∀ j ∈ cap, ∃ x, X.N[j]? = some x ∧ (X.env.scope.names.lookup x = some .cell ∨ X.env.scope.names.lookup x = some .free) ∧ (relabel scope X.env).names.lookup x ≠ some .local
  | [], _, _, h => nomatch h
  | _ :: _, ⟨a, b⟩, j, h => by
    rcases List.mem_cons.mp h with rfl | h
    · exact a
    · exact CapOk.mem b j h
structure LcScope (X : Cx) (own : List Str) (cap : List Nat) (scope : Scope) : Prop where
  kind : scope.kind = .function
  free : ∀ x ∈ scope.names, x.2 = .free → X.env.kindOf x.1 = some .cell ∨ X.env.kindOf x.1 = some .free
  cell : ∀ x ∈ scope.names, x.2 ≠ .cell
  names : ∀ x ∈ scope.names, x.2 = .local → scope.names.lookup x.1 = some .local
  cap : CapOk X scope cap

section
variable {X : Cx} {pins : List (Addr × Obj)} {σ : St} {H H₂ : Hp} {s s₂ : Shared} {own : List Str} {cap : List Nat} {scope : Scope} {C : Addr} {fp : List Addr}
theorem LcScope.has (S : LcScope X own cap scope) (ok : X.Ok) : ∀ x ∈ scope.names, x.2 = .free → ∃ c, X.env.cells.lookup x.1 = some c := fun x hx hk => ok.has _ (S.free x hx hk)
theorem LcScope.look (S : LcScope X own cap scope) (ok : X.Ok) {x : Str} {c : Addr} (h : (clo X.env scope.names []).lookup x = some c) : X.env.cells.lookup x = some c := by
  rcases clo_lookup (S.has ok) h with q | q
  · cases q
  · exact q
/-- a cell that is not tracked stays a cell with its value -/
theorem Un.cellK {fs ex : List Addr} {H H' : Hp} {h h' : Heap} {c : Addr} {v : Option Value} (u : Un fs ex H H' h h') (n : H c = none) (hx : c ∉ ex) (z : h.IsCell c v) : h'.IsCell c v := by
  obtain ⟨o, ho, hd⟩ := z
  obtain ⟨sl, e⟩ := u.any ho n hx
  exact ⟨_, e, hd⟩
/-- the block's context stands -/
theorem compCx_ok (I : Inv X pins σ H₂ s₂) (S : LcScope X own cap scope) (f : ∀ b ∈ fp, FpOk X pins H₂ b) (hC : s₂.heap.objs.size ≤ C) (hfp : ∀ b ∈ fp, b < s₂.heap.objs.size) : (compCx X own cap scope C fp s₂ H₂).Ok where
  mod := I.ok.mod
  kind := S.kind
  glob := I.ok.glob
  blt := I.ok.blt
  above := hC
  inj := fun x y c h1 h2 => I.ok.inj x y c (S.look I.ok h1) (S.look I.ok h2)
  has := fun x h => clo_some (.inl (relabel_kind S.cell h))
  cab := fun x c h => by cases h
  hd := I.ok.hd
  frames := I.ok.frames
  stk := .inl rfl
  exf := fun b hb => ⟨Nat.ne_of_lt (Nat.lt_of_lt_of_le (hfp b hb) hC), fun x c h => (f b hb).2.2.2.2.1 x c (S.look I.ok h)⟩
  bs := I.bs
  bsz := Nat.le_trans I.ok.bsz I.sz
  noex := fun b o e hb => by
    rcases (f b hb).2.2.2.1 with z | z
    · exact I.ok.noex b o e z
    · exact absurd (Nat.lt_of_lt_of_le (Heap.lt_size e) (Nat.le_trans I.ok.bsz z)) (Nat.lt_irrefl _)
  exfs := fun b hb z => by
    rcases List.mem_cons.mp (I.stkSub b z) with e | e
    · exact (f b hb).2.1 e
    · exact (f b hb).2.2.1 e
  funs := I.stack
  frf := fun b hb => I.stkFree b hb
/-- the block's names at the beginning of a turn: what is taken along still stands in its cells -/
theorem comp_loc (I : Inv X pins σ H₂ s₂) (S : LcScope X own cap scope) (f : ∀ b ∈ fp, FpOk X pins H₂ b) {fs : List Addr} {h' : Heap} {H' : Hp} (u : Un fs fp H₂ H' s₂.heap h') (m : Str → Option Value) :
    ∀ (i : Nat) (x : Str) (v : V), (capN own cap X.N)[i]? = some x → (capσ own.length cap σ)[i]? = some (some v) → Vis (relabel scope X.env) x → ∃ q, RelV v q ∧ Look (compEnvC scope (clo X.env scope.names []) C X.env) h' m x q := by
  intro i x v h1 h2 h3
  unfold capσ at h2
  unfold capN at h1
  by_cases hi : i < own.length
  · rw [List.getElem?_append_left (by simpa using hi), List.getElem?_replicate] at h2
    split at h2 <;> cases h2
  · rw [List.getElem?_append_right (by simpa using hi)] at h2 h1
    rw [List.length_replicate] at h2
    rw [List.getElem?_map] at h1 h2
    cases e : cap[i - own.length]? with
    | none => rw [e] at h1; cases h1
    | some j =>
      rw [e] at h1 h2
      obtain ⟨y, hy, hk, hnl⟩ := S.cap.mem j (List.mem_of_getElem? e)
      have h1 : (X.N[j]?).getD Str.empty = x := Option.some.inj h1
      rw [hy] at h1
      have h1 : y = x := h1
      subst h1
      have h2 : (σ[j]?).getD none = some v := Option.some.inj h2
      have h2' : σ[j]? = some (some v) := by
        cases q : σ[j]? with
        | none => rw [q] at h2; cases h2
        | some z => rw [q] at h2; exact congrArg some h2
      obtain ⟨m0, hn, hl⟩ := I.loc
      obtain ⟨q, r, l⟩ := hl j y v hy h2' (.inr hk)
      refine ⟨q, r, ?_⟩
      rcases l with ⟨kl, _⟩ | ⟨_, c, hc, z⟩
      · have kl : X.env.scope.names.lookup y = some .local := kl
        rcases hk with k | k <;> (rw [kl] at k; cases k)
      · have hk' : (relabel scope X.env).names.lookup y = some .cell ∨ (relabel scope X.env).names.lookup y = some .free := h3.resolve_left hnl
        obtain ⟨c', hc'⟩ := clo_some (env := X.env) (cs := []) (.inl (relabel_kind S.cell hk'))
        have e2 := S.look I.ok hc'
        rw [hc] at e2
        cases e2
        exact .inr ⟨hk', c, hc', u.cellK (I.freeC y c hc) (fun zz => (f c zz).2.2.2.2.1 y c hc rfl) z⟩
/-- a turn over: back to the names at its beginning -/
theorem comp_back {pins' : List (Addr × Obj)} {σ' : St} {H' : Hp} {s' : Shared} (I : Inv X pins σ H₂ s₂) (S : LcScope X own cap scope) (f : ∀ b ∈ fp, FpOk X pins H₂ b) (J : Inv (compCx X own cap scope C fp s₂ H₂) pins' σ' H' s') :
    Inv (compCx X own cap scope C fp s₂ H₂) pins' (capσ own.length cap σ) H' s' := by
  obtain ⟨m, hn, _⟩ := id J.loc
  refine ⟨J.ok, J.os, J.bare, J.base, ⟨m, hn, comp_loc I S f J.base m⟩, J.cell, J.free, J.freeC, J.pin, J.hok, ?_⟩
  unfold capσ
  show _ = (capN own cap X.N).length
  unfold capN
  simp
/-- the block is through: the list, till now pinned, is tracked; back in the def -/
theorem comp_end {pins' : List (Addr × Obj)} {σ' : St} {H' : Hp} {s' : Shared} {h' : Heap} {D : Addr} {us : List Value} {ys : List V} (I : Inv X pins σ H₂ s₂) (f : ∀ b ∈ fp, FpOk X pins H₂ b) (J : Inv (compCx X own cap scope C fp s₂ H₂) pins' σ' H' s')
    (hs : Heap.SameBut C s'.heap h') (hC : s₂.heap.objs.size ≤ C) (hD : s₂.heap.objs.size ≤ D) (hDC : D ≠ C) (ho : s'.heap.get? D = some (lstO us)) (hn : H' D = none) (hl : ys.length ≤ sizeLine) (r : Vals ys us) :
    Inv X pins σ (upd H' D (.lst ys)) { s' with heap := h' } := by
  have same : ∀ b o, b ≠ C → s'.heap.get? b = some o → h'.get? b = some o := fun b o hb e => (hs.2 b hb).trans e
  have old : ∀ b o, s₂.heap.get? b = some o → b ≠ C ∧ b ≠ D := fun b o e => ⟨Nat.ne_of_lt (Nat.lt_of_lt_of_le (Heap.lt_size e) hC), Nat.ne_of_lt (Nat.lt_of_lt_of_le (Heap.lt_size e) hD)⟩
  have u : Un (frs X.stack) fp H₂ H' s₂.heap s'.heap := J.base
  have HC : H' C = none := J.free
  have hok : HOk X.prog X.w (upd H' D (.lst ys)) h' := by
    intro b ob e
    by_cases hb : b = D
    · subst hb
      rw [upd_same] at e
      cases e
      exact ⟨hl, us, us.length, r, same b _ hDC ho⟩
    · rw [upd_ne hb] at e
      have neC : ∀ c w', H' c = some w' → c ≠ C := fun c w' z q => by rw [q, HC] at z; cases z
      refine (J.hok b ob e).stay (fun c v hc q => same c v ?_ q) (fun c q => ?_) fun c xs q => ?_
      · rcases hc with z | z
        · rw [z]; exact neC b ob e
        · exact neC c _ z
      · rw [upd_ne (ne_of_none q hn)]; exact q
      · rw [upd_ne (ne_of_none q hn)]; exact q
  refine I.call' (s' := { s' with heap := h' }) (ch := fp) J.os ⟨fun b o e n hb hx => ?_, fun b o e n hb hx => ?_, fun b o e n hx => ?_, fun b o e hx => ?_, fun b xs e => ?_, fun b o xs e => ?_, fun b ps e => ?_⟩ hok J.bare fun b hb => ?_
  · exact same b o (old b o e).1 (u.keep b o e n hb hx)
  · obtain ⟨sl, q⟩ := u.slot b o e n hb hx
    exact ⟨sl, same b _ (old b o e).1 q⟩
  · rw [upd_ne (old b o e).2]; exact u.free b o e n hx
  · obtain ⟨o', q⟩ := u.there b o e hx
    exact ⟨o', same b _ (old b o e).1 q⟩
  · have q := u.tups b xs e
    rw [upd_ne (ne_of_none q hn)]; exact q
  · have q := u.frzs b o xs e
    rw [upd_ne (ne_of_none q hn)]; exact q
  · obtain ⟨more, q⟩ := u.tbls b ps e
    exact ⟨more, by rw [upd_ne (ne_of_none q hn)]; exact q⟩
  · obtain ⟨f0, f1, f2, f3, f4, f5⟩ := f b hb
    exact ⟨f3, f1, f4, f5⟩
end
end L2

namespace L2
open PySem PySem.Spec PyProof.Rows

noncomputable def PIfs (X : Cx) (ifs : List Expr) (t : TT) : Prop :=
  ∀ (pins : List (Addr × Obj)) (s : Shared) (σ : St) (H : Hp) (Q : Bool → Hp → Prop), Inv X pins σ H s → t σ H Q →
    wpAny (model X.prog X.w) X.A (forIn ifs true fun c r => if r = true then do let ok ← isTrue c X.env (eval c X.env); pure (ForInStep.yield ok) else pure (ForInStep.yield r)) (TP X pins σ Q) X.xe s
noncomputable def tIf0 : TT := fun _ H Q => Q true H
theorem pif_nil {X : Cx} : PIfs X [] tIf0 := by
  intro pins s σ H Q I h
  exact wpAny_pure ⟨H, I, h⟩
theorem pif_one {X : Cx} {c : Expr} {t : TT} (h : PT X c t) : PIfs X [c] t := by
  intro pins s σ H Q I hq
  rw [List.forIn_cons]
  rw [if_pos rfl]
  refine wpAny_bind (wpAny_bind (thn (h pins s σ H Q I hq) fun b s1 ⟨H1, I1, q1⟩ => ?_))
  refine wpAny_pure ?_
  dsimp only
  rw [List.forIn_nil]
  exact wpAny_pure ⟨H1, I1, q1⟩

/-- what a list comprehension over J is to show: W i m ys H, ahead of turn i, ys told so far -/
noncomputable def LcEnd (J : It) (g : TG) (tc : TT) (te : TE) (k : Nat) (cap : List Nat) (σ : St) (H : Hp) (Q : VK) : Prop :=
  ∃ W : Nat → Nat → List V → Hp → Prop, (∃ m, W 0 m [] H) ∧ ∀ i m ys H, W i m ys H →
    (J.stop i H ∧ ys.length ≤ sizeLine ∧ ∀ p, H p = none → Q (.ref p) (upd H p (.lst ys))) ∨
    (J.go i H ∧ ys.length ≤ sizeLine ∧ ∃ N : List V → Hp → Prop, (∀ ys' H', N ys' H' → ∃ m', m' < m ∧ W (i + 1) m' ys' H') ∧ ∀ x H', J.yld i H x H' → g x (capσ k cap σ) H' fun σ2 H2 => tc σ2 H2 fun b H3 => if b = true then te σ2 H3 fun y H4 => N (ys ++ [y]) H4 else N ys H3)
/-- the reading of a list comprehension -/
noncomputable def tLc (wi : TI) (g : TG) (tc : TT) (te : TE) (k : Nat) (cap : List Nat) : TE := fun σ H Q => wi σ H fun J H1 => LcEnd J g tc te k cap σ H1 Q

section
variable {X : Cx} {own : List Str} {cap : List Nat} {scope : Scope} {tg iter elt : Expr} {ifs : List Expr} {wi : TI} {g : TG} {tc : TT} {te : TE} {pos : Pos}
/-- the block, from the iterator on -/
theorem lc_block {pins : List (Addr × Obj)} {σ : St} {H2 : Hp} {s2 : Shared} {it : Addr} {fp : List Addr} {tn : Nat → Heap → Prop} {J : It} {W : Nat → Nat → List V → Hp → Prop} {m0 : Nat} {QQ : List V → Hp → Prop} {RR : Value → Addr → Result → Shared → Prop}
    (hc : X.calm = true) (S : LcScope X own cap scope)
    (hg : ∀ C fp s₂ H₂, PG (compCx X own cap scope C fp s₂ H₂) tg g) (ht : ∀ C fp s₂ H₂, PIfs (compCx X own cap scope C fp s₂ H₂) ifs tc) (he : ∀ C fp s₂ H₂, PE (compCx X own cap scope C fp s₂ H₂) elt te)
    (I2 : Inv X pins σ H2 s2) (T : Turn X.prog X.w X.K tg J fp it tn) (st2 : tn 0 s2.heap) (f2 : ∀ b ∈ fp, FpOk X pins H2 b) (w0 : W 0 m0 [] H2)
    (turn : ∀ i m ys H, W i m ys H →
      (J.stop i H ∧ ys.length ≤ sizeLine ∧ QQ ys H) ∨
      (J.go i H ∧ ys.length ≤ sizeLine ∧ ∃ N : List V → Hp → Prop, (∀ ys' H', N ys' H' → ∃ m', m' < m ∧ W (i + 1) m' ys' H') ∧ ∀ x H', J.yld i H x H' → g x (capσ own.length cap σ) H' fun σ2 H2 => tc σ2 H2 fun b H3 => if b = true then te σ2 H3 fun y H4 => N (ys ++ [y]) H4 else N ys H3))
    (hRR : ∀ (D C : Addr) (pins' : List (Addr × Obj)) (σ' : St) (H' : Hp) (s' : Shared) (us : List Value) (ys : List V), Inv (compCx X own cap scope C fp s2 H2) pins' σ' H' s' → s2.heap.objs.size ≤ C → s2.heap.objs.size ≤ D → D ≠ C → s'.heap.get? D = some (lstO us) → H' D = none →
      ys.length ≤ sizeLine → Vals ys us → QQ ys H' → RR (.ref D) C (.ok .next) s') :
    wpAny (model X.prog X.w) X.A (newList []) (fun acc s₃ => wpAny (model X.prog X.w) X.A (newFunctionEnv scope X.env.globals (clo X.env scope.names []) [] X.env.qual none .none (some X.env)) (fun cenv s₄ =>
      codeAny (model X.prog X.w) X.A (.compStart (.ListComp elt [⟨tg, iter, ifs, 0⟩] scope pos) 0 (.ref it) acc { cenv with scope := relabel scope X.env }) (RR acc cenv.locals) s₄) X.xe s₃) X.xe s2 := by
  refine wpAny_newObj_type (wpAny_newFunctionEnv S.cell (by intro y hy; simp at hy) (fun h₁ hns₁ hsb₁ => ?_) S.kind)
  dsimp only at hns₁ hsb₁ ⊢
  generalize hH2 : s2.heap.push { cls := .type "list", dict := none, data := .seq ([] : List Value).toArray } = g2 at hns₁ hsb₁ ⊢
  have hCs : g2.objs.size = s2.heap.objs.size + 1 := by rw [← hH2, Heap.size_push]
  have hC : s2.heap.objs.size ≤ g2.objs.size := by rw [hCs]; exact Nat.le_succ _
  have hDC : s2.heap.objs.size ≠ g2.objs.size := by rw [hCs]; exact Nat.ne_of_lt (Nat.lt_succ_self _)
  have below : ∀ b, b < s2.heap.objs.size → b ≠ g2.objs.size ∧ b ≠ s2.heap.objs.size := fun b hb => ⟨by rw [hCs]; exact Nat.ne_of_lt (Nat.lt_succ_of_lt hb), Nat.ne_of_lt hb⟩
  have old : ∀ b o, s2.heap.get? b = some o → h₁.get? b = some o := fun b o e => hsb₁.extBut b o (below b (Heap.lt_size e)).1 (Heap.get?_push_of_some _ (hH2 ▸ Heap.get?_push_of_some _ e))
  have hacc : h₁.get? s2.heap.objs.size = some (lstO []) := hsb₁.extBut _ _ hDC (Heap.get?_push_of_some _ (hH2 ▸ Heap.get?_push_size _ rfl))
  have hfp : ∀ b ∈ fp, b < s2.heap.objs.size := fun b hb => by
    obtain ⟨o, e, _⟩ := T.obj _ _ st2 b hb
    exact Heap.lt_size e
  have freeAt : ∀ a, s2.heap.objs.size ≤ a → H2 a = none := fun a ha => I2.hok.fresh ha
  have ok := compCx_ok (own := own) (C := g2.objs.size) I2 S f2 hC hfp
  have st1 : tn 0 h₁ := T.keep _ _ _ st2 fun b hb o e => old b o e
  -- pins: the list that is made
  let X' := compCx X own cap scope g2.objs.size fp s2 H2
  have u1 : Un (frs X.stack) fp H2 H2 s2.heap h₁ := Un.kept old
  have start : Inv X' [(s2.heap.objs.size, lstO [])] (capσ own.length cap σ) H2 { s2 with heap := h₁, toks := s2.toks + ([] : List (Str × Value)).length } := by
    refine ⟨ok, rfl, I2.bare, u1, ⟨_, hns₁, comp_loc I2 S f2 u1 _⟩, fun x c e => ?_, freeAt _ hC, fun x c e => I2.freeC x c (S.look I2.ok e), fun p hp => ?_, I2.hok.kept old, ?_⟩
    · obtain ⟨v, z⟩ := I2.cell x c (S.look I2.ok e)
      obtain ⟨o, ho, hd⟩ := z
      exact ⟨v, o, old c o ho, hd⟩
    · have e : p = (s2.heap.objs.size, lstO []) := by simpa [X', compCx] using hp
      subst e
      refine ⟨hacc, freeAt _ (Nat.le_refl _), hDC, fun z => ?_, fun v z => by cases z⟩
      obtain ⟨_, o, ho, _⟩ := I2.stack.mem z
      exact absurd (Heap.lt_size ho) (Nat.lt_irrefl _)
    · unfold capσ
      show _ = (capN own cap X.N).length
      unfold capN
      simp
  have stat : ∀ {D : Addr} {o : Obj} {H' : Hp}, s2.heap.objs.size ≤ D → (∀ b ∈ fp, H' b = none) → ∀ b ∈ fp, FpOk X' [(D, o)] H' b := fun {D o H'} hD hn b hb =>
    ⟨hn b hb, (ok.exf b hb).1, ok.exfs b hb, .inl hb, fun x c e => (ok.exf b hb).2 x c e, fun p hp => by
      have e : p = (D, o) := by simpa [X', compCx] using hp
      subst e
      exact Ne.symm (Nat.ne_of_lt (Nat.lt_of_lt_of_le (hfp b hb) hD))⟩
  have loop : ∀ s₃ : Shared, s₃ = { s2 with heap := h₁, toks := s2.toks + ([] : List (Str × Value)).length } →
      codeAny (model X.prog X.w) X.A (.compLoop (.ListComp elt [⟨tg, iter, ifs, 0⟩] scope pos) 0 (.ref it) (.ref s2.heap.objs.size) (compEnvC scope (clo X.env scope.names []) g2.objs.size X.env))
        (RR (.ref s2.heap.objs.size) g2.objs.size) s₃ := by
    rintro s₃ rfl
    refine compLoop_any (fun n s' => ∃ i H' us ys, Inv X' [(s2.heap.objs.size, lstO us)] (capσ own.length cap σ) H' s' ∧ tn i s'.heap ∧ (∀ b ∈ fp, H' b = none) ∧ Vals ys us ∧ W i n ys H') ?_ m0
      ⟨0, H2, [], [], start, st1, fun b hb => (f2 b hb).1, .nil, w0⟩
    rintro n s3 ⟨i, H3, us, ys, I3, st3, fr3, rv, w3⟩
    have hacc3 := I3.pin (s2.heap.objs.size, lstO us) (List.mem_append_right _ List.mem_cons_self)
    rcases turn i n ys H3 w3 with ⟨stop, hl, qn⟩ | ⟨go, hl, N, hN, step⟩
    · refine thn (T.done X' rfl rfl rfl hc i _ s3 _ H3 _ I3 (stat (Nat.le_refl _) fr3) st3 stop) fun r s4 ⟨hr, I4⟩ => ?_
      subst hr
      have hacc4 := I4.pin (s2.heap.objs.size, lstO us) (List.mem_append_right _ List.mem_cons_self)
      exact hRR _ _ _ _ H3 s4 us ys I4 hC (Nat.le_refl _) hDC hacc4.1 hacc4.2.1 hl rv qn
    · refine thn (T.item X' rfl rfl rfl hc i _ s3 _ H3 _ I3 (stat (Nat.le_refl _) fr3) st3 go) fun r s4 ⟨u, hr, h4⟩ => ?_
      subst hr
      refine thn h4 fun _ s5 ⟨x, H5, I5, r5, y5, st5, fr5⟩ => ?_
      have I5' := I5.pinned (stat (Nat.le_refl _) fr5) (T.obj _ _ st5)
      refine thn (hg _ _ _ _ _ s5 _ H5 x u _ I5' r5 (step x H5 y5)) fun _ s6 ⟨σ6, H6, I6, q6⟩ => ?_
      refine thn (ht _ _ _ _ _ s6 σ6 H6 _ I6 q6) fun b s7 ⟨H7, I7, q7⟩ => ?_
      have tnK : ∀ {σ8 : St} {H8 : Hp} {s8 : Shared}, Inv X' ([(s2.heap.objs.size, lstO us)] ++ pinsAt fp s5.heap) σ8 H8 s8 → tn (i + 1) s8.heap ∧ ∀ b ∈ fp, H8 b = none := fun {σ8 H8 s8} I8 => by
        refine ⟨T.keep _ _ _ st5 fun b hb o e => (I8.pin (b, o) (List.mem_append_right _ (List.mem_append_right _ (mem_pinsAt hb e)))).1, fun b hb => ?_⟩
        obtain ⟨o, e, d⟩ := T.obj _ _ st5 b hb
        exact (I8.pin (b, o) (List.mem_append_right _ (List.mem_append_right _ (mem_pinsAt hb e)))).2.1
      cases b with
      | false =>
        rw [if_neg Bool.false_ne_true] at q7
        obtain ⟨m', hm, w7⟩ := hN _ _ q7
        rw [if_neg Bool.false_ne_true]
        obtain ⟨t7, n7⟩ := tnK I7
        exact ⟨m', hm, i + 1, H7, us, ys, comp_back I2 S f2 I7.unpinned, t7, n7, rv, w7⟩
      | true =>
        rw [if_pos rfl] at q7
        rw [if_pos rfl]
        refine thn (he _ _ _ _ _ s7 σ6 H7 _ I7 q7) fun y s8 ⟨z, H8, I8, r8, n8'⟩ => ?_
        obtain ⟨m', hm, w8⟩ := hN _ _ n8'
        obtain ⟨t8, n8⟩ := tnK I8
        have p8 := I8.pin (s2.heap.objs.size, lstO us) (List.mem_append_right _ (List.mem_append_left _ List.mem_cons_self))
        have hlu : us.length ≤ sizeLine := by rw [← rv.length]; exact hl
        refine append_at (hsz := by show us.toArray.size ≤ sizeLine; rw [List.size_toArray]; exact hlu) p8.1 fun h9 hs9 hD9 => ?_
        have hD9' : h9.get? s2.heap.objs.size = some (lstO (us ++ [y])) := hD9.trans (congrArg some (lstO_snoc us y))
        refine ⟨m', hm, i + 1, H8, us ++ [y], ys ++ [z], ?_, T.keep _ _ _ t8 fun b hb o e => (hs9.2 b (fun q => ?_)).trans e, n8, Vals.append rv (.cons r8 .nil), w8⟩
        · have J0 : Inv X' [] (capσ own.length cap σ) H8 s8 := (comp_back I2 S f2 I8).pins_of fun p hp => by cases hp
          have J1 : Inv X' [] (capσ own.length cap σ) H8 { s8 with heap := h9, toks := s8.toks } := J0.turned (it := s2.heap.objs.size) (fun b o hb e => (hs9.2 b hb).trans e) p8.2.1 p8.2.2.1 (.inr (Nat.le_refl _)) (fun x c e q => by
              obtain ⟨v, hv⟩ := I2.cell x c (S.look I2.ok e)
              exact absurd (Nat.lt_of_lt_of_le hv.lt (by rw [q]; exact Nat.le_refl _)) (Nat.lt_irrefl _)) (fun p hp => by
              have : p ∈ ([] : List (Addr × Obj)) := by simpa [X', compCx] using hp
              cases this)
          exact J1.pins_of fun p hp => by
            have e : p = (s2.heap.objs.size, lstO (us ++ [y])) := by simpa using hp
            subst e
            exact ⟨hD9', p8.2.1, p8.2.2.1, p8.2.2.2.1, fun v z => by cases z⟩
        · exact absurd (hfp b hb) (by rw [q]; exact Nat.lt_irrefl _)
  exact codeAny_compStart_list (loop _ rfl) (T.self _ 0 _ _ _ st1 (loop _ rfl))

/-- a list comprehension of one clause -/
theorem pe_lc (hc : X.calm = true) (S : LcScope X own cap scope) (hi : PI X tg iter wi)
    (hg : ∀ C fp s₂ H₂, PG (compCx X own cap scope C fp s₂ H₂) tg g) (ht : ∀ C fp s₂ H₂, PIfs (compCx X own cap scope C fp s₂ H₂) ifs tc) (he : ∀ C fp s₂ H₂, PE (compCx X own cap scope C fp s₂ H₂) elt te)
    (hs : ∀ x, foldedSetIterable iter X.env x = pure x := by intro _; rfl) : PE X (.ListComp elt [⟨tg, iter, ifs, 0⟩] scope pos) (tLc wi g tc te own.length cap) := by
  intro pins s σ H Q I h
  rw [eval_ListComp]
  refine wpAny_comprehension_free (use := none) (cl := clo X.env scope.names []) rfl hs (closureFor_clo (S.has I.ok)) S.kind S.names (thn (hi pins s σ H _ I h) fun v s1 h1 => thn h1 fun itv s2 h2 => ?_)
  obtain ⟨it, fp, tn, J, H2, e, I2, T, st2, f2, W, ⟨m0, w0⟩, turn⟩ := h2
  subst e
  refine lc_block hc S hg ht he I2 T st2 f2 w0 turn fun D C pins' σ' H' s' us ys J' hC hD hDC hD' hn hl rv q => ?_
  obtain ⟨m, hns, _⟩ := id J'.loc
  exact ⟨m, hns, fun h' hs' => ⟨.ref D, _, comp_end I2 f2 J' hs' hC hD hDC hD' hn hl rv, rfl, q D hn⟩⟩
end
end L2

namespace L2
open PySem PySem.Spec PyProof.Rows
section
variable {X : Cx}
/-- isinstance(x, T) -/
noncomputable def rIsi (K : PySem.W.Frag) : List V → Hp → VK → Prop := fun xs H Q => ∃ x n t b, xs = [x, .ty n] ∧ TyOf K H x t ∧ PySem.W.kitOne K t (.type n) = some b ∧ Q (.bl b) H
theorem call_isi : CallR X (.builtin "isinstance") (rIsi X.K) := by
  intro pins s σ H xs us Q I r h
  obtain ⟨x, n, t, b, rfl, ty, e, q⟩ := h
  obtain ⟨u, u', rfl, rx, ry⟩ := vals2 r
  cases (show u' = Value.type n from ry)
  exact isinst_ok I rx ty e fun tk => ⟨.bl b, H, I.tok tk, rfl, q⟩

/-- a list against the empty list -/
theorem op_neL0 (hu : X.A.units < cLine) : OpR X (compareOp .NotEq) (fun x y H Q => ∃ a b xs, x = .ref a ∧ y = .ref b ∧ SqL X.K H a xs ∧ SqL X.K H b [] ∧ Q (.bl (!xs.isEmpty)) H) := by
  intro pins s σ H x y v u Q I rx ry h
  obtain ⟨a, b, xs, rfl, rfl, ha, hb, q⟩ := h
  cases rx
  cases ry
  obtain ⟨ia, ra, pa, za⟩ := I.list ha
  obtain ⟨ib, rb, pb, zb⟩ := I.list hb
  cases rb
  cases xs with
  | nil =>
    cases ra
    exact SeqAt.RcNeAt.lists (e := fun _ => true) pa.isList pb.isList rfl hu (fun i hi => absurd hi (Nat.not_lt_zero i)) X.prog X.w _ _ ⟨.bl false, H, I, rfl, q⟩
  | cons z r =>
    cases ra with
    | cons r1 r2 =>
      exact SeqAt.RcNeAt.lists_lengths pa.isList pb.isList (by simp) hu X.prog X.w _ _ ⟨.bl true, H, I, rfl, q⟩

/-- all(list of truths) -/
theorem call_all (hc : X.calm = true) : CallR X (.builtin "all") (fun xs H Q => ∃ (a : Addr) (bs : List Bool), xs = [.ref a] ∧ SqL X.K H a (bs.map V.bl) ∧ Q (.bl (bs.all id)) H) := by
  intro pins s σ H xs us Q I r h
  obtain ⟨a, bs, rfl, hq, q⟩ := h
  obtain ⟨u, rfl, rx⟩ := vals1 r
  cases rx
  obtain ⟨its, rv, p, hz⟩ := I.list hq
  have hlt : a < s.heap.objs.size := by obtain ⟨_, e, _⟩ := p.isList; exact Heap.lt_size e
  have hl := rv.length
  rw [List.length_map] at hl
  refine call_all_walk (wpAny_pyIter_list p.isList ?_)
  refine ⟨s.heap.objs.size, _, _, _, _, _, fun i => (bs[i]?).getD false, rfl, Walks.list (A := X.A.in1) (show X.A.in1.handled = none from I.ok.hd hc) s.heap.objs.size a (Nat.ne_of_lt hlt) its.toArray, ⟨⟨_, Heap.get?_push_size _ rfl, rfl, rfl⟩, p.isList.push _⟩, ?_, fun h' tk hk => ?_⟩
  · intro i v s' Q' E' hP hQ'
    have hP : its[i]? = some v := by simpa using hP
    cases e : bs[i]? with
    | none =>
      have := List.getElem?_eq_none_iff.mp e
      have h2 : its[i]? = none := List.getElem?_eq_none_iff.mpr (by omega)
      rw [h2] at hP
      cases hP
    | some b =>
      obtain ⟨u, hu, ru⟩ := rv.get (i := i) (x := V.bl b) (by rw [List.getElem?_map, e]; rfl)
      rw [hu] at hP
      cases hP
      cases (show v = Value.bool b from ru)
      dsimp only at hQ'
      rw [e] at hQ'
      exact wpAny_pure hQ'
  · have e : ((List.range its.toArray.size).all fun i => (bs[i]?).getD false) = bs.all id := by
      rw [List.size_toArray, ← hl]
      clear q hq rv hl
      rw [Bool.eq_iff_iff, List.all_eq_true, List.all_eq_true]
      constructor
      · intro h x hx
        obtain ⟨i, hi, rfl⟩ := List.mem_iff_getElem.mp hx
        have := h i (List.mem_range.mpr hi)
        simpa [hi] using this
      · intro h i hi
        have hi := List.mem_range.mp hi
        have := h (bs[i]) (List.getElem_mem hi)
        simpa [hi] using this
    rw [e]
    refine ⟨.bl (bs.all id), H, I.kept fun b o e => hk b o (fun hb => ?_) (Heap.get?_push_of_some _ e), rfl, q⟩
    have z : b = s.heap.objs.size := by simpa using hb
    exact absurd (Heap.lt_size e) (by rw [z]; exact Nat.lt_irrefl _)

end
end L2

namespace L2
open PySem PySem.Spec PyProof.Rows
section
variable {prog : Program} {w : World} {A : Around} {E : Value → Shared → Prop} {s : Shared}

/-- the next item of a tuple's iterator, as enumerate asks for it -/
theorem nextOf_tup {it t : Addr} {i : Nat} {its : Array Value} {v : Value} {Q : Value → Shared → Prop} (hit : s.heap.IsTupleIter it t i) (ht : s.heap.IsTuple t its) (hv : its[i]? = some v)
    (k : ∀ g, g.IsTupleIter it t (i + 1) → Heap.SameBut it s.heap g → Q v { s with heap := g }) : wpAny (model prog w) A (Builtin.SmallTypes.nextOf (.ref it)) Q E s := by
  obtain ⟨o, e1, e2, e3⟩ := id hit
  obtain ⟨ot, et, _, nt, dt⟩ := ht
  unfold Builtin.SmallTypes.nextOf
  refine wpAny_bind (wpAny_callSpecial?_slot (name := Str.ofString "__next__") hit.typeIs PySem.F.slot_tuple_iterator_next (wpAny_call_entry PySem.F.slot_tuple_iterator_next hit.typeIs PySem.F.entry_tuple_iterator_next ?_ (PySem.F.args_tuple_iterator_next_1 _)))
  show wpAny _ _ (field (.ref it) 0 >>= _) _ _ s
  refine wpAny_bind (wpAny_field e1 e3 (x := .ref t) rfl ?_)
  show wpAny _ _ (if (Value.ref t == Value.none) = true then _ else _) _ _ s
  rw [if_neg (fun z => by cases (show false = true from z))]
  show wpAny _ _ (field (.ref it) 1 >>= _) _ _ s
  refine wpAny_bind (wpAny_field e1 e3 (x := .int i 0) rfl ?_)
  show wpAny _ _ (seqItems? (.ref t) >>= _) _ _ s
  refine wpAny_bind (wpAny_seqItems et dt ?_)
  simp only [Int.toNat_natCast, hv]
  refine wpAny_bind (wpAny_setField e1 e3 (by simp) (wpAny_pure ⟨v, rfl, wpAny_pure (k _ ⟨_, Heap.get?_update_self _ e1 (Obj.isFreed_of_fields (Obj.data_mapFields e3 _)), (Obj.cls_mapFields ..).trans e2, ?_⟩ (Heap.SameBut.update ..))⟩))
  rw [Obj.data_mapFields e3]; simp [rawInt]
theorem nextOf_tupEnd {it t : Addr} {i : Nat} {its : Array Value} {Q : Value → Shared → Prop} (hh : A.handled = none) (hit : s.heap.IsTupleIter it t i) (ht : s.heap.IsTuple t its) (hv : its[i]? = none)
    (k : ∀ g x, Heap.ExtBut it s.heap g → (∃ o, g.get? x = some o ∧ o.cls = .type "StopIteration") → E (.ref x) { s with heap := g }) : wpAny (model prog w) A (Builtin.SmallTypes.nextOf (.ref it)) Q E s := by
  obtain ⟨o, e1, e2, e3⟩ := id hit
  obtain ⟨ot, et, _, nt, dt⟩ := ht
  unfold Builtin.SmallTypes.nextOf
  refine wpAny_bind (wpAny_callSpecial?_slot (name := Str.ofString "__next__") hit.typeIs PySem.F.slot_tuple_iterator_next (wpAny_call_entry PySem.F.slot_tuple_iterator_next hit.typeIs PySem.F.entry_tuple_iterator_next ?_ (PySem.F.args_tuple_iterator_next_1 _)))
  show wpAny _ _ (field (.ref it) 0 >>= _) _ _ s
  refine wpAny_bind (wpAny_field e1 e3 (x := .ref t) rfl ?_)
  show wpAny _ _ (if (Value.ref t == Value.none) = true then _ else _) _ _ s
  rw [if_neg (fun z => by cases (show false = true from z))]
  show wpAny _ _ (field (.ref it) 1 >>= _) _ _ s
  refine wpAny_bind (wpAny_field e1 e3 (x := .int i 0) rfl ?_)
  show wpAny _ _ (seqItems? (.ref t) >>= _) _ _ s
  refine wpAny_bind (wpAny_seqItems et dt ?_)
  simp only [Int.toNat_natCast, hv]
  refine wpAny_bind (wpAny_rule (wpAny_bind (wpAny_setField e1 e3 (by simp) ?_)))
  show wpAny _ _ (newExc (.type "StopIteration") [] >>= _) _ _ _
  refine wpAny_bind ?_
  simp only [newExc, newTuple]
  refine wpAny_bind (wpAny_newObj_type ?_ (by size_fits))
  refine wpAny_bind (m := firstArgMember _ _) (wpAny_of_eq (a := Value.none) (by first | rfl | (simp only [firstArgMember]; rfl)) ?_)
  refine wpAny_newObj_type ?_ (by size_fits)
  simp only [raiseNew]
  refine wpAny_bind (wpAny_handled ?_)
  first | rw [show A.in1.handled = none from hh] | rw [hh]
  exact wpAny_bind (wpAny_pure (wpAny_throw (k _ _ (((Heap.SameBut.update ..).extBut.push _).push _) ⟨_, Heap.get?_push_size _ rfl, rfl⟩)))

/-- enumerate's turn over a tuple -/
theorem enumT_item {e it t : Addr} {i : Nat} {its : Array Value} {v old : Value} {Q : Option Value → Shared → Prop} (he : IsEnum s.heap e it i old) (hit : s.heap.IsTupleIter it t i) (ht : s.heap.IsTuple t its) (hv : its[i]? = some v) (hne : e ≠ it)
    (k : ∀ g, IsEnumOut g e it ((i : Int) + 1) v s.heap.objs.size → g.IsTupleIter it t (i + 1) → g.get? s.heap.objs.size = some { cls := .type "tuple", data := .seq #[.int i s.toks, v] } → g.objs.size = s.heap.objs.size + 1 →
      (∀ b o, b ≠ e → b ≠ it → s.heap.get? b = some o → g.get? b = some o) → Q (some (.ref s.heap.objs.size)) { s with heap := g, toks := s.toks + 1 }) : wpAny (model prog w) A (pyNext (.ref e)) Q E s := by
  have hT : s.TypeIs (.ref e) "enumerate" := ⟨_, he, rfl⟩
  unfold pyNext
  refine wpAny_bind (wpAny_attempt (wpAny_callSpecial?_slot (name := Str.ofString "__next__") hT PySem.F.slot_enumerate_next (wpAny_call_entry PySem.F.slot_enumerate_next hT PySem.F.entry_enumerate_next ?_ (PySem.F.args_enumerate_next_1 _))))
  obtain ⟨hp, gs, d, tk, os⟩ := s
  show wpAny _ _ (field (.ref e) 2 >>= _) _ _ _
  refine wpAny_bind (wpAny_field he rfl (x := .ref it) rfl ?_)
  refine wpAny_bind (nextOf_tup hit ht hv fun g1 hit1 hs1 => ?_)
  replace hs1 : Heap.SameBut it hp g1 := hs1
  have he1 : IsEnum g1 e it i old := (hs1.2 e hne).trans he
  show wpAny _ _ (field (.ref e) 3 >>= _) _ _ ⟨g1, gs, d, tk, os⟩
  refine wpAny_bind (wpAny_field he1 rfl (x := rawInt i) rfl ?_)
  show wpAny _ _ (field (.ref e) 4 >>= _) _ _ ⟨g1, gs, d, tk, os⟩
  refine wpAny_bind (wpAny_field he1 rfl (x := .none) rfl ?_)
  show wpAny _ _ (mkInt i >>= _) _ _ ⟨g1, gs, d, tk, os⟩
  refine wpAny_bind (wpAny_mkInt ?_)
  show wpAny _ _ (setField (.ref e) 3 (rawInt ((i : Int) + 1)) >>= _) _ _ ⟨g1, gs, d, tk + 1, os⟩
  refine wpAny_bind (wpAny_setField_rec he1 (by simp) fun g2 he2 hs2 => ?_)
  replace hs2 : Heap.SameBut e g1 g2 := hs2
  replace he2 : IsEnum g2 e it ((i : Int) + 1) old := he2
  show wpAny _ _ (setField (.ref e) 4 .none >>= _) _ _ ⟨g2, gs, d, tk + 1, os⟩
  refine wpAny_bind (wpAny_setField_rec he2 (by simp) fun g3 he3 hs3 => ?_)
  replace hs3 : Heap.SameBut e g2 g3 := hs3
  replace he3 : IsEnum g3 e it ((i : Int) + 1) old := he3
  show wpAny _ _ (newTuple [.int i tk, v] >>= _) _ _ ⟨g3, gs, d, tk + 1, os⟩
  refine wpAny_bind (wpAny_newTuple ?_)
  have he4 : IsEnum (g3.push { cls := .type "tuple", data := .seq #[.int i tk, v] }) e it ((i : Int) + 1) old := Heap.get?_push_of_some _ he3
  generalize hh4 : g3.push { cls := .type "tuple", data := .seq #[.int i tk, v] } = g4 at he4
  have hsz : g3.objs.size = hp.objs.size := by rw [hs3.1, hs2.1, hs1.1]
  have hel : e < hp.objs.size := Heap.lt_size he
  have ht4 : g4.get? hp.objs.size = some { cls := .type "tuple", data := .seq #[.int i tk, v] } := by rw [← hh4, ← hsz]; exact Heap.get?_push_size _ rfl
  have hz4 : g4.objs.size = hp.objs.size + 1 := by rw [← hh4, Heap.size_push, hsz]
  have hk4 : ∀ b o, b ≠ e → b ≠ it → hp.get? b = some o → g4.get? b = some o := fun b o n1 n2 hb => by
    rw [← hh4]; exact Heap.get?_push_of_some _ (hs3.extBut b o n1 (hs2.extBut b o n1 (hs1.extBut b o n2 hb)))
  have hit4 : g4.IsTupleIter it t (i + 1) := by
    rw [← hh4]
    obtain ⟨o, ho, r⟩ := (hit1.extBut hs2.extBut (Ne.symm hne)).extBut hs3.extBut (Ne.symm hne)
    exact ⟨o, Heap.get?_push_of_some _ ho, r⟩
  show wpAny _ _ (Builtin.SmallTypes.ownedTupleIsFree (.ref e) >>= _) _ _ ⟨g4, gs, d, tk + 1, os⟩
  rw [hsz]
  clear hh4 he3 hs3 he2 hs2 he1 hs1 hit1 hsz g3 g2 g1
  refine wpAny_bind ?_
  unfold Builtin.SmallTypes.ownedTupleIsFree
  refine wpAny_bind (wpAny_field he4 rfl (x := .none) rfl (wpAny_pure ?_))
  simp only [if_true]
  refine wpAny_bind (wpAny_rule (wpAny_bind (wpAny_field he4 rfl (x := old) rfl (wpAny_bind (wpAny_setField_rec he4 (by simp) fun g5 he5 hs5 => ?_)))))
  replace hs5 : Heap.SameBut e g4 g5 := hs5
  replace he5 : IsEnum g5 e it ((i : Int) + 1) v := he5
  show wpAny _ _ (Builtin.SmallTypes.ownedTupleHandOut (.ref e) (.ref hp.objs.size) >>= _) _ _ ⟨g5, gs, d, tk + 1, os⟩
  refine wpAny_bind ?_
  unfold Builtin.SmallTypes.ownedTupleHandOut
  refine wpAny_bind (wpAny_setField_rec he5 (by simp) fun g6 he6 hs6 => ?_)
  replace hs6 : Heap.SameBut e g5 g6 := hs6
  replace he6 : IsEnumOut g6 e it ((i : Int) + 1) v hp.objs.size := he6
  refine wpAny_setField_rec he6 (by simp) fun g7 he7 hs7 => ?_
  replace hs7 : Heap.SameBut e g6 g7 := hs7
  replace he7 : IsEnumOut g7 e it ((i : Int) + 1) v hp.objs.size := he7
  refine wpAny_bind (wpAny_letGo (wpAny_pure ⟨_, rfl, wpAny_pure (k g7 he7 ?_ ?_ ?_ ?_)⟩))
  · exact ((hit4.extBut hs5.extBut (Ne.symm hne)).extBut hs6.extBut (Ne.symm hne)).extBut hs7.extBut (Ne.symm hne)
  · exact hs7.extBut _ _ (Nat.ne_of_gt hel) (hs6.extBut _ _ (Nat.ne_of_gt hel) (hs5.extBut _ _ (Nat.ne_of_gt hel) ht4))
  · rw [hs7.1, hs6.1, hs5.1, hz4]
  · exact fun b o n1 n2 hb => hs7.extBut b o n1 (hs6.extBut b o n1 (hs5.extBut b o n1 (hk4 b o n1 n2 hb)))
theorem enumT_end {e it t : Addr} {i : Nat} {its : Array Value} {old : Value} {Q : Option Value → Shared → Prop} (hh : A.handled = none) (he : IsEnum s.heap e it i old) (hit : s.heap.IsTupleIter it t i) (ht : s.heap.IsTuple t its) (hv : its[i]? = none)
    (k : ∀ g, Heap.ExtBut it s.heap g → Q none { s with heap := g }) : wpAny (model prog w) A (pyNext (.ref e)) Q E s := by
  have hT : s.TypeIs (.ref e) "enumerate" := ⟨_, he, rfl⟩
  unfold pyNext
  refine wpAny_bind (wpAny_attempt (wpAny_callSpecial?_slot (name := Str.ofString "__next__") hT PySem.F.slot_enumerate_next (wpAny_call_entry PySem.F.slot_enumerate_next hT PySem.F.entry_enumerate_next ?_ (PySem.F.args_enumerate_next_1 _))))
  show wpAny _ _ (field (.ref e) 2 >>= _) _ _ _
  refine wpAny_bind (wpAny_field he rfl (x := .ref it) rfl ?_)
  refine wpAny_bind (nextOf_tupEnd hh hit ht hv fun g x hx ⟨o, ho, hc⟩ => ?_)
  exact wpAny_bind (wpAny_isInstance (T := "StopIteration") (b := true) ⟨o, ho, hc⟩ isSubtype_stop (wpAny_pure (k _ hx)))

/-- enumerate(tuple) is made -/
theorem newEnumT (t : Addr) (its : Array Value) (n : Nat) (dct : Option Addr) (sl : Array (Option Value)) :
    Meets (Builtin.«enumerate.__new__» ⟨[.type "enumerate", .ref t], []⟩) (fun _ R s => s.heap.get? t = some { cls := .type "tuple", dict := dct, data := .seq its n, slots := sl } ∧
      R (.ok (.ret (.ref (s.heap.push { cls := .type "tuple_iterator", data := .fields #[.ref t, .int 0 0] }).objs.size)))
        { s with heap := (s.heap.push { cls := .type "tuple_iterator", data := .fields #[.ref t, .int 0 0] }).push { cls := .type "enumerate", data := .fields #[.none, .bool false, .ref s.heap.objs.size, rawInt 0, .none, .none] } }) :=
  .of_wp fun prog w A R s h => by
    obtain ⟨hp, g, d, tk, os⟩ := s
    obtain ⟨hl, h⟩ := h
    have hsub := sub_enumerate
    have hL : Heap.IsTuple (Shared.heap ⟨hp, g, d, tk, os⟩) t its := ⟨_, hl, rfl, n, rfl⟩
    wp_walk using AutoSeq1.wpAny_loadPart' hl
    refine wpAny_stack_any fun st => wpAny_pure ?_
    split
    · rename_i c _ _ _ _ _
      cases (c == Value.type "enumerate")
      · wp_walk using AutoSeq1.wpAny_loadPart' hl, wpAny_pyIter_tuple hL
        exact ⟨_, rfl, h⟩
      · wp_walk using AutoSeq1.wpAny_loadPart' hl, wpAny_pyIter_tuple hL
        exact ⟨_, rfl, h⟩
    · wp_walk using AutoSeq1.wpAny_loadPart' hl, wpAny_pyIter_tuple hL
      exact ⟨_, rfl, h⟩
theorem call_enumT {t : Addr} {its : Array Value} {Q : Value → Shared → Prop} (ht : s.heap.IsTuple t its)
    (k : ∀ g, IsEnum g (s.heap.objs.size + 1) s.heap.objs.size 0 .none → g.IsTupleIter s.heap.objs.size t 0 → g.objs.size = s.heap.objs.size + 2 → (∀ b o, s.heap.get? b = some o → g.get? b = some o) → Q (.ref (s.heap.objs.size + 1)) { s with heap := g }) :
    wpAny (model prog w) A (call (.type "enumerate") [.ref t]) Q E s := by
  obtain ⟨⟨c, dct, dt, sl⟩, hl, hc, n, hd⟩ := ht
  replace hc : c = .type "tuple" := hc
  replace hd : dt = .seq its n := hd
  subst hc hd
  refine callType_new PySem.F.called_enumerate (by decide) (PySem.F.typeCall_enumerate_1 _) (PySem.F.newCall_enumerate_1 _) (fun obj => PySem.F.args_object_init_2 obj _) PySem.F.entry_enumerate_new (newEnumT t its n dct sl) ⟨hl, ?_⟩
  have hz : (s.heap.push { cls := .type "tuple_iterator", data := .fields #[.ref t, .int 0 0] }).objs.size = s.heap.objs.size + 1 := Heap.size_push ..
  show _ ∧ _
  rw [hz]
  have he : IsEnum ((s.heap.push { cls := .type "tuple_iterator", data := .fields #[.ref t, .int 0 0] }).push { cls := .type "enumerate", data := .fields #[.none, .bool false, .ref s.heap.objs.size, rawInt 0, .none, .none] }) (s.heap.objs.size + 1) s.heap.objs.size 0 .none := by
    have q := Heap.get?_push_size (s.heap.push { cls := .type "tuple_iterator", data := .fields #[.ref t, .int 0 0] }) (o := { cls := .type "enumerate", data := .fields #[.none, .bool false, .ref s.heap.objs.size, rawInt 0, .none, .none] }) rfl
    rw [hz] at q
    exact q
  refine ⟨⟨_, he, rfl⟩, k _ he ⟨_, Heap.get?_push_of_some _ (Heap.get?_push_size _ rfl), rfl, rfl⟩ (by rw [Heap.size_push, hz]) fun b o e => Heap.get?_push_of_some _ (Heap.get?_push_of_some _ e)⟩
end
end L2

namespace L2
open PySem PySem.Spec PyProof.Rows

/-! ### enumerate(tuple), its target a tuple of names -/
noncomputable def Ite (K : PySem.W.Frag) (a : Addr) : It :=
  ⟨fun i H => ∃ xs x, SqT K H a xs ∧ xs[i]? = some x, fun i H x H' => ∃ p y, x = .ref p ∧ H p = none ∧ H' = upd H p (.tup [.int i, y]) ∧ ∀ xs, SqT K H a xs → xs[i]? = some y, fun i H => ∃ xs, SqT K H a xs ∧ xs.length ≤ i⟩
theorem turn_enum {P : Program} {w : World} {K : PySem.W.Frag} {elts : List Expr} {k1} {pos : Pos} (a e it : Addr) (hne : e ≠ it) (hb : sizeLine ≥ 2) :
    Turn P w K (.Tuple elts k1 pos) (Ite K a) [e, it] e (fun i h => (∃ old, IsEnum h e it i old) ∧ h.IsTupleIter it a i) where
  mem := by simp
  obj := fun i h st b hb => by
    obtain ⟨⟨old, he⟩, hi⟩ := st
    rcases List.mem_cons.mp hb with z | z
    · rw [z]
      exact ⟨_, he, fun v q => by
        have q' : Data.fields _ = Data.cell v := q
        cases q'⟩
    · have z : b = it := by simpa using z
      rw [z]
      obtain ⟨o, e1, c, d⟩ := hi
      exact ⟨o, e1, fun v q => by rw [d] at q; cases q⟩
  keep := fun i h h' st k => by
    obtain ⟨⟨old, he⟩, o, e1, r⟩ := st
    exact ⟨⟨old, k e (by simp) _ he⟩, o, k it (by simp) o e1, r⟩
  item := by
    intro X hP hw hK hc i pins s σ H E I hf st hg
    subst hP hw hK
    obtain ⟨xs, x, hq, hx⟩ := hg
    obtain ⟨its, rv, p, hz⟩ := I.tuple hq
    obtain ⟨u, hu, ru⟩ := rv.get hx
    obtain ⟨⟨old, he⟩, hi⟩ := st
    obtain ⟨f0, f1, f2, f3, f4, f5⟩ := hf e (by simp)
    obtain ⟨g0, g1, g2, g3, g4, g5⟩ := hf it (by simp)
    refine enumT_item he hi (show s.heap.IsTuple a its.toArray from p) (v := u) (by simpa using hu) hne fun g ho hi' hT hsz hk => ?_
    refine ⟨.ref s.heap.objs.size, rfl, wpAny_letOwnedTupleGo_enum ho fun g' he' hs' => ?_⟩
    have hTe : s.heap.objs.size ≠ e := Nat.ne_of_gt (Heap.lt_size he)
    have hTi : s.heap.objs.size ≠ it := by
      obtain ⟨o, e1, _⟩ := hi
      exact Nat.ne_of_gt (Heap.lt_size e1)
    have hk' : ∀ b o, b ≠ e → b ≠ it → s.heap.get? b = some o → g'.get? b = some o := fun b o n1 n2 z => (hs'.2 b n1).trans (hk b o n1 n2 z)
    have hT' : g'.get? s.heap.objs.size = some { cls := .type "tuple", data := .seq #[.int i s.toks, u] } := (hs'.2 _ hTe).trans hT
    have hfr : H s.heap.objs.size = none := I.hok.fresh (Nat.le_refl _)
    have old1 : ∀ b o, H b = some o → b ≠ e ∧ b ≠ it := fun b o z => ⟨(fun q => by rw [q, f0] at z; cases z), (fun q => by rw [q, g0] at z; cases z)⟩
    have I1 : Inv X pins σ (upd H s.heap.objs.size (.tup [.int i, x])) { s with heap := g', toks := s.toks + 1 } := by
      refine I.step (g' := s.gens) (d' := s.drawn) (ch := [e, it]) (fun b hb => ?_) (fun b o n1 n2 n3 z _ => hk' b o (fun q => n3 (by simp [q])) (fun q => n3 (by simp [q])) z)
        (fun b o n1 n2 n3 z _ => ⟨o.slots, hk' b o (fun q => n3 (by simp [q])) (fun q => n3 (by simp [q])) z⟩) (fun b o n3 z n => ?_) (fun b o n3 z => ⟨o, hk' b o (fun q => n3 (by simp [q])) (fun q => n3 (by simp [q])) z⟩)
        (fun b ys z => by rw [upd_ne (ne_of_none z hfr)]; exact z) (fun b o ys z => by rw [upd_ne (ne_of_none z hfr)]; exact z) (fun b ps z => ⟨#[], by rw [upd_ne (ne_of_none z hfr), z]; simp⟩) (fun m hm => ?_) (fun b ob z => ?_) I.bare
      · rcases List.mem_cons.mp hb with q | q
        · rw [q]; exact ⟨f3, f1, f4, f5⟩
        · have q : b = it := by simpa using q
          rw [q]; exact ⟨g3, g1, g4, g5⟩
      · rw [upd_ne (Nat.ne_of_lt (Heap.lt_size z))]; exact n
      · obtain ⟨o, es, ep, hoo, r⟩ := hm
        exact ⟨o, es, ep, hk' _ o (Ne.symm f1) (Ne.symm g1) hoo, r⟩
      · by_cases hb : b = s.heap.objs.size
        · subst hb
          rw [upd_same] at z
          cases z
          exact ⟨by show 2 ≤ sizeLine; omega, [.int i s.toks, u], .cons ⟨_, rfl⟩ (.cons ru .nil), ⟨_, hT', rfl, _, rfl⟩, fun q hq => by
            have hq : g'.get? s.heap.objs.size = some q := hq
            rw [hT'] at hq
            cases hq
            rfl⟩
        · rw [upd_ne hb] at z
          refine (I.hok b ob z).stay (fun c v hc q => ?_) (fun c q => by rw [upd_ne (ne_of_none q hfr)]; exact q) fun c ys q => by rw [upd_ne (ne_of_none q hfr)]; exact q
          rcases hc with rfl | hc
          · exact hk' c v (old1 c _ z).1 (old1 c _ z).2 q
          · exact hk' c v (old1 c _ hc).1 (old1 c _ hc).2 q
    refine ⟨.ref s.heap.objs.size, _, I1, rfl, ⟨_, x, rfl, hfr, rfl, fun ys hy => by rw [I.tuple_inj hy hq]; exact hx⟩, ⟨⟨u, by simpa using he'⟩, ?_⟩, fun b hb => ?_⟩
    · obtain ⟨o, e1, r⟩ := hi'
      exact ⟨o, (hs'.2 it (Ne.symm hne)).trans e1, r⟩
    · rcases List.mem_cons.mp hb with q | q
      · rw [q, upd_ne (Ne.symm hTe)]; exact f0
      · have q : b = it := by simpa using q
        rw [q, upd_ne (Ne.symm hTi)]; exact g0
  done := by
    intro X hP hw hK hc i pins s σ H E I hf st hg
    subst hP hw hK
    obtain ⟨xs, hq, hx⟩ := hg
    obtain ⟨its, rv, p, hz⟩ := I.tuple hq
    obtain ⟨⟨old, he⟩, hi⟩ := st
    obtain ⟨g0, g1, g2, g3, g4, g5⟩ := hf it (by simp)
    have hl := rv.length
    exact enumT_end (I.ok.hd hc) he hi (show s.heap.IsTuple a its.toArray from p) (by simp; omega) fun g eb => ⟨rfl, I.turned (t' := s.toks) (fun b o hb z => eb b o hb z) g0 g1 g3 g4 g5⟩
  self := fun _ _ _ _ _ st h => by
    obtain ⟨⟨old, he⟩, _⟩ := st
    exact wpAny_pyIter_enum he h

section
variable {X : Cx}
noncomputable def iEnum (K : PySem.W.Frag) (ta : TA) : TI := fun σ H R => ta σ H fun vs H1 => ∃ a xs, vs = [.ref a] ∧ SqT K H1 a xs ∧ R (Ite K a) H1
theorem pi_enum {elts : List Expr} {k1} {tpos : Pos} {a : Expr} {ta : TA} {p pos : Pos} (hg : Gl X "enumerate") (hm : X.mg "enumerate" = none) (ha : PA X [a] ta) (hs : starEach [a] X.env = [(false, eval a X.env)] := by rfl) :
    PI X (.Tuple elts k1 tpos) (.Call (.Name "enumerate" p) [a] [] pos) (iEnum X.K ta) := by
  intro pins s σ H R I h
  refine Call_ (ld_blt I hg hm boot_enumerate (PyProof.Rows.callWith_type1 (thn (ha pos pins s σ H _ I h) fun us s1 ⟨vs, H1, I1, r1, q1⟩ => ?_) hs rfl))
  obtain ⟨t, xs, e, hq, q⟩ := q1
  subst e
  obtain ⟨u, rfl, ru⟩ := vals1 r1
  cases ru
  obtain ⟨its, rv, pt, hz⟩ := I1.tuple hq
  refine call_enumT (show s1.heap.IsTuple t its.toArray from pt) fun g he hi hsz hk => ?_
  refine wpAny_pyIter_enum he ?_
  have hlt : t < s1.heap.objs.size := by obtain ⟨o, e1, _⟩ := pt; exact Heap.lt_size e1
  refine ⟨s1.heap.objs.size + 1, [s1.heap.objs.size + 1, s1.heap.objs.size], _, _, H1, rfl, I1.kept (t' := s1.toks) hk, turn_enum t (s1.heap.objs.size + 1) s1.heap.objs.size (Nat.succ_ne_self _) (by rw [sizeLine_eq]; omega), ⟨⟨_, he⟩, hi⟩, fun b hb => ?_, q⟩
  rcases List.mem_cons.mp hb with z | z
  · rw [z]; exact I1.fpOk (Nat.le_succ _) (I1.hok.fresh (Nat.le_succ _))
  · have z : b = s1.heap.objs.size := by simpa using z
    rw [z]; exact I1.fpOk (Nat.le_refl _) (I1.hok.fresh (Nat.le_refl _))
end
/-! ### range(a, b, -1) -/
section
variable {X : Cx} {tg : Expr}
end
end L2

namespace L2
open PySem PySem.Spec PyProof.Rows
theorem entry_dul : entryFor table "dict.update.loop" = some Builtin.«dict.update.loop» := entryFor_of_tree (by kernel_rfl)
theorem plain_dul : plainId "dict.update.loop" = true := by decide +kernel
section
variable {prog : Program} {w : World} {A : Around} {E : Value → Shared → Prop} {s : Shared}
set_option maxRecDepth 8000 in
end
end L2

namespace L2
open PySem PySem.Spec PyProof.Rows
section
variable {prog : Program} {w : World} {A : Around} {R : Result → Shared → Prop}
end
section
variable {X : Cx}
end
end L2

namespace L2
open PySem PySem.Spec PyProof.Rows
/-! ### the signs of a text -/
section
variable {X : Cx} {tg : Expr}
end

/-! ### the comprehension over a tuple, a list, a text, a range, in the forms one uses -/
section
variable {K : PySem.W.Frag} {a : Addr} {xs : List V} {g : TG} {tc : TT} {te : TE} {k : Nat} {cap : List Nat} {σ : St} {H : Hp} {Q : VK}
/-- what holds ahead of turn i, ys told -/
theorem lc_tup (Pv : Nat → List V → Hp → Prop) (h0 : Pv 0 [] H) (hl : ∀ i ys H, i ≤ xs.length → Pv i ys H → SqT K H a xs ∧ ys.length ≤ sizeLine)
    (hs : ∀ i x ys H, xs[i]? = some x → Pv i ys H → g x (capσ k cap σ) H fun σ2 H2 => tc σ2 H2 fun b H3 => if b = true then te σ2 H3 fun y H4 => Pv (i + 1) (ys ++ [y]) H4 else Pv (i + 1) ys H3)
    (hd : ∀ ys H, Pv xs.length ys H → ∀ p, H p = none → Q (.ref p) (upd H p (.lst ys))) : LcEnd (Itt K a) g tc te k cap σ H Q := by
  refine ⟨fun i m ys H => m = xs.length - i ∧ i ≤ xs.length ∧ Pv i ys H, ⟨xs.length, by simp, Nat.zero_le _, h0⟩, ?_⟩
  rintro i m ys H ⟨rfl, hi, p⟩
  obtain ⟨q, hz⟩ := hl i ys H hi p
  by_cases hlt : i < xs.length
  · refine .inr ⟨⟨xs, xs[i], q, by simp [hlt]⟩, hz, Pv (i + 1), fun ys' H' p' => ⟨xs.length - (i + 1), by omega, rfl, hlt, p'⟩, fun x H' y => ?_⟩
    obtain ⟨e, y⟩ := y
    subst e
    exact hs i x ys _ (y xs q) p
  · have e : i = xs.length := by omega
    subst e
    exact .inl ⟨⟨xs, q, Nat.le_refl _⟩, hz, hd ys H p⟩
theorem lc_list (Pv : Nat → List V → Hp → Prop) (h0 : Pv 0 [] H) (hl : ∀ i ys H, i ≤ xs.length → Pv i ys H → SqL K H a xs ∧ ys.length ≤ sizeLine)
    (hs : ∀ i x ys H, xs[i]? = some x → Pv i ys H → g x (capσ k cap σ) H fun σ2 H2 => tc σ2 H2 fun b H3 => if b = true then te σ2 H3 fun y H4 => Pv (i + 1) (ys ++ [y]) H4 else Pv (i + 1) ys H3)
    (hd : ∀ ys H, Pv xs.length ys H → ∀ p, H p = none → Q (.ref p) (upd H p (.lst ys))) : LcEnd (Itl K a) g tc te k cap σ H Q := by
  refine ⟨fun i m ys H => m = xs.length - i ∧ i ≤ xs.length ∧ Pv i ys H, ⟨xs.length, by simp, Nat.zero_le _, h0⟩, ?_⟩
  rintro i m ys H ⟨rfl, hi, p⟩
  obtain ⟨q, hz⟩ := hl i ys H hi p
  by_cases hlt : i < xs.length
  · refine .inr ⟨⟨xs, xs[i], q, by simp [hlt]⟩, hz, Pv (i + 1), fun ys' H' p' => ⟨xs.length - (i + 1), by omega, rfl, hlt, p'⟩, fun x H' y => ?_⟩
    obtain ⟨e, y⟩ := y
    subst e
    exact hs i x ys _ (y xs q) p
  · have e : i = xs.length := by omega
    subst e
    exact .inl ⟨⟨xs, q, Nat.le_refl _⟩, hz, hd ys H p⟩
theorem lc_range {lo : Int} {n : Nat} (Pv : Nat → List V → Hp → Prop) (h0 : Pv 0 [] H) (hl : ∀ i ys H, i ≤ n → Pv i ys H → ys.length ≤ sizeLine)
    (hs : ∀ i ys H, i < n → Pv i ys H → g (.int (lo + i)) (capσ k cap σ) H fun σ2 H2 => tc σ2 H2 fun b H3 => if b = true then te σ2 H3 fun y H4 => Pv (i + 1) (ys ++ [y]) H4 else Pv (i + 1) ys H3)
    (hd : ∀ ys H, Pv n ys H → ∀ p, H p = none → Q (.ref p) (upd H p (.lst ys))) : LcEnd (Itr lo n) g tc te k cap σ H Q := by
  refine ⟨fun i m ys H => m = n - i ∧ i ≤ n ∧ Pv i ys H, ⟨n, by simp, Nat.zero_le _, h0⟩, ?_⟩
  rintro i m ys H ⟨rfl, hi, p⟩
  have hz := hl i ys H hi p
  by_cases hlt : i < n
  · refine .inr ⟨hlt, hz, Pv (i + 1), fun ys' H' p' => ⟨n - (i + 1), by omega, rfl, hlt, p'⟩, fun x H' y => ?_⟩
    obtain ⟨e, y⟩ := y
    subst e y
    exact hs i ys _ hlt p
  · have e : i = n := by omega
    subst e
    exact .inl ⟨Nat.le_refl _, hz, hd ys H p⟩
end
end L2

namespace L2
open PySem PySem.Spec PyProof.Rows

/-! ### values as trees -/
inductive T where
  | non | bl (b : Bool) | int (i : Int) | str (x : Str) | tup (ts : List T) | lst (ts : List T) | dct
mutual
noncomputable def Is (H : Hp) : T → V → Prop
  | .non, v => v = .non
  | .bl b, v => v = .bl b
  | .int i, v => v = .int i
  | .str x, v => v = .str x
  | .tup ts, v => ∃ a xs, v = .ref a ∧ H a = some (.tup xs) ∧ IsL H ts xs
  | .lst ts, v => ∃ a xs, v = .ref a ∧ H a = some (.lst xs) ∧ IsL H ts xs
  | .dct, v => ∃ a, v = .ref a ∧ H a = some (.dK [])
noncomputable def IsL (H : Hp) : List T → List V → Prop
  | [], xs => xs = []
  | t :: ts, xs => ∃ v vs, xs = v :: vs ∧ Is H t v ∧ IsL H ts vs
end
/-- tuples stay -/
noncomputable def Tups (H H' : Hp) : Prop := ∀ b xs, H b = some (.tup xs) → H' b = some (.tup xs)
theorem Same.tups {H H' : Hp} (s : Same H H') : Tups H H' := fun b xs e => s b _ e
theorem Tups.refl (H : Hp) : Tups H H := fun _ _ e => e
theorem Tups.trans {H H1 H2 : Hp} (a : Tups H H1) (b : Tups H1 H2) : Tups H H2 := fun c xs e => b c xs (a c xs e)
theorem Same.new {H : Hp} {p : Addr} (h : H p = none) (o : HO) : Same H (upd H p o) := fun b u q => by rw [upd_ne (ne_of_none q h)]; exact q
theorem Tups.upd {H : Hp} {p : Addr} {o o' : HO} (h : H p = some o) (ho : ∀ xs, o ≠ .tup xs) : Tups H (upd H p o') := fun b xs e => by
  rw [upd_ne (ne_of e h (fun z => ho xs z.symm))]; exact e
mutual
theorem Is.mono {H H' : Hp} (s : Same H H') : ∀ {t : T} {v : V}, Is H t v → Is H' t v
  | .non, v, h => h
  | .bl b, v, h => h
  | .int i, v, h => h
  | .str x, v, h => h
  | .tup ts, v, h => by
    obtain ⟨a, xs, e, ha, hl⟩ := h
    exact ⟨a, xs, e, s a _ ha, IsL.mono s hl⟩
  | .lst ts, v, h => by
    obtain ⟨a, xs, e, ha, hl⟩ := h
    exact ⟨a, xs, e, s a _ ha, IsL.mono s hl⟩
  | .dct, v, h => by
    obtain ⟨a, e, ha⟩ := h
    exact ⟨a, e, s a _ ha⟩
theorem IsL.mono {H H' : Hp} (s : Same H H') : ∀ {ts : List T} {xs : List V}, IsL H ts xs → IsL H' ts xs
  | [], xs, h => h
  | t :: ts, xs, h => by
    obtain ⟨v, vs, e, h1, h2⟩ := h
    exact ⟨v, vs, e, Is.mono s h1, IsL.mono s h2⟩
end

mutual
noncomputable def Fro : T → Prop
  | .tup ts => FroL ts
  | .lst _ => False
  | .dct => False
  | _ => True
noncomputable def FroL : List T → Prop
  | [] => True
  | t :: ts => Fro t ∧ FroL ts
end
mutual
theorem Is.tups {H H' : Hp} (s : Tups H H') : ∀ {t : T} {v : V}, Fro t → Is H t v → Is H' t v
  | .non, v, _, h => h
  | .bl b, v, _, h => h
  | .int i, v, _, h => h
  | .str x, v, _, h => h
  | .tup ts, v, f, h => by
    obtain ⟨a, xs, e, ha, hl⟩ := h
    have f : FroL ts := by unfold Fro at f; exact f
    exact ⟨a, xs, e, s a _ ha, IsL.tups s f hl⟩
  | .lst ts, v, f, h => by unfold Fro at f; exact f.elim
  | .dct, v, f, h => by unfold Fro at f; exact f.elim
theorem IsL.tups {H H' : Hp} (s : Tups H H') : ∀ {ts : List T} {xs : List V}, FroL ts → IsL H ts xs → IsL H' ts xs
  | [], xs, _, h => h
  | t :: ts, xs, f, h => by
    obtain ⟨v, vs, e, h1, h2⟩ := h
    have f : Fro t ∧ FroL ts := by unfold FroL at f; exact f
    exact ⟨v, vs, e, Is.tups s f.1 h1, IsL.tups s f.2 h2⟩
end
theorem FroL.all {ts : List T} : FroL ts ↔ ∀ t ∈ ts, Fro t := by
  induction ts with
  | nil => simp [FroL]
  | cons t ts ih => simp [FroL, ih]
theorem IsL.length {H : Hp} : ∀ {ts : List T} {xs : List V}, IsL H ts xs → xs.length = ts.length
  | [], xs, h => by cases h; rfl
  | t :: ts, xs, h => by
    obtain ⟨v, vs, rfl, _, h2⟩ := h
    simp [IsL.length h2]
theorem IsL.get {H : Hp} : ∀ {ts : List T} {xs : List V} {i : Nat} {t : T}, IsL H ts xs → ts[i]? = some t → ∃ v, xs[i]? = some v ∧ Is H t v
  | [], _, _, _, _, e => by simp at e
  | t :: ts, xs, i, t', h, e => by
    obtain ⟨v, vs, rfl, h1, h2⟩ := h
    cases i with
    | zero => simp at e; subst e; exact ⟨v, rfl, h1⟩
    | succ i =>
      obtain ⟨w, e1, e2⟩ := IsL.get (i := i) h2 (by simpa using e)
      exact ⟨w, by simpa using e1, e2⟩
theorem IsL.get' {H : Hp} {ts : List T} {xs : List V} {i : Nat} {v : V} (h : IsL H ts xs) (e : xs[i]? = some v) : ∃ t, ts[i]? = some t ∧ Is H t v := by
  have hl := h.length
  have hi : i < ts.length := by have := (List.getElem?_eq_some_iff.mp e).1; omega
  obtain ⟨w, e1, e2⟩ := h.get (List.getElem?_eq_getElem hi)
  rw [e] at e1
  cases e1
  exact ⟨_, List.getElem?_eq_getElem hi, e2⟩
theorem IsL.append {H : Hp} : ∀ {ts us : List T} {xs ys : List V}, IsL H ts xs → IsL H us ys → IsL H (ts ++ us) (xs ++ ys)
  | [], us, xs, ys, h, k => by cases h; exact k
  | t :: ts, us, xs, ys, h, k => by
    obtain ⟨v, vs, rfl, h1, h2⟩ := h
    exact ⟨v, vs ++ ys, rfl, h1, IsL.append h2 k⟩
theorem IsL.drop {H : Hp} : ∀ {ts : List T} {xs : List V} (n : Nat), IsL H ts xs → IsL H (ts.drop n) (xs.drop n)
  | ts, xs, 0, h => h
  | [], xs, n + 1, h => by cases h; exact rfl
  | t :: ts, xs, n + 1, h => by
    obtain ⟨v, vs, rfl, h1, h2⟩ := h
    exact IsL.drop n h2
theorem IsL.take {H : Hp} : ∀ {ts : List T} {xs : List V} (n : Nat), IsL H ts xs → IsL H (ts.take n) (xs.take n)
  | ts, xs, 0, h => rfl
  | [], xs, n + 1, h => by cases h; exact rfl
  | t :: ts, xs, n + 1, h => by
    obtain ⟨v, vs, rfl, h1, h2⟩ := h
    exact ⟨v, vs.take n, rfl, h1, IsL.take n h2⟩
theorem IsL.one {H : Hp} {t : T} {v : V} (h : Is H t v) : IsL H [t] [v] := ⟨v, [], rfl, h, rfl⟩
theorem IsL.two {H : Hp} {t u : T} {v w : V} (h : Is H t v) (k : Is H u w) : IsL H [t, u] [v, w] := ⟨v, [w], rfl, h, w, [], rfl, k, rfl⟩
/-- the tuple stands -/
theorem Is.tupAt {K : PySem.W.Frag} {H : Hp} {ts : List T} {v : V} (h : Is H (.tup ts) v) : ∃ a xs, v = .ref a ∧ H a = some (.tup xs) ∧ SqT K H a xs ∧ IsL H ts xs := by
  obtain ⟨a, xs, e, ha, hl⟩ := h
  exact ⟨a, xs, e, ha, SqT.of ha, hl⟩
theorem Is.newTup {H : Hp} {p : Addr} {xs : List V} {ts : List T} (hp : H p = none) (h : IsL H ts xs) : Is (upd H p (.tup xs)) (.tup ts) (.ref p) := ⟨p, xs, rfl, upd_same, IsL.mono (Same.new hp _) h⟩

/-! ### isinstance of a tree -/
noncomputable def tyn : T → String
  | .non => "NoneType" | .bl _ => "bool" | .int _ => "int" | .str _ => "str" | .tup _ => "tuple" | .lst _ => "list" | .dct => "dict"
theorem Is.ty {K : PySem.W.Frag} {H : Hp} {t : T} {v : V} (h : Is H t v) : TyOf K H v (.type (tyn t)) := by
  cases t with
  | non => cases (show v = .non from h); exact .non
  | bl b => cases (show v = .bl b from h); exact .bl b
  | int i => cases (show v = .int i from h); exact .int i
  | str x => cases (show v = .str x from h); exact .str x
  | tup ts => obtain ⟨a, xs, rfl, ha, _⟩ := h; exact .tup ha
  | lst ts => obtain ⟨a, xs, rfl, ha, _⟩ := h; exact .lst ha
  | dct => obtain ⟨a, rfl, ha⟩ := h; exact .dK ha
noncomputable def iInt : T → Bool | .int _ => true | .bl _ => true | _ => false
noncomputable def iBl : T → Bool | .bl _ => true | _ => false
noncomputable def iTupT : T → Bool | .tup _ => true | _ => false
theorem kit_int (K : PySem.W.Frag) (t : T) : PySem.W.kitOne K (.type (tyn t)) (.type "int") = some (iInt t) := by cases t <;> kernel_rfl
theorem kit_bool (K : PySem.W.Frag) (t : T) : PySem.W.kitOne K (.type (tyn t)) (.type "bool") = some (iBl t) := by cases t <;> kernel_rfl
theorem kit_tuple (K : PySem.W.Frag) (t : T) : PySem.W.kitOne K (.type (tyn t)) (.type "tuple") = some (iTupT t) := by cases t <;> kernel_rfl
end L2

namespace L2
open PySem PySem.Spec PyProof.Rows

/-! ### a dict that is walked: its object is known meanwhile -/
noncomputable def isDct : HO → Prop
  | .dK _ => True
  | .dT _ => True
  | _ => False
section
variable {X : Cx} {pins : List (Addr × Obj)} {σ : St} {H : Hp} {s : Shared} {d : Addr} {u u' : HO} {o : Obj}
/-- the same object told otherwise -/
theorem Inv.retag (I : Inv X pins σ H s) (e : H d = some u) (n1 : ∀ xs, u ≠ .tup xs) (n2 : ∀ x, u ≠ .own x) (n3 : ∀ ps, u ≠ .tbl ps) (n4 : ∀ o v, X.H₀ d ≠ some (.frz o v))
    (ok : ObjOk X.prog X.w (upd H d u') s.heap d u') : Inv X pins σ (upd H d u') s := by
  have ne0 : ∀ {b}, H b = none → b ≠ d := fun z q => by rw [q, e] at z; cases z
  refine ⟨I.ok, I.os, I.bare, ⟨I.base.keep, I.base.slot, fun b ob q n hx => ?_, I.base.there, fun b xs q => ?_, fun b ob v q => ?_, fun b ps q => ?_⟩, I.loc, I.cell, ?_, fun x c q => ?_, fun p hp => ?_, fun b ob q => ?_, I.len⟩
  · have z := I.base.free b ob q n hx
    rw [upd_ne (ne0 z)]; exact z
  · have z := I.base.tups b xs q
    rw [upd_ne (ne_of z e (fun w => n1 xs w.symm))]; exact z
  · have z := I.base.frzs b ob v q
    have nb : b ≠ d := fun w => by rw [w] at q; exact n4 _ _ q
    rw [upd_ne nb]; exact z
  · obtain ⟨more, z⟩ := I.base.tbls b ps q
    exact ⟨more, by rw [upd_ne (ne_of z e (fun w => n3 _ w.symm))]; exact z⟩
  · rw [upd_ne (ne0 I.free)]; exact I.free
  · rw [upd_ne (ne0 (I.freeC x c q))]; exact I.freeC x c q
  · obtain ⟨h1, h2, h3⟩ := I.pin p hp
    exact ⟨h1, by rw [upd_ne (ne0 h2)]; exact h2, h3⟩
  · by_cases hb : b = d
    · subst hb; rw [upd_same] at q; cases q; exact ok
    · rw [upd_ne hb] at q
      exact (I.hok b ob q).stay (fun _ _ _ z => z) (fun c z => by rw [upd_ne (ne_of z e (fun w => n2 _ w.symm))]; exact z) fun c xs z => by rw [upd_ne (ne_of z e (fun w => n1 _ w.symm))]; exact z
theorem isDct.no (h : isDct u) : (∀ xs, u ≠ .tup xs) ∧ (∀ x, u ≠ .own x) ∧ (∀ ps, u ≠ .tbl ps) ∧ ∀ o v, u ≠ .frz o v := by
  cases u <;> first | exact h.elim | exact ⟨(fun _ z => by cases z), (fun _ z => by cases z), (fun _ z => by cases z), fun _ _ z => by cases z⟩
theorem Inv.nofrz (I : Inv X pins σ H s) (e : H d = some u) (h : isDct u) : ∀ o v, X.H₀ d ≠ some (.frz o v) := fun o v q => by
  have z := I.base.frzs d o v q
  rw [e] at z
  cases z
  exact h.no.2.2.2 _ _ rfl
theorem Inv.freeze (I : Inv X pins σ H s) (e : H d = some u) (h : isDct u) : ∃ o, Inv X pins σ (upd H d (.frz o u)) s := by
  obtain ⟨n1, n2, n3, n4⟩ := h.no
  have ok := I.hok d u e
  have hob : ∃ o, s.heap.get? d = some o := by
    cases u <;> first
      | exact h.elim
      | (obtain ⟨_, _, _, _, o, _, _, ho, _⟩ := ok; exact ⟨o, ho⟩)
  obtain ⟨o, ho⟩ := hob
  refine ⟨o, I.retag e n1 n2 n3 (I.nofrz e h) ⟨ho, ok.stay (fun _ _ _ z => z) (fun c z => ?_) fun c xs z => ?_⟩⟩
  · rw [upd_ne (ne_of z e (fun w => n2 _ w.symm))]; exact z
  · rw [upd_ne (ne_of z e (fun w => n1 _ w.symm))]; exact z
theorem Inv.thaw (I : Inv X pins σ H s) (e : H d = some (.frz o u)) (nf : ∀ o v, X.H₀ d ≠ some (.frz o v)) : Inv X pins σ (upd H d u) s := by
  refine I.retag e (fun _ z => by cases z) (fun _ z => by cases z) (fun _ z => by cases z) nf ?_
  obtain ⟨_, ok⟩ := I.hok d _ e
  refine ok.stay (fun _ _ _ z => z) (fun c z => ?_) fun c xs z => ?_
  · rw [upd_ne (ne_of z e (fun w => by cases w))]; exact z
  · rw [upd_ne (ne_of z e (fun w => by cases w))]; exact z
end
noncomputable def thawE (d : Addr) (o : Obj) (u : HO) (D : Ends) : Ends where
  nx := fun σ H => H d = some (.frz o u) ∧ D.nx σ (upd H d u)
  rt := fun v H => H d = some (.frz o u) ∧ D.rt v (upd H d u)
  bk := fun σ H => H d = some (.frz o u) ∧ D.bk σ (upd H d u)
  ct := fun σ H => H d = some (.frz o u) ∧ D.ct σ (upd H d u)
/-- a statement while a dict is known -/
noncomputable def sFrz (ts : TS) : TS := fun D σ H => ∃ d u, H d = some u ∧ isDct u ∧ ∀ o, ts (thawE d o u D) σ (upd H d (.frz o u))
section
variable {X : Cx}
theorem ps_frz {st : Stmt} {ts : TS} (h : PS X st ts) : PS X st (sFrz ts) := by
  intro pins s σ H D I hq
  obtain ⟨d, u, e, hd, q⟩ := hq
  obtain ⟨o, I'⟩ := I.freeze e hd
  have nf := I.nofrz e hd
  refine thn (h pins s σ _ _ I' (q o)) fun f s' hf => ?_
  cases f with
  | next => obtain ⟨σ', H', J, e', k⟩ := hf; exact ⟨σ', _, J.thaw e' nf, k⟩
  | brk => obtain ⟨σ', H', J, e', k⟩ := hf; exact ⟨σ', _, J.thaw e' nf, k⟩
  | cont => obtain ⟨σ', H', J, e', k⟩ := hf; exact ⟨σ', _, J.thaw e' nf, k⟩
  | ret v => obtain ⟨x, σ', H', J, r, e', k⟩ := hf; exact ⟨x, σ', _, J.thaw e' nf, r, k⟩
end
/-! ### for k in d: a dict by ints and texts -/
theorem KV.get : ∀ {kvs : List (Key × V)} {vs : List (Key × Value)} {i : Nat} {kv : Key × V}, KV kvs vs → kvs[i]? = some kv → ∃ u, vs[i]? = some (kv.1, u) ∧ RelV kv.2 u := by
  intro kvs vs i kv r
  unfold KV at r
  induction r generalizing i with
  | nil => intro e; simp at e
  | @cons p q ps qs h t ih =>
    intro e
    cases i with
    | zero =>
      simp at e
      subst e
      exact ⟨q.2, by simp [h.1], h.2⟩
    | succ i => simpa using ih (i := i) (by simpa using e)
section
variable {X : Cx} {tg : Expr}
end
section
variable {d : Addr} {o : Obj} {kvs : List (Key × V)} {g : TG} {tc : TT} {te : TE} {k : Nat} {cap : List Nat} {σ : St} {H : Hp} {Q : VK}
end
/-! ### list(d), d != {}, is True -/
theorem vals_by : ∀ {xs : List V} {us : List Value}, xs.length = us.length → (∀ (j : Nat) x u, xs[j]? = some x → us[j]? = some u → RelV x u) → Vals xs us
  | [], [], _, _ => .nil
  | x :: xs, u :: us, hl, h => .cons (h 0 x u rfl rfl) (vals_by (by simpa using hl) fun j y v e1 e2 => h (j + 1) y v (by simpa using e1) (by simpa using e2))
  | [], _ :: _, hl, _ => by simp at hl
  | _ :: _, [], hl, _ => by simp at hl
theorem Vals.rev : ∀ {xs : List V} {us : List Value}, Vals xs us → Vals xs.reverse us.reverse
  | _, _, .nil => .nil
  | _, _, .cons r t => by
    rw [List.reverse_cons, List.reverse_cons]
    exact Vals.append (Vals.rev t) (.cons r .nil)
section
variable {X : Cx}
theorem op_isnotB : OpR X (compareOp .IsNot) (fun x y H Q => ∃ a b, x = .bl a ∧ y = .bl b ∧ Q (.bl (a != b)) H) := by
  intro pins s σ H x y v u Q I rx ry h
  obtain ⟨a, b, rfl, rfl, q⟩ := h
  cases rx
  cases ry
  exact PyProof.Rows.isnot_bool ⟨.bl _, H, I, rfl, q⟩
end
end L2

namespace L2
open PySem PySem.Spec PyProof.Rows

/-! ### the heap without some places -/
noncomputable def off (S : Addr → Prop) (H : Hp) : Hp := fun b => @ite _ (S b) (Classical.propDecidable _) none (H b)
theorem off_iff {S : Addr → Prop} {H : Hp} {b : Addr} {o : HO} : off S H b = some o ↔ ¬ S b ∧ H b = some o := by
  unfold off
  split
  · rename_i h; exact ⟨(fun z => by cases z), fun z => absurd h z.1⟩
  · rename_i h; exact ⟨fun z => ⟨h, z⟩, fun z => z.2⟩
theorem off_same {S : Addr → Prop} {H H' : Hp} (s : Same H H') : Same (off S H) (off S H') := fun b o e => by
  rw [off_iff] at e ⊢
  exact ⟨e.1, s _ _ e.2⟩
theorem off_le {S : Addr → Prop} {H : Hp} : Same (off S H) H := fun b o e => (off_iff.mp e).2
/-- what is left out is there -/
noncomputable def Sd (S : Addr → Prop) (H : Hp) : Prop := ∀ b, S b → H b ≠ none
theorem Sd.same {S : Addr → Prop} {H H' : Hp} (d : Sd S H) (s : Same H H') : Sd S H' := fun b hb z => by
  cases e : H b with
  | none => exact d b hb e
  | some o => rw [s _ _ e] at z; cases z
theorem off_new {S : Addr → Prop} {H : Hp} {p : Addr} {o : HO} (d : Sd S H) (h : H p = none) : off S (upd H p o) p = some o := off_iff.mpr ⟨fun z => d p z h, upd_same⟩
theorem off_none (H : Hp) : off (fun _ => False) H = H := by
  funext b
  unfold off
  exact if_neg (fun h => h)
theorem Is.off {S : Addr → Prop} {H : Hp} {t : T} {v : V} (h : Is (off S H) t v) : Is H t v := h.mono off_le
theorem Is.off0 {H : Hp} {t : T} {v : V} (h : Is H t v) : Is (L2.off (fun _ => False) H) t v := by rw [off_none]; exact h
theorem Is.nt {S : Addr → Prop} {H : Hp} {p : Addr} {xs : List V} {ts : List T} (d : Sd S H) (hp : H p = none) (h : IsL (L2.off S H) ts xs) : Is (L2.off S (upd H p (.tup xs))) (.tup ts) (.ref p) :=
  ⟨p, xs, rfl, off_new d hp, IsL.mono (off_same (Same.new hp _)) h⟩
theorem Is.nl {S : Addr → Prop} {H : Hp} {p : Addr} {xs : List V} {ts : List T} (d : Sd S H) (hp : H p = none) (h : IsL (L2.off S H) ts xs) : Is (L2.off S (upd H p (.lst xs))) (.lst ts) (.ref p) :=
  ⟨p, xs, rfl, off_new d hp, IsL.mono (off_same (Same.new hp _)) h⟩
theorem IsL.rev {H : Hp} : ∀ {ts : List T} {xs : List V}, IsL H ts xs → IsL H ts.reverse xs.reverse
  | [], xs, h => by cases h; exact rfl
  | t :: ts, xs, h => by
    obtain ⟨v, vs, rfl, h1, h2⟩ := h
    rw [List.reverse_cons, List.reverse_cons]
    exact IsL.append (IsL.rev h2) (IsL.one h1)
theorem IsL.rep {H : Hp} {ts : List T} {xs : List V} (h : IsL H ts xs) : ∀ n : Nat, IsL H (List.replicate n ts).flatten (List.replicate n xs).flatten
  | 0 => rfl
  | n + 1 => by
    rw [List.replicate_succ, List.replicate_succ, List.flatten_cons, List.flatten_cons]
    exact IsL.append h (IsL.rep h n)

end L2
namespace HT
open PySem PyProof.Rows
open PySem.SeqAt
open PySem.AutoSeq1 (wpAny_loadPart')
open PySem.MeetsSeq PySem.MeetsSeq2 PySem.MeetsSeq3
section
variable {prog : Program} {w : World} {A : Around} {E : Value → Shared → Prop} {s : Shared}
/-- () + u is u itself -/
theorem cat_tup0 {t b : Addr} {ws : List Value} {Q : Value → Shared → Prop} (ht : IsTup s.heap t ([] : List Value).toArray) (hb : IsTup s.heap b ws.toArray) (h : Q (.ref b) s) : wpAny (model prog w) A (binaryOp .Add (.ref t) (.ref b)) Q E s := by
  obtain ⟨⟨cls, dd, data, sl⟩, ho, hc, n, hd⟩ := id ht
  obtain ⟨⟨cls2, dd2, data2, sl2⟩, ho2, hc2, n2, hd2⟩ := id hb
  simp only at hc hd hc2 hd2
  subst hc hd hc2 hd2
  exact concat_meets ⟨_, ho, rfl⟩ ⟨_, ho2, rfl⟩ noFill_tuple_add seq_tuple_add PySem.F.slot_tuple_add PySem.F.entry_tuple_add (PySem.F.args_tuple_add_2 _ _)
      (tuple_addW0 t b ([] : List Value).toArray ws.toArray n n2 dd dd2 sl sl2 rfl) ⟨ho, ho2, h⟩
/-- t * n -/
theorem noFill_tuple_mul : fillsNumberSlot (.type "tuple") "mul" = pure false :=
  PySem.fillsNumberSlot_seq (id := "tuple.__mul__") (r := some (.builtin "tuple.__rmul__")) PySem.F.slot_tuple_mul.lookup (by decide +kernel) PySem.F.slot_tuple_rmul.lookup (by decide +kernel)
theorem repeat_tuple : seqRepeat? (.type "tuple") = pure (some (.builtin "tuple.__mul__")) := by
  unfold seqRepeat?
  rw [PySem.seqSlot_of (T := "tuple") (name := "__mul__") (id := "tuple.__mul__") PySem.F.slot_tuple_mul.lookup (by decide +kernel), PySem.seqSlot_of (T := "tuple") (name := "__rmul__") (id := "tuple.__rmul__") PySem.F.slot_tuple_rmul.lookup (by decide +kernel)]
  rfl
theorem rmul_int_tuple (a : Int) (t : Tok) (l : Addr) (items : Array Value) (n : Nat) (dd : Option Addr) (sl : Array (Option Value)) :
    Meets (Builtin.«int.__rmul__» ⟨[.int a t, .ref l], []⟩) (fun _ R s => s.heap.get? l = some { cls := .type "tuple", dict := dd, data := .seq items n, slots := sl } ∧ R (.ok (.ret Value.notImplemented)) s) :=
  .of_wp fun prog w A R sh hq => by
    obtain ⟨hp, gn, dr, tk, os⟩ := sh
    obtain ⟨hl, hend⟩ := hq
    wp_walk
    exact ⟨_, rfl, hend⟩
theorem mul_tuple_int (l : Addr) (items : Array Value) (n : Nat) (dd : Option Addr) (sl : Array (Option Value)) (x : Int) (u : Tok) (h0 : ¬ items.isEmpty = true) (h1 : 2 ≤ x) (h2 : x ≤ 1000) (h3 : items.size ≤ 1000) :
    Meets (Builtin.«tuple.__mul__» ⟨[.ref l, .int x u], []⟩) (fun _ R s => s.heap.get? l = some { cls := .type "tuple", dict := dd, data := .seq items n, slots := sl } ∧
      R (.ok (.ret (Value.ref s.heap.objs.size))) { s with heap := s.heap.push { cls := Value.type "tuple", data := Data.seq (List.foldl (fun x1 x2 => x1 ++ x2) #[] (List.replicate x.toNat items)) }, toks := s.toks }) :=
  .of_wp fun prog w A R s h => by
    obtain ⟨hp, gn, dr, tk, os⟩ := s
    obtain ⟨hl, h⟩ := h
    have f1 := AutoSeq1.idx_int
    have f2 := AutoSeq1.sub_tuple_tuple
    have c1 : ¬ (decide (x < -(2 ^ 63)) || decide (x ≥ 2 ^ 63)) = true := by simp; omega
    have c2 : ¬ (items.isEmpty || x == 1) = true := by
      intro z
      rw [Bool.or_eq_true] at z
      rcases z with z | z
      · exact h0 z
      · have := eq_of_beq z; omega
    have c3 : ¬ (decide (x ≤ 0) || items.isEmpty) = true := by
      intro z
      rw [Bool.or_eq_true] at z
      rcases z with z | z
      · have := of_decide_eq_true z; omega
      · exact h0 z
    have hm : (items.size : Int) * x ≤ 1000 * 1000 := Int.mul_le_mul (by omega) h2 (by omega) (by decide)
    have c4 : ¬ (items.size : Int) * x > (2 ^ 63 - 1) / 8 := by omega
    have c5 : ¬ Builtin.Tuple.tupleTooMany ((items.size : Int) * x) = true := by
      unfold Builtin.Tuple.tupleTooMany
      intro z
      have z := of_decide_eq_true z
      rw [sizeLine_eq] at z
      omega
    have ht : IsTup hp l items := ⟨_, hl, rfl, n, rfl⟩
    have hz : sizeOk (.seq (List.foldl (fun x1 x2 => x1 ++ x2) #[] (List.replicate x.toNat items))) := by
      show _ ≤ sizeLine
      rw [PySem.AutoListH.size_joined, sizeLine_eq]
      have := Nat.mul_le_mul (show x.toNat ≤ 1000 by omega) h3
      simp only [Array.size_empty]
      omega
    wp_walk
    refine wpAny_ite_split (fun z => absurd z c1) (fun _ => ?_)
    refine wpAny_bind (tupleItemsOf_ ht ?_)
    refine wpAny_ite_split (fun z => absurd z c2) (fun _ => ?_)
    refine wpAny_ite_split (fun z => absurd z c3) (fun _ => ?_)
    refine wpAny_ite_split (fun z => absurd z c4) (fun _ => ?_)
    refine wpAny_ite_split (fun z => absurd z c5) (fun _ => ?_)
    exact wpAny_bind (m := Builtin.Tuple.tupleExact _) (wpAny_newObj_type (wpAny_pure ⟨_, rfl, h⟩) hz)
end
end HT
namespace L2
open PySem PySem.Spec PyProof.Rows
section
variable {X : Cx} {S : Addr → Prop}
noncomputable def rCatTr (S : Addr → Prop) : R2 := fun x y H Q => ∃ ts us, Is (off S H) (.tup ts) x ∧ Is (off S H) (.tup us) y ∧ Sd S H ∧ ts.length + us.length ≤ sizeLine ∧ ∀ v H', Same H H' → Is (off S H') (.tup (ts ++ us)) v → Q v H'
theorem op_catTr : OpR X (binaryOp .Add) (rCatTr S) := by
  intro pins s σ H x y v u Q I rx ry h
  obtain ⟨ts, us, ⟨a, xs, rfl, ha, hl⟩, ⟨b, ys, rfl, hb, hm⟩, d, hz, q⟩ := h
  have ha' := (off_iff.mp ha).2
  have hb' := (off_iff.mp hb).2
  have e1 := hl.length
  have e2 := hm.length
  by_cases hx : xs = []
  · subst hx
    have ht : ts = [] := List.length_eq_zero_iff.mp (by simpa using e1.symm)
    subst ht
    cases rx
    cases ry
    obtain ⟨its, r1, p1, _⟩ := I.tuple (SqT.of ha')
    obtain ⟨its2, r2, p2, _⟩ := I.tuple (SqT.of hb')
    cases r1
    exact HT.cat_tup0 p1 p2 ⟨.ref b, H, I, rfl, q _ H (Same.refl H) ⟨b, ys, rfl, hb, hm⟩⟩
  · refine op_catT pins s σ H (.ref a) (.ref b) v u Q I rx ry ⟨a, b, xs, ys, rfl, rfl, SqT.of ha', SqT.of hb', hx, by omega, fun hy => ?_, fun hy p hp => q _ _ (Same.new hp _) (Is.nt d hp (IsL.append hl hm))⟩
    have hu : us = [] := List.length_eq_zero_iff.mp (by rw [← e2, hy]; rfl)
    subst hu
    refine q _ H (Same.refl H) ?_
    rw [List.append_nil]
    exact ⟨a, xs, rfl, ha, hl⟩
noncomputable def cutG {α : Type} (xs : List α) (lo hi : Option Int) : List α := (xs.drop (HT.sIx xs.length 0 lo)).take (HT.sIx xs.length xs.length hi - HT.sIx xs.length 0 lo)
noncomputable def rRepTr (S : Addr → Prop) : R2 := fun x y H Q => ∃ ts k, Is (off S H) (.tup ts) x ∧ y = .int k ∧ Sd S H ∧ ts ≠ [] ∧ ts.length ≤ 10 ∧ 2 ≤ k ∧ k ≤ 1000 ∧ ∀ v H', Same H H' → Is (off S H') (.tup (List.replicate k.toNat ts).flatten) v → Q v H'
theorem op_repTr : OpR X (binaryOp .Mult) (rRepTr S) := by
  intro pins s σ H x y v u Q I rx ry h
  obtain ⟨ts, k, ⟨a, xs, rfl, ha, hl⟩, rfl, d, hne, hz, h1, h2, q⟩ := h
  cases rx
  obtain ⟨t, rfl⟩ := ry
  have e1 := hl.length
  have ha' := (off_iff.mp ha).2
  obtain ⟨its, r, ht, hz'⟩ := I.tuple (SqT.of ha')
  have e2 := r.length
  obtain ⟨⟨cls, dd, data, sl⟩, ho, hc, n, hd⟩ := id ht
  simp only at hc hd
  subst hc hd
  have hne' : ¬ its.toArray.isEmpty = true := by
    intro z
    have : its = [] := by simpa using z
    rw [this] at e2
    exact hne (List.length_eq_zero_iff.mp (by rw [← e1, e2]; rfl))
  have hnew : List.foldl (fun x1 x2 => x1 ++ x2) #[] (List.replicate k.toNat its.toArray) = (List.replicate k.toNat its).flatten.toArray := by
    have := foldl_rep its k.toNat []
    rw [List.nil_append] at this
    exact this
  refine wpAny_binaryOp_repeat_ref (T := "tuple") (U := "int") (by decide) ⟨_, ho, rfl⟩ (fun s' => typeIs_int s' k t) HT.noFill_tuple_mul F.fills_int_mul F.slot_int_rmul HT.repeat_tuple F.slot_int_index.lookup
    (call_meets F.slot_int_rmul (typeIs_int s k t) F.entry_int_rmul (F.args_int_rmul_2 _ _) (HT.rmul_int_tuple k t a its.toArray n dd sl)
      ⟨ho, rfl, ⟨_, ho, rfl⟩, call_meets F.slot_tuple_mul ⟨_, ho, rfl⟩ F.entry_tuple_mul (F.args_tuple_mul_2 _ _) (HT.mul_tuple_int a its.toArray n dd sl k t hne' h1 h2 (by rw [List.size_toArray]; omega)) ⟨ho, ?_⟩⟩)
  rw [hnew]
  refine ⟨.ref _, _, I.laid (t' := s.toks) (o := .tup (List.replicate k.toNat xs).flatten) (fun b ob q => Heap.get?_push_of_some _ q) (Nat.le_refl _) ?_, rfl, q _ _ (Same.new I.fresh _) (Is.nt d I.fresh (IsL.rep hl _))⟩
  refine ⟨?_, _, r.rep k.toNat, IsTup.new _ _, NoD.push⟩
  rw [len_rep]
  exact Nat.le_trans (Nat.mul_le_mul (show k.toNat ≤ 1000 by omega) (show xs.length ≤ 10 by omega)) (by decide)
end
end L2

namespace L2
open PySem PySem.Spec PyProof.Rows

/-! ### expressions that only put trees together, by one rule -/
inductive Tm where
  | var (i : Nat) | con (t : T) | add (a b : Tm) | sub (a b : Tm) | mul (a b : Tm) | tup (ts : List Tm) | lst (ts : List Tm) | upto (a b : Tm) | frm (a b : Tm) | ix (a b : Tm) | toL (a : Tm) | neg (a : Tm) | toS (a : Tm) | sum (a : Tm) | dct
noncomputable def dAdd : Option T → Option T → Option T
  | some (.int i), some (.int j) => some (.int (i + j))
  | some (.tup ts), some (.tup us) => if ts.length + us.length ≤ 1000 then some (.tup (ts ++ us)) else none
  | some (.lst ts), some (.lst us) => if ts.length + us.length ≤ 1000 then some (.lst (ts ++ us)) else none
  | _, _ => none
noncomputable def dSub : Option T → Option T → Option T
  | some (.int i), some (.int j) => some (.int (i - j))
  | _, _ => none
noncomputable def dMul : Option T → Option T → Option T
  | some (.tup ts), some (.int k) => if 1 ≤ ts.length ∧ ts.length ≤ 10 ∧ 2 ≤ k ∧ k ≤ 1000 then some (.tup (List.replicate k.toNat ts).flatten) else none
  | _, _ => none
noncomputable def dUpto : Option T → Option T → Option T
  | some (.tup ts), some (.int i) => some (.tup (cutG ts none (some i)))
  | _, _ => none
noncomputable def dFrm : Option T → Option T → Option T
  | some (.tup ts), some (.int i) => some (.tup (cutG ts (some i) none))
  | _, _ => none
noncomputable def dIx : Option T → Option T → Option T
  | some (.tup ts), some (.int i) => if 0 ≤ i then ts[i.toNat]? else none
  | _, _ => none
noncomputable def dToL : Option T → Option T
  | some (.tup ts) => some (.lst ts)
  | _ => none
noncomputable def dNeg : Option T → Option T
  | some (.int i) => some (.int (-i))
  | _ => none
noncomputable def dToS : Option T → Option T
  | some (.int i) => if i.natAbs < 1000 then some (.str (toString i)) else none
  | _ => none
noncomputable def intsOf : List T → Option (List Int)
  | [] => some []
  | .int i :: r => (intsOf r).map (i :: ·)
  | _ :: _ => none
noncomputable def dSum : Option T → Option T
  | some (.tup ts) => match intsOf ts with
    | some ns => if ns.all (fun n => decide (0 ≤ n)) && decide (ns.sum < 1000000) then some (.int ns.sum) else none
    | none => none
  | _ => none
noncomputable def dTup : Option (List T) → Option T
  | some ts => if ts.length ≤ 1000 then some (.tup ts) else none
  | none => none
noncomputable def dLst : Option (List T) → Option T
  | some ts => if ts.length ≤ 1000 then some (.lst ts) else none
  | none => none
noncomputable def dCons : Option T → Option (List T) → Option (List T)
  | some t, some ts => some (t :: ts)
  | _, _ => none
abbrev TEnv := List (Nat × T)
mutual
noncomputable def Tm.den (l : TEnv) : Tm → Option T
  | .var i => l.lookup i
  | .con t => some t
  | .add a b => dAdd (a.den l) (b.den l)
  | .sub a b => dSub (a.den l) (b.den l)
  | .mul a b => dMul (a.den l) (b.den l)
  | .tup ts => dTup (Tm.denL l ts)
  | .lst ts => dLst (Tm.denL l ts)
  | .upto a b => dUpto (a.den l) (b.den l)
  | .frm a b => dFrm (a.den l) (b.den l)
  | .ix a b => dIx (a.den l) (b.den l)
  | .toL a => dToL (a.den l)
  | .neg a => dNeg (a.den l)
  | .toS a => dToS (a.den l)
  | .sum a => dSum (a.den l)
  | .dct => some .dct
noncomputable def Tm.denL (l : TEnv) : List Tm → Option (List T)
  | [] => some []
  | t :: r => dCons (t.den l) (Tm.denL l r)
end
/-- the names hold these trees -/
noncomputable def EnvOk (S : Addr → Prop) (l : TEnv) (σ : St) (H : Hp) : Prop := Sd S H ∧ ∀ p ∈ l, ∃ v, σ[p.1]? = some (some v) ∧ Is (off S H) p.2 v
theorem EnvOk.same {S : Addr → Prop} {l : TEnv} {σ : St} {H H' : Hp} (e : EnvOk S l σ H) (s : Same H H') : EnvOk S l σ H' := ⟨e.1.same s, fun p hp => by
  obtain ⟨v, h1, h2⟩ := e.2 p hp
  exact ⟨v, h1, h2.mono (off_same s)⟩⟩
section
variable {X : Cx} {S : Addr → Prop} {aL : Str → Bool}
theorem PE.weak {e : Expr} {t t' : TE} (h : PE X e t) (w : ∀ σ H Q, t' σ H Q → t σ H Q) : PE X e t' := fun pins s σ H Q I q => h pins s σ H Q I (w σ H Q q)
theorem PA.weak {es : List Expr} {t t' : TA} (h : PA X es t) (w : ∀ σ H Q, t' σ H Q → t σ H Q) : PA X es t' := fun pos pins s σ H Q I q => h pos pins s σ H Q I (w σ H Q q)
theorem small_le {n : Nat} (h : n ≤ 1000) : n ≤ sizeLine := Nat.le_trans h (by decide)
/-- sum(tuple of ints), in bounds -/
theorem call_sumT (hc : X.calm = true) : CallR X (.builtin "sum") (fun xs H Q => ∃ (a : Addr) (ns : List Int), xs = [.ref a] ∧ SqT X.K H a (ns.map V.int) ∧ (∀ n ∈ ns, 0 ≤ n) ∧ ns.sum < 2 ^ 63 ∧ Q (.int ns.sum) H) := by
  intro pins s σ H xs us Q I r h
  obtain ⟨a, ns, rfl, hq, h0, h1, q⟩ := h
  obtain ⟨u, rfl, rx⟩ := vals1 r
  cases rx
  obtain ⟨its, rv, p, hz⟩ := I.tuple hq
  have hlt : a < s.heap.objs.size := by obtain ⟨_, e, _⟩ := p; exact Heap.lt_size e
  have hl := rv.length
  rw [List.length_map] at hl
  have ps : ∀ k, k ≤ ns.length → preSum (fun i => (ns[i]?).getD 0) k = (ns.take k).sum := by
    intro k
    induction k with
    | zero => intro _; rfl
    | succ k ih =>
      intro hk
      have this : ns[k]? = some ns[k] := List.getElem?_eq_getElem (by omega)
      rw [preSum, ih (by omega), List.take_add_one, this, List.sum_append]
      simp
  have nn : ∀ (l : List Int), (∀ n ∈ l, 0 ≤ n) → 0 ≤ l.sum := by
    intro l
    induction l with
    | nil => intro _; exact Int.le_refl _
    | cons a r ih =>
      intro h
      have h1 := h a List.mem_cons_self
      have h2 := ih fun n hn => h n (List.mem_cons_of_mem _ hn)
      rw [List.sum_cons]; omega
  have tk : ∀ k, (ns.take k).sum ≤ ns.sum := by
    intro k
    have e : ns.sum = (ns.take k).sum + (ns.drop k).sum := by rw [← List.sum_append, List.take_append_drop]
    have := nn (ns.drop k) fun n hn => h0 n (List.mem_of_mem_drop hn)
    omega
  refine call_sum_walk (wpAny_pyIter_tuple (show s.heap.IsTuple a its.toArray from p) ?_)
  refine ⟨s.heap.objs.size, _, _, _, _, _, fun i => (ns[i]?).getD 0, rfl, Walks.tuple (A := X.A.in1) (show X.A.in1.handled = none from I.ok.hd hc) s.heap.objs.size a (Nat.ne_of_lt hlt) its.toArray, ⟨⟨_, Heap.get?_push_size _ rfl, rfl, rfl⟩, (show Heap.IsTuple _ a its.toArray from p.keeps fun b o e => Heap.get?_push_of_some _ e)⟩, ?_, ?_, ?_, fun h' tk' t' hk => ?_⟩
  · intro b hb
    show b < (s.heap.push _).objs.size
    rw [Heap.size_push]
    rcases List.mem_cons.mp hb with z | z
    · rw [z]; exact Nat.lt_succ_self _
    · have z : b = a := by simpa using z
      rw [z]; exact Nat.lt_succ_of_lt hlt
  · intro i v hP
    have hP : its[i]? = some v := by simpa using hP
    have hi : i < ns.length := by
      have := (List.getElem?_eq_some_iff.mp hP).1
      omega
    obtain ⟨u, hu, ru⟩ := rv.get (i := i) (x := V.int ns[i]) (by rw [List.getElem?_map, List.getElem?_eq_getElem hi]; rfl)
    rw [hu] at hP
    cases hP
    obtain ⟨t, rfl⟩ := (show ∃ t, v = Value.int ns[i] t from ru)
    exact ⟨t, by dsimp only; rw [List.getElem?_eq_getElem hi]; rfl⟩
  · intro j hj
    rw [List.size_toArray] at hj
    have hj : j < ns.length := by omega
    have hm : ns[j] ∈ ns := List.getElem_mem hj
    have hp := ps (j + 1) (by omega)
    have hp0 := ps j (by omega)
    have h3 := tk (j + 1)
    have h4 := nn (ns.take (j + 1)) fun n hn => h0 n (List.mem_of_mem_take hn)
    have h5 := nn (ns.take j) fun n hn => h0 n (List.mem_of_mem_take hn)
    have h6 := h0 _ hm
    rw [preSum, hp0, List.getElem?_eq_getElem hj] at hp
    have hp : (ns.take j).sum + ns[j] = (ns.take (j + 1)).sum := hp
    refine ⟨?_, ?_⟩
    · dsimp only
      rw [List.getElem?_eq_getElem hj]
      show InLong ns[j]
      unfold InLong; omega
    · rw [ps (j + 1) (by omega)]
      unfold InLong; omega
  · have e : preSum (fun i => (ns[i]?).getD 0) its.toArray.size = ns.sum := by
      rw [List.size_toArray, ← hl, ps _ (Nat.le_refl _), List.take_length]
    rw [e]
    refine ⟨.int ns.sum, H, I.kept fun b o e => hk b o (fun hb => ?_) (Heap.get?_push_of_some _ e), ⟨t', rfl⟩, q⟩
    have z : b = s.heap.objs.size := by simpa using hb
    exact absurd (Heap.lt_size e) (by rw [z]; exact Nat.lt_irrefl _)
noncomputable def rCatE : R2 := fun x y H Q => ∃ S, rCatTr S x y H Q
theorem op_catE : OpR X (binaryOp .Add) rCatE := fun pins s σ H x y v u Q I rx ry ⟨S, h⟩ => op_catTr (S := S) pins s σ H x y v u Q I rx ry h
end
end L2

namespace L2
open PySem PySem.Spec PyProof.Rows

theorem ObjOk.at {P : Program} {w : World} {H : Hp} {h : Heap} {a : Addr} {o : HO} (x : ObjOk P w H h a o) : ∃ ob, h.get? a = some ob := by
  cases o with
  | lst xs => obtain ⟨_, _, _, _, e⟩ := x; exact ⟨_, e⟩
  | tup xs => obtain ⟨_, _, _, ⟨ob, e, _⟩, _⟩ := x; exact ⟨_, e⟩
  | dK kvs => obtain ⟨_, _, _, _, o, _, _, e, _⟩ := x; exact ⟨_, e⟩
  | dT kvs => obtain ⟨_, _, _, _, o, _, _, e, _⟩ := x; exact ⟨_, e⟩
  | set S n => obtain ⟨o, _, _, _, e, _⟩ := x; exact ⟨_, e⟩
  | ins C dx fs => obtain ⟨_, _, _, e, _⟩ := x; exact ⟨_, e⟩
  | own y => exact x
  | xd fs => obtain ⟨_, ⟨_, _, _, e, _⟩, _⟩ := x; exact ⟨_, e⟩
  | rng lo hi => obtain ⟨_, _, _, e⟩ := x; exact ⟨_, e⟩
  | frz ob u => obtain ⟨e, _⟩ := x; exact ⟨_, e⟩
  | tbl ps => exact ⟨_, (show h.get? a = some _ from x)⟩
  | met f y => exact ⟨_, (show h.get? a = some _ from x)⟩
  | ext φ => obtain ⟨_, ⟨o, e⟩, _⟩ := x; exact ⟨o, e⟩
/-! ### an exception that flies -/
section
variable {M : Model} {A : Around} {E : Value → Shared → Prop} {s : Shared} {base : Heap} {env : Env} {outer : List Env} {L e T0 : Addr} {oe : Obj} {vs : Array Value} {cls a0 : Value} {Q : Unit → Shared → Prop}
end
section
variable {P : Program} {w : World} {K : PySem.W.Frag} {mg : Str → Option Value} {base : Heap} {N : List Str} {qual : Str} {scope : Scope} {f : Addr} {cd : Value} {A : Around} {outer : List Env} {s₀ s : Shared} {H₀ H : Hp} {E : XK} {pins : List (Addr × Obj)} {σ : St}
end
end L2

namespace L2
open PySem PySem.Spec PyProof.Rows
section
variable {P : Program} {w : World} {K : PySem.W.Frag} {mg : Str → Option Value} {base : Heap} {N : List Str} {qual : Str} {scope : Scope} {f : Addr} {cd : Value} {A : Around} {outer : List Env} {s₀ : Shared} {H₀ : Hp} {E : XK}
end
/-- an own class of errors right under another own one, right under ValueError, as the written part has it -/
structure OwnErr (K : PySem.W.Frag) (mg : Str → Option Value) (base : Heap) (x : Str) (C : Addr) : Prop where
  cls : OwnCls x C [.type "ValueError", .type "Exception", .type "BaseException", .type "object"] "ValueError.__new__" mg base
  keep : PySem.W.keepIn K (.ref C) = true
end L2

namespace L2
open PySem PySem.Spec PyProof.Rows
section
variable {M : Model} {A : Around} {E : Value → Shared → Prop} {h : Heap} {g : Array GenState} {d : Drawn} {t : Nat} {os : OsState} {e : Addr} {oe : Obj} {Q : Bool → Shared → Prop}
end
section
variable {P : Program} {w : World} {X : Cx} {E : XK} {pins : List (Addr × Obj)} {σ : St} {H : Hp} {s s' : Shared} {e : Value} {R : Shared → Prop} {Ex : Value → Shared → Prop} {env : Env} {outer : List Env} {L : Addr}
end
end L2

namespace L2
open PySem PySem.Spec PyProof.Rows
section
variable {X : Cx} {pins : List (Addr × Obj)} {σ : St} {H : Hp} {s : Shared}
end
/-- the context while an exception is handled -/
abbrev Cx.held (X : Cx) (e : Value) : Cx := { X with A := X.A.mark (some e), calm := false }
theorem Inv.held {X : Cx} {pins : List (Addr × Obj)} {σ : St} {H : Hp} {s : Shared} {e : Value} (I : Inv X pins σ H s) : Inv (X.held e) pins σ H s :=
  ⟨⟨I.ok.mod, I.ok.kind, I.ok.glob, I.ok.blt, I.ok.above, I.ok.inj, I.ok.has, I.ok.cab, (fun z => by cases z), I.ok.frames, I.ok.stk, I.ok.exf, I.ok.bs, I.ok.bsz, I.ok.noex, I.ok.exfs, I.ok.funs, I.ok.frf⟩, I.os, I.bare, I.base, I.loc, I.cell, I.free, I.freeC, I.pin, I.hok, I.len⟩
end L2

namespace L2
open PySem PySem.Spec PyProof.Rows
section
variable {X : Cx} {pins : List (Addr × Obj)} {σ : St} {H : Hp} {s : Shared} {a C : Addr}
end
abbrev Cx.pinned (X : Cx) (pn : List (Addr × Obj)) : Cx := { X with pn := pn }
/-- the class at C lies right under the class at D, in the written part -/
noncomputable def Under (base : Heap) (C D : Addr) : Prop := ∃ nm q N bs bm hdct sn sub ab col dd k0 k1 k2 k3 k5 newId, base.get? C = some (excClassObj nm q C N bs bm hdct sn sub ab col dd k0 k1 k2 k3 k5 newId) ∧ (Value.ref C :: bm).contains (.ref D) = true
noncomputable def IsErr (base : Heap) (D : Addr) : Prop := ∃ nm q N bs bm hdct sn sub ab col dd k0 k1 k2 k3 k5 newId, base.get? D = some (excClassObj nm q D N bs bm hdct sn sub ab col dd k0 k1 k2 k3 k5 newId) ∧ bm.contains (.type "BaseException") = true
end L2

namespace L2
open PySem PySem.Spec PyProof.Rows
section
variable {P : Program} {w : World} {K : PySem.W.Frag} {mg : Str → Option Value} {base : Heap}
end
end L2

namespace PySem
open Sem (wp)
/-- names that no own class of errors says anything of -/
noncomputable def qn : List Str := ["__class__", "__getattribute__", "__getattr__", "__init__"]
abbrev vE : List Value := [.type "ValueError", .type "Exception", .type "BaseException", .type "object"]
section
variable {M : Model} {prog : Program} {w : World} {A : Around} {E : Value → Shared → Prop} {h : Heap} {g : Array GenState} {d : Drawn} {t : Nat} {os : OsState} {a : Addr} {o : Obj}
  {nm q : Str} {C N : Addr} {bs bm : List Value} {hdct : Bool} {sn : List Str} {sub : List Value} {ab : Bool} {col : Option Bool} {dd : Option Addr} {k0 k1 k2 k3 k5 : Option Value} {newId : String} {mN : Str → Option Value}
end
end PySem

namespace PySem
open Sem (wp)
section
variable {M : Model} {prog : Program} {w : World} {A : Around} {E : Value → Shared → Prop} {h : Heap} {g : Array GenState} {d : Drawn} {t : Nat} {os : OsState} {a : Addr} {o : Obj}
  {nm q : Str} {C N : Addr} {bs bm : List Value} {hdct : Bool} {sn : List Str} {sub : List Value} {ab : Bool} {col : Option Bool} {dd : Option Addr} {k0 k1 k2 k3 k5 : Option Value} {newId : String} {mN : Str → Option Value}
end
end PySem

namespace L2
open PySem PySem.Spec PyProof.Rows
end L2

namespace L2
open PySem PySem.Spec PyProof.Rows
/-- the class at D, right under ValueError, and the class at C, right under it, with nothing of their own, in the written part -/
structure TwoErr (K : PySem.W.Frag) (C D : Addr) : Prop where
  c : ∃ nm q N bs hdct sn sub ab col dd k0 k1 k2 k3 k5, K.lookup C = some (excClassObj nm q C N bs (.ref D :: vE) hdct sn sub ab col dd k0 k1 k2 k3 k5 "ValueError.__new__") ∧ PySem.W.nsOkIn K N = true ∧ ∀ n ∈ qn, PySem.W.nsIn K N n = some none
  d : ∃ nm q N bs hdct sn sub ab col dd k0 k1 k2 k3 k5, K.lookup D = some (excClassObj nm q D N bs vE hdct sn sub ab col dd k0 k1 k2 k3 k5 "ValueError.__new__") ∧ PySem.W.nsOkIn K N = true ∧ ∀ n ∈ qn, PySem.W.nsIn K N n = some none
section
variable {K : PySem.W.Frag} {C D : Addr} {mg : Str → Option Value} {base : Heap} {x : Str}
theorem TwoErr.is (t : TwoErr K C D) (X : K.In base) : IsErr base D := by
  obtain ⟨nm', q', N', bs', hdct', sn', sub', ab', col', dd', j0, j1, j2, j3, j5, lD, _⟩ := t.d
  exact ⟨_, _, _, _, _, _, _, _, _, _, _, _, _, _, _, _, _, X _ _ lD, by decide +kernel⟩
theorem TwoErr.under (t : TwoErr K C D) (X : K.In base) : Under base C D := by
  obtain ⟨nm, q, N, bs, hdct, sn, sub, ab, col, dd, k0, k1, k2, k3, k5, lC, _⟩ := t.c
  exact ⟨_, _, _, _, _, _, _, _, _, _, _, _, _, _, _, _, _, X _ _ lC, by simp⟩
theorem TwoErr.own (t : TwoErr K C D) (X : K.In base) (hm : mg x = some (.ref C)) (hk : PySem.W.keepIn K (.ref C) = true) : OwnErr K mg base x C := by
  obtain ⟨nm, q, N, bs, hdct, sn, sub, ab, col, dd, k0, k1, k2, k3, k5, lC, oN, qN⟩ := t.c
  obtain ⟨nm', q', N', bs', hdct', sn', sub', ab', col', dd', j0, j1, j2, j3, j5, lD, oN', qN'⟩ := t.d
  have hi : ("__init__" : Str) ∈ qn := .tail _ (.tail _ (.tail _ (.head _)))
  exact ⟨⟨hm, _, _, _, _, _, _, _, _, _, _, _, _, _, _, _, _, _, X _ _ lC, .of_isNs (PySem.W.isNs_of_in X oN), PySem.W.nsMap_none_of_in X oN (qN _ hi), .own (X _ _ lD) (.of_isNs (PySem.W.isNs_of_in X oN')) (PySem.W.nsMap_none_of_in X oN' (qN' _ hi)) .base⟩, hk⟩
end
end L2

namespace L2
open PySem PySem.Spec PyProof.Rows

/-! ### trees compared -/
mutual
noncomputable def toD : T → PyData
  | .non => .none
  | .bl b => .bool b
  | .int i => .int i
  | .str x => .str x
  | .tup ts => .tuple (toDs ts)
  | .lst ts => .list (toDs ts)
  | .dct => .dict []
noncomputable def toDs : List T → List PyData
  | [] => []
  | t :: r => toD t :: toDs r
end
section
variable {X : Cx} {pins : List (Addr × Obj)} {σ : St} {H : Hp} {s : Shared}
mutual
theorem reads_is (I : Inv X pins σ H s) : ∀ {t : T} {v : V} {u : Value}, (toD t).canLay0 = true → Is H t v → RelV v u → ∃ as, Reads s.heap u (toD t) as
  | .non, v, u, _, h, r => by
    cases (show v = .non from h); cases (show u = Value.none from r)
    exact ⟨_, by unfold toD; exact .none⟩
  | .bl b, v, u, _, h, r => by
    cases (show v = .bl b from h); cases (show u = Value.bool b from r)
    exact ⟨_, by unfold toD; exact .bool b⟩
  | .int i, v, u, _, h, r => by
    cases (show v = .int i from h)
    obtain ⟨t, rfl⟩ := (show ∃ t, u = Value.int i t from r)
    exact ⟨_, by unfold toD; exact .int i t⟩
  | .str x, v, u, _, h, r => by
    cases (show v = .str x from h)
    obtain ⟨t, rfl⟩ := (show ∃ t, u = Value.str x t from r)
    exact ⟨_, by unfold toD; exact .str x t⟩
  | .tup ts, v, u, l, h, r => by
    obtain ⟨a, xs, rfl, ha, hl⟩ := h
    cases (show u = Value.ref a from r)
    obtain ⟨its, rv, ⟨o, e, c, n, d⟩, _⟩ := I.tuple (SqT.of ha)
    obtain ⟨as, ra⟩ := readsAll_is I (by unfold toD PyData.canLay0 at l; exact l) hl rv
    exact ⟨_, by unfold toD; exact .tuple e c d (by simpa using ra)⟩
  | .lst ts, v, u, l, h, r => by
    obtain ⟨a, xs, rfl, ha, hl⟩ := h
    cases (show u = Value.ref a from r)
    obtain ⟨its, rv, ⟨o, n, e, c, _, d⟩, _⟩ := I.list (SqL.of ha)
    obtain ⟨as, ra⟩ := readsAll_is I (by unfold toD PyData.canLay0 at l; exact l) hl rv
    exact ⟨_, by unfold toD; exact .list e c d (by simpa using ra)⟩
  | .dct, v, u, l, h, r => by unfold toD PyData.canLay0 at l; cases l
theorem readsAll_is (I : Inv X pins σ H s) : ∀ {ts : List T} {xs : List V} {us : List Value}, PyData.canLayAll0 (toDs ts) = true → IsL H ts xs → Vals xs us → ∃ as, ReadsAll s.heap us (toDs ts) as
  | [], xs, us, _, h, r => by
    cases (show xs = [] from h); cases r
    exact ⟨_, by unfold toDs; exact .nil⟩
  | t :: ts, xs, us, l, h, r => by
    obtain ⟨v, vs, rfl, h1, h2⟩ := h
    cases r with
    | cons r1 r2 =>
      unfold toDs PyData.canLayAll0 at l
      rw [Bool.and_eq_true] at l
      obtain ⟨as, ra⟩ := reads_is I l.1 h1 r1
      obtain ⟨bs, rb⟩ := readsAll_is I l.2 h2 r2
      exact ⟨_, by unfold toDs; exact .cons ra rb⟩
end
end
section
variable {X : Cx}
end
/-! ### ints -/
noncomputable def iT (ns : List Int) : List T := ns.map T.int
theorem iT_length {ns : List Int} : (iT ns).length = ns.length := List.length_map ..
theorem toDs_ints : ∀ ns : List Int, toDs (iT ns) = ns.map PyData.int
  | [] => by unfold iT; rfl
  | n :: r => by
    show toDs (T.int n :: iT r) = _
    unfold toDs
    rw [toDs_ints r]
    unfold toD
    rfl
theorem lay_ints : ∀ ns : List Int, PyData.canLayAll0 (toDs (iT ns)) = true
  | [] => rfl
  | n :: r => by
    show PyData.canLayAll0 (toDs (T.int n :: iT r)) = true
    unfold toDs toD PyData.canLayAll0
    rw [lay_ints r]
    simp [PyData.canLay0]
theorem depth_ints : ∀ ns : List Int, PyData.depthAll (toDs (iT ns)) = 0
  | [] => rfl
  | n :: r => by
    show PyData.depthAll (toDs (T.int n :: iT r)) = 0
    unfold toDs toD PyData.depthAll
    rw [depth_ints r]
    simp [PyData.depth]
theorem eqv_ints : ∀ ns ms : List Int, PyData.eqvAll (toDs (iT ns)) (toDs (iT ms)) = decide (ns = ms) := fun ns ms => by
  rw [toDs_ints, toDs_ints]
  induction ns generalizing ms with
  | nil => cases ms <;> simp [PyData.eqvAll]
  | cons a r ih =>
    cases ms with
    | nil => simp [PyData.eqvAll]
    | cons b q =>
      simp only [List.map_cons, PyData.eqvAll, PyData.eqv, ih q]
      by_cases h : a = b <;> by_cases h' : r = q <;> simp [h, h']
theorem IsL.ints {H : Hp} : ∀ {ns : List Int} {xs : List V}, IsL H (iT ns) xs ↔ xs = ns.map V.int
  | [], xs => Iff.rfl
  | n :: r, xs => by
    constructor
    · rintro ⟨v, vs, rfl, h1, h2⟩
      rw [IsL.ints.mp h2, show v = .int n from h1]
      rfl
    · rintro rfl
      exact ⟨_, _, rfl, rfl, IsL.ints.mpr rfl⟩
theorem lay_tup (ns : List Int) : (toD (.tup (iT ns))).canLay0 = true := by unfold toD PyData.canLay0; exact lay_ints ns
/-- two tuples of ints -/
noncomputable def tt (ps ns : List Int) : T := .tup [.tup (iT ps), .tup (iT ns)]
/-! ### range(n) as a value, list(range(n)) -/
section
variable {X : Cx}
end
end L2

namespace L2
open PySem PySem.Spec PyProof.Rows
section
variable {X : Cx}
end
end L2

namespace L2
open PySem PySem.Spec PyProof.Rows
section
variable {prog : Program} {w : World} {A : Around} {E : Value → Shared → Prop} {s : Shared}
end
/-! ### zip(tuple, tuple, strict=True), its target a tuple of names -/
theorem tupAt {P : Program} {w : World} {H : Hp} {h : Heap} {a : Addr} {xs : List V} (ok : HOk P w H h) (e : H a = some (.tup xs)) : ∃ its : List Value, Vals xs its ∧ h.IsTuple a its.toArray := by
  obtain ⟨_, its, r, t, _⟩ := (show ObjOk P w H h a (.tup xs) from ok a _ e)
  exact ⟨its, r, t⟩
end L2

namespace L2
open PySem PySem.Spec PyProof.Rows
section
variable {prog : Program} {w : World} {A : Around} {E : Value → Shared → Prop} {s : Shared}
end
end L2

namespace L2
open PySem PySem.Spec PyProof.Rows
section
variable {X : Cx}
end
end L2

namespace L2
open PySem PySem.Spec PyProof.Rows
section
variable {a b : Addr} {xs zs : List V} {g : TG} {tc : TT} {te : TE} {k : Nat} {cap : List Nat} {σ : St} {H : Hp} {Q : VK}
end
section
variable {X : Cx}
/-- any(list of truths) -/
theorem call_any (hc : X.calm = true) : CallR X (.builtin "any") (fun xs H Q => ∃ (a : Addr) (bs : List Bool), xs = [.ref a] ∧ SqL X.K H a (bs.map V.bl) ∧ Q (.bl (bs.any id)) H) := by
  intro pins s σ H xs us Q I r h
  obtain ⟨a, bs, rfl, hq, q⟩ := h
  obtain ⟨u, rfl, rx⟩ := vals1 r
  cases rx
  obtain ⟨its, rv, p, hz⟩ := I.list hq
  have hlt : a < s.heap.objs.size := by obtain ⟨_, e, _⟩ := p.isList; exact Heap.lt_size e
  have hl := rv.length
  rw [List.length_map] at hl
  refine call_any_walk (wpAny_pyIter_list p.isList ?_)
  refine ⟨s.heap.objs.size, _, _, _, _, _, fun i => (bs[i]?).getD false, rfl, Walks.list (A := X.A.in1) (show X.A.in1.handled = none from I.ok.hd hc) s.heap.objs.size a (Nat.ne_of_lt hlt) its.toArray, ⟨⟨_, Heap.get?_push_size _ rfl, rfl, rfl⟩, p.isList.push _⟩, ?_, fun h' tk hk => ?_⟩
  · intro i v s' Q' E' hP hQ'
    have hP : its[i]? = some v := by simpa using hP
    cases e : bs[i]? with
    | none =>
      have := List.getElem?_eq_none_iff.mp e
      have h2 : its[i]? = none := List.getElem?_eq_none_iff.mpr (by omega)
      rw [h2] at hP
      cases hP
    | some b =>
      obtain ⟨u, hu, ru⟩ := rv.get (i := i) (x := V.bl b) (by rw [List.getElem?_map, e]; rfl)
      rw [hu] at hP
      cases hP
      cases (show v = Value.bool b from ru)
      dsimp only at hQ'
      rw [e] at hQ'
      exact wpAny_pure hQ'
  · have e : ((List.range its.toArray.size).any fun i => (bs[i]?).getD false) = bs.any id := by
      rw [List.size_toArray, ← hl]
      clear q hq rv hl
      rw [Bool.eq_iff_iff, List.any_eq_true, List.any_eq_true]
      constructor
      · rintro ⟨i, hi, h⟩
        have hi := List.mem_range.mp hi
        exact ⟨bs[i], List.getElem_mem hi, by simpa [hi] using h⟩
      · rintro ⟨x, hx, h⟩
        obtain ⟨i, hi, rfl⟩ := List.mem_iff_getElem.mp hx
        exact ⟨i, List.mem_range.mpr hi, by simpa [hi] using h⟩
    rw [e]
    refine ⟨.bl (bs.any id), H, I.kept fun b o e => hk b o (fun hb => ?_) (Heap.get?_push_of_some _ e), rfl, q⟩
    have z : b = s.heap.objs.size := by simpa using hb
    exact absurd (Heap.lt_size e) (by rw [z]; exact Nat.lt_irrefl _)
theorem cnt_aux (A : Around) (s : Shared) (hu : A.units + 40 < cLine) {x : Value} {d : PyData} {bs : List Addr} (rb : Reads s.heap x d bs) (lb : d.canLay0 = true) (db : d.depth ≤ 20) {e : Value → Bool} (he : ∀ u t as, Reads s.heap u (toD t) as → (toD t).canLay0 = true → e u = PyData.eqv (toD t) d) : ∀ {us : List Value} {ts : List T} {as : List Addr}, ReadsAll s.heap us (toDs ts) as → PyData.canLayAll0 (toDs ts) = true →
    (∀ u ∈ us, SeqAt.EqAt A s u x (e u)) ∧ us.countP e = ts.countP fun t => PyData.eqv (toD t) d
  | us, [], as, r, _ => by
    unfold toDs at r
    cases r
    exact ⟨fun u h => (by simp at h), rfl⟩
  | us, t :: ts, as, r, l => by
    unfold toDs at r l
    have l : (toD t).canLay0 = true ∧ PyData.canLayAll0 (toDs ts) = true := by simpa [PyData.canLayAll0] using l
    cases r with
    | cons r1 r2 =>
      obtain ⟨h1, h2⟩ := cnt_aux A s hu rb lb db he r2 l.2
      have e1 := he _ _ _ r1 l.1
      refine ⟨fun u hm => ?_, ?_⟩
      · rcases List.mem_cons.mp hm with rfl | hm
        · rw [e1]
          exact SeqAt.eqAt_reads _ _ A s _ _ _ _ r1 rb l.1 lb (by omega)
        · exact h1 u hm
      · rw [List.countP_cons, List.countP_cons, h2, e1]
open Classical in
end
end L2

namespace L2
open PySem PySem.Spec PyProof.Rows
section
variable {X : Cx} {o e : Expr} {es : List Expr} {to : TE} {t : TA} {name : Str} {apos cpos : Pos} {id : String} {r : V → List V → Hp → VK → Prop}
end
end L2
namespace L2
open PySem PySem.Spec PyProof.Rows
/-- two trees compared, the right one flat -/
noncomputable def rTrR (f : Bool → Bool) : R2 := fun x y H Q => ∃ t u, Is H t x ∧ Is H u y ∧ (toD t).canLay0 = true ∧ (toD u).canLay0 = true ∧ (toD u).depth ≤ 20 ∧ Q (.bl (f (PyData.eqv (toD t) (toD u)))) H
section
variable {X : Cx}
theorem op_eqTrR (hu : X.A.units + 64 < cLine) : OpR X (compareOp .Eq) (rTrR id) := by
  intro pins s σ H x y v u Q I rx ry h
  obtain ⟨t, t', h1, h2, l1, l2, d, q⟩ := h
  obtain ⟨as, ra⟩ := reads_is I l1 h1 rx
  obtain ⟨bs, rb⟩ := reads_is I l2 h2 ry
  exact SeqAt.rcAt_reads ra rb l1 l2 (by omega) X.prog X.w _ _ ⟨.bl _, H, I, rfl, q⟩
end
end L2

namespace L2
open PySem PySem.Spec PyProof.Rows PySem.W

/-! ### the sort's questions, answered by a table -/
noncomputable def kasRun (lt : Nat → Nat → Bool) {α : Type} : KasT α → α
  | .ret a => a
  | .ask i j k => kasRun lt (k (lt i j))
noncomputable def kasIn (n : Nat) (lt : Nat → Nat → Bool) {α : Type} : KasT α → Prop
  | .ret _ => True
  | .ask i j k => i < n ∧ j < n ∧ kasIn n lt (k (lt i j))
section
variable {n : Nat} {lt : Nat → Nat → Bool}
theorem kasRun_bind {α β : Type} {f : α → KasT β} : ∀ t : KasT α, kasRun lt (t.bind f) = kasRun lt (f (kasRun lt t))
  | .ret _ => rfl
  | .ask i j k => kasRun_bind (k (lt i j))
theorem kasIn_bind {α β : Type} {f : α → KasT β} : ∀ {t : KasT α}, kasIn n lt t → kasIn n lt (f (kasRun lt t)) → kasIn n lt (t.bind f)
  | .ret _, _, h => h
  | .ask i j k, h, g => ⟨h.1, h.2.1, kasIn_bind (t := k (lt i j)) h.2.2 g⟩
theorem kasWp_of {α : Type} {cmp : Nat → Nat → (Bool → Shared → Prop) → Shared → Prop} {Q : α → Shared → Prop} {s : Shared} (hc : ∀ i j, i < n → j < n → ∀ C : Bool → Shared → Prop, C (lt i j) s → cmp i j C s) :
    ∀ {t : KasT α}, kasIn n lt t → Q (kasRun lt t) s → t.kasWp cmp Q s
  | .ret _, _, q => q
  | .ask i j k, h, q => hc i j h.1 h.2.1 _ (kasWp_of hc (t := k (lt i j)) h.2.2 q)
/-- a turning about of 0, 1, .. n - 1 -/
noncomputable def PermN (n : Nat) (p : Array Nat) : Prop := p.toList.Perm (List.range n)
theorem PermN.bd {p : Array Nat} (h : PermN n p) (h0 : 0 < n) (k : Nat) : p.getD k 0 < n := by
  by_cases hk : k < p.size
  · have e : p.getD k 0 = p[k] := by simp [Array.getD, hk]
    rw [e]
    have hm : p[k] ∈ p.toList := by simp
    exact List.mem_range.mp (h.mem_iff.mp hm)
  · have e : p.getD k 0 = 0 := by simp [Array.getD, hk]
    rw [e]; exact h0
theorem PermN.rev {p : Array Nat} (h : PermN n p) (i j : Nat) : PermN n (kas_rev p i j) := (mirror_perm p i j _).toList.trans h
theorem PermN.bub {p : Array Nat} (h : PermN n p) (i j : Nat) : PermN n (bubble p i j) := (bubble_perm p i j).toList.trans h
theorem asc_in (h0 : 0 < n) {p : Array Nat} (h : PermN n p) : ∀ f m, kasIn n lt (kas_asc p f m)
  | 0, _ => trivial
  | f + 1, m => by
    refine ⟨h.bd h0 _, h.bd h0 _, ?_⟩
    dsimp only
    split
    · trivial
    · exact asc_in h0 h f (m + 1)
theorem desc_in (h0 : 0 < n) : ∀ f {p : Array Nat} m q, PermN n p → kasIn n lt (kas_desc f p m q) ∧ PermN n (kasRun lt (kas_desc f p m q)).1
  | 0, _, _, _, h => ⟨trivial, h⟩
  | f + 1, p, m, q, h => by
    unfold kas_desc
    show (_ ∧ _ ∧ kasIn n lt (ite _ _ _)) ∧ PermN n (kasRun lt (ite _ _ _ : KasT (Array Nat × Nat × Nat))).1
    split
    · split
      · obtain ⟨a, b⟩ := desc_in h0 f (m + 1) 0 (h.rev (m - (q + 1)) m)
        exact ⟨⟨h.bd h0 _, h.bd h0 _, a⟩, b⟩
      · obtain ⟨a, b⟩ := desc_in h0 f (m + 1) 0 h
        exact ⟨⟨h.bd h0 _, h.bd h0 _, a⟩, b⟩
    · show (_ ∧ _ ∧ (_ ∧ _ ∧ kasIn n lt (ite _ _ _))) ∧ PermN n (kasRun lt (ite _ _ _ : KasT (Array Nat × Nat × Nat))).1
      split
      · exact ⟨⟨h.bd h0 _, h.bd h0 _, h.bd h0 _, h.bd h0 _, trivial⟩, h⟩
      · obtain ⟨a, b⟩ := desc_in h0 f (m + 1) (q + 1) h
        exact ⟨⟨h.bd h0 _, h.bd h0 _, h.bd h0 _, h.bd h0 _, a⟩, b⟩
theorem tail3_in (h0 : 0 < n) {p : Array Nat} (h : PermN n p) (m r : Nat) : kasIn n lt (kas_tail3 m r p) ∧ PermN n (kasRun lt (kas_tail3 m r p)).2 := by
  unfold kas_tail3
  refine ⟨kasIn_bind (asc_in h0 (h.rev 0 m) _ _) trivial, ?_⟩
  rw [kasRun_bind]
  exact h.rev 0 m
theorem descPart_in (h0 : 0 < n) {p : Array Nat} (h : PermN n p) (m r : Nat) : kasIn n lt (kas_descPart m r p) ∧ PermN n (kasRun lt (kas_descPart m r p)).2 := by
  unfold kas_descPart
  obtain ⟨a, b⟩ := desc_in (lt := lt) h0 (r - (m + 1)) (m + 1) 0 h
  generalize kas_desc (r - (m + 1)) p (m + 1) 0 = t at a b
  have hh : kasIn n lt (if (kasRun lt t).2.2 > 0 then kas_tail3 (kasRun lt t).2.1 r (kas_rev (kasRun lt t).1 ((kasRun lt t).2.1 - ((kasRun lt t).2.2 + 1)) (kasRun lt t).2.1) else kas_tail3 (kasRun lt t).2.1 r (kasRun lt t).1) ∧
      PermN n (kasRun lt (if (kasRun lt t).2.2 > 0 then kas_tail3 (kasRun lt t).2.1 r (kas_rev (kasRun lt t).1 ((kasRun lt t).2.1 - ((kasRun lt t).2.2 + 1)) (kasRun lt t).2.1) else kas_tail3 (kasRun lt t).2.1 r (kasRun lt t).1)).2 := by
    split
    · exact tail3_in h0 (b.rev _ _) _ _
    · exact tail3_in h0 b _ _
  refine ⟨kasIn_bind a hh.1, ?_⟩
  rw [kasRun_bind]
  exact hh.2
theorem count_in (h0 : 0 < n) {p : Array Nat} (h : PermN n p) (r : Nat) : kasIn n lt (kas_count r p) ∧ PermN n (kasRun lt (kas_count r p)).2 := by
  unfold kas_count
  have a := asc_in (lt := lt) h0 h (r - 1) 1
  generalize kas_asc p (r - 1) 1 = t at a
  generalize hm : kasRun lt t = m
  have hh : kasIn n lt (if (m == r) = true then KasT.ret (m, p) else if m > 1 then KasT.ask (p.getD 0 0) (p.getD (m - 1) 0) fun c => if c = true then KasT.ret (m, p) else kas_descPart m r (kas_rev p 0 m) else kas_descPart m r p) ∧
      PermN n (kasRun lt (if (m == r) = true then KasT.ret (m, p) else if m > 1 then KasT.ask (p.getD 0 0) (p.getD (m - 1) 0) fun c => if c = true then KasT.ret (m, p) else kas_descPart m r (kas_rev p 0 m) else kas_descPart m r p)).2 := by
    split
    · exact ⟨trivial, h⟩
    · split
      · show (_ ∧ _ ∧ kasIn n lt (ite _ _ _)) ∧ PermN n (kasRun lt (ite _ _ _ : KasT (Nat × Array Nat))).2
        split
        · exact ⟨⟨h.bd h0 _, h.bd h0 _, trivial⟩, h⟩
        · obtain ⟨x, y⟩ := descPart_in (lt := lt) h0 (h.rev 0 m) m r
          exact ⟨⟨h.bd h0 _, h.bd h0 _, x⟩, y⟩
      · exact descPart_in h0 h m r
  subst hm
  refine ⟨kasIn_bind a hh.1, ?_⟩
  rw [kasRun_bind]
  exact hh.2
theorem place_in (h0 : 0 < n) {p : Array Nat} (h : PermN n p) (k : Nat) : ∀ f l r, kasIn n lt (kas_place p k f l r)
  | 0, _, _ => trivial
  | f + 1, l, r => by
    unfold kas_place
    split
    · trivial
    · refine ⟨h.bd h0 _, h.bd h0 _, ?_⟩
      dsimp only
      split
      · exact place_in h0 h k f _ _
      · exact place_in h0 h k f _ _
theorem bin_in (h0 : 0 < n) : ∀ f {p : Array Nat} k, PermN n p → kasIn n lt (kas_bin f p k) ∧ PermN n (kasRun lt (kas_bin f p k))
  | 0, _, _, h => ⟨trivial, h⟩
  | f + 1, p, k, h => by
    unfold kas_bin
    obtain ⟨a, b⟩ := bin_in h0 f (k + 1) (h.bub k (k - kasRun lt (kas_place p k k 0 k)))
    refine ⟨kasIn_bind (place_in h0 h k k 0 k) a, ?_⟩
    rw [kasRun_bind]
    exact b
theorem sort_in (h0 : 0 < n) : kasIn n lt (kas_sort n) ∧ PermN n (kasRun lt (kas_sort n)) := by
  unfold kas_sort
  have hr : PermN n (List.toArray (List.range n)) := List.Perm.refl _
  obtain ⟨a, b⟩ := count_in (lt := lt) h0 hr n
  generalize kas_count n (List.toArray (List.range n)) = t at a b
  have hh : kasIn n lt (if (kasRun lt t).1 < n then kas_bin (n - max (kasRun lt t).1 1) (kasRun lt t).2 (max (kasRun lt t).1 1) else KasT.ret (kasRun lt t).2) ∧
      PermN n (kasRun lt (if (kasRun lt t).1 < n then kas_bin (n - max (kasRun lt t).1 1) (kasRun lt t).2 (max (kasRun lt t).1 1) else KasT.ret (kasRun lt t).2)) := by
    split
    · exact bin_in h0 _ _ b
    · exact ⟨trivial, b⟩
  refine ⟨kasIn_bind a hh.1, ?_⟩
  rw [kasRun_bind]
  exact hh.2
end
end L2

namespace L2
open PySem PySem.Spec PyProof.Rows PySem.W

/-- who answers the sort's questions over the heap h: what was there is there still, nothing is changed -/
structure Orac (P : Program) (w : World) (h : Heap) (vs : List Value) (κ : SortKind) (lt : Nat → Nat → Bool) : Prop where
  kind : ∀ (A : Around) (s : Shared) (E : Value → Shared → Prop) (Q : SortKind → Shared → Prop), (∀ b o, h.get? b = some o → s.heap.get? b = some o) → Q κ s → wpAny (model P w) A (keyKind' vs.toArray) Q E s
  ask : ∀ i j, i < vs.length → j < vs.length → ∀ (A : Around) (s : Shared) (E : Value → Shared → Prop) (Q : Bool → Shared → Prop), (∀ b o, h.get? b = some o → s.heap.get? b = some o) → Q (lt i j) s → wpAny (model P w) A (keyLt' κ (vs.getD i Value.none) (vs.getD j Value.none)) Q E s
theorem map_getD_range {α : Type} (vs : List α) (d : α) : (List.range vs.length).map (fun i => vs.getD i d) = vs := by
  refine List.ext_getElem (by simp) fun i h1 h2 => ?_
  have e : vs[i]? = some vs[i] := List.getElem?_eq_getElem h2
  simp [e]
section
variable {prog : Program} {w : World} {A : Around} {E : Value → Shared → Prop} {s : Shared} {h0 : Heap} {vs : List Value} {κ : SortKind} {lt : Nat → Nat → Bool}
/-- what the sort makes of the list -/
noncomputable def sortOut (lt : Nat → Nat → Bool) (vs : List Value) : List Value := if vs.length < 2 then vs else (kasRun lt (kas_sort vs.length)).toList.map fun i => vs.getD i Value.none
theorem sortOut_perm : (sortOut lt vs).Perm vs := by
  unfold sortOut
  split
  · exact List.Perm.refl _
  · rename_i h
    have p := (sort_in (n := vs.length) (lt := lt) (by omega)).2
    exact (List.Perm.map (fun i => vs.getD i Value.none) p).trans (List.Perm.of_eq (map_getD_range vs Value.none))
theorem list_sort_by {a : Addr} {n : Nat} {P : PySem.Fin → Shared → Prop} (ho : s.heap.get? a = some (seqObj "list" vs.toArray n)) (h64 : vs.length < 64) (O : 2 ≤ vs.length → Orac prog w h0 vs κ lt)
    (hk : ∀ b o, h0.get? b = some o → b ≠ a ∧ s.heap.get? b = some o) (h : P (.done (.ret .none)) { s with heap := sortedHeap s.heap a vs (sortOut lt vs).toArray }) :
    wpAny (model prog w) A (Builtin.«list.sort» ⟨[.ref a], []⟩) P E s := by
  have la := Heap.lt_size ho
  rw [list_sort_plain]
  refine wpAny_bind (listItems_at ho rfl (wpAny_bind (listUpdate_at ho rfl ?_ (by rw [List.size_toArray, sizeLine_eq]; omega) (Nat.zero_le _))))
  have hu := get?_update_seq ho (fun _ => (#[] : Array Value))
  generalize (if (#[] : Array Value).size == vs.toArray.size then n else n + 1) = e1 at hu
  refine wpAny_bind (seqEpoch_at hu rfl (wpAny_bind (wpAny_newTuple (wpAny_bind (wpAny_newList (wpAny_holding ?_) (Nat.zero_le _))) (by show vs.length ≤ _; rw [sizeLine_eq]; omega))))
  have g6 : (((s.heap.update a (Obj.mapSeq fun _ => (#[] : Array Value))).push (seqObj "tuple" vs.toArray 0)).push (seqObj "list" #[] 0)).get? a = some (seqObj "list" #[] e1) := Heap.get?_push_of_some _ (Heap.get?_push_of_some _ hu)
  have k6 : ∀ b o, h0.get? b = some o → (((s.heap.update a (Obj.mapSeq fun _ => (#[] : Array Value))).push (seqObj "tuple" vs.toArray 0)).push (seqObj "list" #[] 0)).get? b = some o := fun b o e => by
    obtain ⟨n1, e1⟩ := hk b o e
    exact Heap.get?_push_of_some _ (Heap.get?_push_of_some _ (by rw [Heap.get?_update_ne _ _ _ _ n1]; exact e1))
  show wpAny (model prog w) A _ P E { s with heap := (((s.heap.update a (Obj.mapSeq fun _ => (#[] : Array Value))).push (seqObj "tuple" vs.toArray 0)).push (seqObj "list" #[] 0)) }
  dsimp only
  by_cases hn : vs.length < 2
  · have hn' : vs.toArray.size < 2 := by rw [List.size_toArray]; exact hn
    have eo : sortOut lt vs = vs := by unfold sortOut; rw [if_pos hn]
    rw [if_pos hn', if_pos hn']
    refine wpAny_bind (wpAny_pure ?_)
    rw [StateT.run_pure]
    refine wpAny_bind (wpAny_pure ?_)
    dsimp only
    have eout : (arrOf (SortSt.mk' general' (vs.toArray.zip vs.toArray) #[] 7 none)).map (·.2) = vs.toArray := by
      show (vs.toArray.zip vs.toArray).map (·.2) = vs.toArray
      refine Array.ext (by simp) fun i h1 h2 => by simp
    rw [eout]
    refine wpAny_bind (seqEpoch_at g6 rfl (wpAny_bind (listUpdate_at g6 rfl ?_ (Nat.zero_le _) (by show vs.toArray.size ≤ _; rw [List.size_toArray, sizeLine_eq]; omega))))
    simp only [bne_self_eq_false, Bool.false_eq_true, if_false]
    rw [eo] at h
    exact wpAny_pure h
  · have hn' : ¬ vs.toArray.size < 2 := by rw [List.size_toArray]; exact hn
    have O := O (by omega)
    have eo : sortOut lt vs = (kasRun lt (kas_sort vs.length)).toList.map fun i => vs.getD i Value.none := by unfold sortOut; rw [if_neg hn]
    obtain ⟨ti, tp⟩ := sort_in (n := vs.length) (lt := lt) (by omega)
    rw [if_neg hn', if_neg hn']
    refine wpAny_bind (O.kind _ _ _ _ k6 ?_)
    generalize hS : ({ s with heap := (((s.heap.update a (Obj.mapSeq fun _ => (#[] : Array Value))).push (seqObj "tuple" vs.toArray 0)).push (seqObj "list" #[] 0)) } : Shared) = S at *
    have hSh : S.heap = (((s.heap.update a (Obj.mapSeq fun _ => (#[] : Array Value))).push (seqObj "tuple" vs.toArray 0)).push (seqObj "list" #[] 0)) := by rw [← hS]
    have run := kat_run (prog := prog) (w := w) (A := A) (E := E) (κ := κ) (ks := vs) (vs := vs) (s := S) (G := fun p s' => s' = S ∧ p = kasRun lt (kas_sort vs.length))
      (Q := fun st' s' => s' = S ∧ failedOf st' = none ∧ arrOf st' = (kasRun lt (kas_sort vs.length)).map (kas_item (vs.toArray.zip vs.toArray))) rfl (by omega) h64
      (fun p st' s' _ h2 h3 h4 => ⟨h4.1, h3, by rw [← h4.2]; exact h2⟩)
      (kasWp_of (n := vs.length) (lt := lt) (fun i j hi hj C hC => O.ask i j hi hj _ _ _ _ (by rw [hSh]; exact k6) hC) ti ⟨rfl, rfl⟩)
    refine wpAny_bind (wpAny_mono run ?_ fun _ _ x => x)
    rintro ⟨⟨⟩, st'⟩ s' ⟨rfl, hf, har⟩
    dsimp only
    have eout : (arrOf st').map (·.2) = (sortOut lt vs).toArray := by rw [eo]; exact kat_snds rfl har
    have hlen : (sortOut lt vs).length = vs.length := sortOut_perm.length_eq
    rw [eout]
    rw [← hSh] at g6
    refine wpAny_bind (seqEpoch_at g6 rfl (wpAny_bind (listUpdate_at g6 rfl ?_ (Nat.zero_le _) (by show (sortOut lt vs).toArray.size ≤ _; rw [List.size_toArray, hlen, sizeLine_eq]; omega))))
    rw [hf]
    simp only [bne_self_eq_false, Bool.false_eq_true, if_false]
    rw [← hS]
    exact wpAny_pure h
theorem sorted_by {l : Addr} {Q : Value → Shared → Prop} (hl : s.heap.IsList l vs.toArray) (h64 : vs.length < 64) (O : 2 ≤ vs.length → Orac prog w s.heap vs κ lt)
    (h : Q (.ref (s.heap.objs.size + 1)) { s with heap := sortedAll s.heap vs (sortOut lt vs).toArray }) : wpAny (model prog w) A (call (.builtin "sorted") [.ref l]) Q E s := by
  refine Calls.call_function_entry kind_sorted plain_sorted entry_sorted (args_sorted1 _) ?_
  unfold Builtin.«sorted»
  refine wpAny_bind (m := checkCount "sorted" 1 1 _) (wpAny_pure (wpAny_bind (collect_list hl (wpAny_bind (wpAny_newList ?_ (by rw [sizeLine_eq]; omega))) (by rw [sizeLine_eq]; omega))))
  have hz : ((s.heap.push (seqObj "list" #[] 0)).update s.heap.objs.size (Obj.mapSeq (· ++ vs.toArray))).objs.size = s.heap.objs.size + 1 := by rw [Heap.size_update, size_push']
  have gL : (((s.heap.push (seqObj "list" #[] 0)).update s.heap.objs.size (Obj.mapSeq (· ++ vs.toArray))).push (seqObj "list" vs.toArray 0)).get? (s.heap.objs.size + 1) = some (seqObj "list" vs.toArray 0) := by rw [← hz]; exact Heap.get?_push_size _ rfl
  show wpAny _ _ _ _ _ { s with heap := (((s.heap.push (seqObj "list" #[] 0)).update s.heap.objs.size (Obj.mapSeq (· ++ vs.toArray))).push (seqObj "list" vs.toArray 0)) }
  rw [hz]
  refine wpAny_bind (wpAny_holding (wpAny_call_entry slot_list_sort ⟨_, gL, rfl⟩ entry_list_sort (list_sort_by (h0 := s.heap) gL h64 O (fun b o e => ?_) ⟨_, rfl, wpAny_pure ⟨_, rfl, h⟩⟩) (args_list_sort _)))
  have hb := Heap.lt_size e
  refine ⟨Nat.ne_of_lt (Nat.lt_succ_of_lt hb), ?_⟩
  rw [Heap.get?_push_ne _ _ _ (by rw [hz]; exact Nat.ne_of_lt (Nat.lt_succ_of_lt hb)), Heap.get?_update_ne _ _ _ _ (Nat.ne_of_lt hb), Heap.get?_push_ne _ _ _ (Nat.ne_of_lt hb)]
  exact e
end
end L2

namespace L2
open PySem PySem.Spec PyProof.Rows PySem.W

/-! ### tuples of ints, sorted -/
noncomputable def tI (g : List Int) : T := .tup (iT g)
noncomputable def lexZ (fin : Bool) : List Int → List Int → Bool
  | p :: r, q :: t => if (p == q) = true then lexZ fin r t else decide (p < q)
  | _, _ => fin
noncomputable def TupI (h : Heap) (v : Value) (g : List Int) : Prop := ∃ a o n, ∃ us : List Value, v = .ref a ∧ h.get? a = some o ∧ o.cls = .type "tuple" ∧ o.data = .seq us.toArray n ∧ Vals (g.map V.int) us
theorem paired_perm {α β : Type} {R : α → β → Prop} : ∀ {us us' : List β}, us'.Perm us → ∀ {xs : List α}, Paired R xs us → ∃ xs', xs'.Perm xs ∧ Paired R xs' us' := by
  intro us us' p
  induction p with
  | nil => exact fun h => ⟨_, List.Perm.refl _, h⟩
  | cons u p ih =>
    intro xs h
    cases h with
    | cons r t =>
      obtain ⟨xs', q, h'⟩ := ih t
      exact ⟨_ :: xs', q.cons _, .cons r h'⟩
  | swap u v l =>
    intro xs h
    cases h with
    | cons r t => cases t with
      | cons r' t' => exact ⟨_, List.Perm.swap _ _ _, .cons r' (.cons r t')⟩
  | trans p q ih1 ih2 =>
    intro xs h
    obtain ⟨x1, q1, h1⟩ := ih2 h
    obtain ⟨x2, q2, h2⟩ := ih1 h1
    exact ⟨x2, q2.trans q1, h2⟩
theorem IsL.perm {H : Hp} {xs xs' : List V} (p : xs'.Perm xs) : ∀ {ts : List T}, IsL H ts xs → ∃ ts', ts'.Perm ts ∧ IsL H ts' xs' := by
  induction p with
  | nil => exact fun h => ⟨_, List.Perm.refl _, h⟩
  | cons u p ih =>
    intro ts h
    cases ts with
    | nil => cases h
    | cons t ts =>
      obtain ⟨v, vs, e, h1, h2⟩ := h
      cases e
      obtain ⟨ts', q, h'⟩ := ih h2
      exact ⟨t :: ts', q.cons t, u, _, rfl, h1, h'⟩
  | swap u v l =>
    intro ts h
    cases ts with
    | nil => cases h
    | cons t ts =>
      obtain ⟨_, _, e, h1, h2⟩ := h
      cases e
      cases ts with
      | nil => cases h2
      | cons t2 ts =>
        obtain ⟨_, _, e, h3, h4⟩ := h2
        cases e
        exact ⟨t2 :: t :: ts, List.Perm.swap _ _ _, _, _, rfl, h3, _, _, rfl, h1, h4⟩
  | trans p q ih1 ih2 =>
    intro ts h
    obtain ⟨t1, q1, h1⟩ := ih2 h
    obtain ⟨t2, q2, h2⟩ := ih1 h1
    exact ⟨t2, q2.trans q1, h2⟩
theorem perm_map {α β : Type} {f : α → β} {ys : List β} {l : List β} (p : ys.Perm l) : ∀ {xs : List α}, l = xs.map f → ∃ xs' : List α, ys = xs'.map f ∧ xs'.Perm xs := by
  induction p with
  | nil =>
    intro xs e
    exact ⟨[], rfl, by cases xs with | nil => exact List.Perm.refl _ | cons => cases e⟩
  | cons u p ih =>
    intro xs e
    cases xs with
    | nil => cases e
    | cons x xs =>
      injection e with e1 e2
      obtain ⟨xs', e', q⟩ := ih e2
      exact ⟨x :: xs', by rw [e', e1]; rfl, q.cons x⟩
  | swap u v l =>
    intro xs e
    match xs, e with
    | x :: y :: xs, e =>
      injection e with e1 e2
      injection e2 with e3 e4
      exact ⟨y :: x :: xs, by rw [e1, e3, e4]; rfl, List.Perm.swap _ _ _⟩
  | trans p q ih1 ih2 =>
    intro xs e
    obtain ⟨x1, e1, q1⟩ := ih2 e
    obtain ⟨x2, e2, q2⟩ := ih1 e1
    exact ⟨x2, e2, q2.trans q1⟩
section
variable {prog : Program} {w : World} {A : Around} {E : Value → Shared → Prop} {s : Shared}
theorem lex_ints {b fin : Bool} {Q : Bool → Shared → Prop} : ∀ {g g' : List Int} {us us' : List Value} (i : Nat), Vals (g.map V.int) us → Vals (g'.map V.int) us' → Q (lexZ fin g g') s → KatLex prog w A b fin Q (us.zip us') i s
  | [], _, _, _, i, .nil, _, q => q
  | _ :: _, [], _, _, i, .cons _ _, .nil, q => q
  | p :: r, q' :: t, _, _, i, .cons h1 h2, .cons k1 k2, q => by
    obtain ⟨x, rfl⟩ := h1
    obtain ⟨y, rfl⟩ := k1
    refine kat_cons (wpAny_eqBool_int ?_)
    have q : Q (if (p == q') = true then lexZ fin r t else decide (p < q')) s := q
    by_cases c : (p == q') = true
    · rw [if_pos c] at q
      rw [c]
      exact kat_yes (lex_ints (i + 1) h2 k2 q)
    · rw [if_neg c] at q
      rw [Bool.eq_false_iff.mpr c]
      refine kat_no ?_
      cases hb : (b && i == 0) with
      | true => exact oneLt_int q
      | false => exact kat_one _ _ (PyProof.Rows.lt_int q)
theorem TupI.keep {h h' : Heap} {v : Value} {g : List Int} (t : TupI h v g) (k : ∀ b o, h.get? b = some o → h'.get? b = some o) : TupI h' v g := by
  obtain ⟨a, o, n, us, e, ho, r⟩ := t
  exact ⟨a, o, n, us, e, k _ _ ho, r⟩
theorem katTups_of {h : Heap} : ∀ {gs : List (List Int)} {vs : List Value}, Paired (fun g v => TupI h v g) gs vs → (∀ g ∈ gs, g ≠ []) → ∃ fs, KatTups h vs fs ∧ fs.length = vs.length ∧ ∀ f ∈ fs, ∃ i t, f = Value.int i t
  | _, _, .nil, _ => ⟨[], trivial, rfl, fun f hf => by cases hf⟩
  | g :: gs, v :: vs, .cons h1 h2, hne => by
    obtain ⟨fs, k, l, hi⟩ := katTups_of h2 fun g' hg => hne g' (List.mem_cons_of_mem _ hg)
    obtain ⟨a, o, n, us, rfl, ho, hc, hd, hv⟩ := h1
    cases g with
    | nil => exact absurd rfl (hne [] List.mem_cons_self)
    | cons i g =>
      cases hv with
      | cons r t =>
        rename_i u us'
        refine ⟨u :: fs, KatTups.cons ho hc hd (by simp) k, by simp [l], fun f hf => ?_⟩
        rcases List.mem_cons.mp hf with rfl | hf
        · obtain ⟨t, rfl⟩ := r
          exact ⟨i, t, rfl⟩
        · exact hi f hf
theorem orac_ints {h : Heap} {gs : List (List Int)} {vs : List Value} (P : Paired (fun g v => TupI h v g) gs vs) (hne : ∀ g ∈ gs, g ≠ []) (h2 : 2 ≤ vs.length) :
    Orac prog w h vs (tuples' true) (fun i j => lexZ (decide ((gs.getD i []).length < (gs.getD j []).length)) (gs.getD i []) (gs.getD j [])) := by
  have at' : ∀ i, i < vs.length → TupI h (vs.getD i Value.none) (gs.getD i []) := by
    clear hne h2
    induction P with
    | nil => intro i hi; simp at hi
    | cons r t ih =>
      intro i hi
      cases i with
      | zero => exact r
      | succ i => exact ih i (by simpa using hi)
  constructor
  · intro A s E Q k q
    obtain ⟨fs, kt, l, hi⟩ := katTups_of P hne
    have kt' : KatTups s.heap vs fs := by
      clear l hi at' q h2 hne P
      revert fs
      induction vs with
      | nil => intro fs kt; cases fs with
        | nil => trivial
        | cons => exact kt.elim
      | cons v vs ih => intro fs kt; cases fs with
        | nil => exact kt.elim
        | cons f fs =>
          obtain ⟨⟨a, o, xs, n, e, ho, r⟩, kt⟩ := kt
          exact ⟨⟨a, o, xs, n, e, k _ _ ho, r⟩, ih fs kt⟩
    refine kat_kind (T := .type "int") kt' (by omega) (fun v hv => ?_) (by rfl) q
    obtain ⟨i, t, rfl⟩ := hi v hv
    exact Looks.now
  · intro i j hi hj A s E Q k q
    obtain ⟨a, o, n, us, e1, ho, hc, hd, hv⟩ := (at' i hi).keep k
    obtain ⟨a', o', n', us', e1', ho', hc', hd', hv'⟩ := (at' j hj).keep k
    rw [e1, e1']
    have l1 := hv.length
    have l2 := hv'.length
    rw [List.length_map] at l1 l2
    refine kat_lt ho hd ho' hd' ?_
    rw [List.size_toArray, List.size_toArray, ← l1, ← l2]
    exact lex_ints 0 hv hv' q
end
section
variable {X : Cx}
theorem IsL.tupI {pins : List (Addr × Obj)} {σ : St} {H : Hp} {s : Shared} (I : Inv X pins σ H s) : ∀ {gs : List (List Int)} {xs : List V} {us : List Value}, IsL H (gs.map tI) xs → Vals xs us → Paired (fun g v => TupI s.heap v g) gs us
  | [], xs, us, h, r => by
    cases (show xs = [] from h); cases r
    exact .nil
  | g :: gs, xs, us, h, r => by
    obtain ⟨v, vs, rfl, h1, h2⟩ := h
    cases r with
    | cons r1 r2 =>
      refine .cons ?_ (IsL.tupI I h2 r2)
      obtain ⟨a, zs, rfl, ha, hz⟩ := h1
      cases (show _ = Value.ref a from r1)
      obtain ⟨its, rv, ⟨o, e, c, n, d⟩, _⟩ := I.tuple (SqT.of ha)
      rw [IsL.ints.mp hz] at rv
      exact ⟨a, o, n, its, rfl, e, c, d, rv⟩
/-- sorted(list of tuples of ints) -/
noncomputable def rSortT (K : PySem.W.Frag) : List V → Hp → VK → Prop := fun as H Q => ∃ (p : Addr) (gs : List (List Int)) (xs : List V), as = [.ref p] ∧ SqL K H p xs ∧ IsL H (gs.map tI) xs ∧ (∀ g ∈ gs, g ≠ []) ∧ gs.length < 64 ∧
  ∀ (gs' : List (List Int)) (xs' : List V) (l : Addr), gs'.Perm gs → IsL H (gs'.map tI) xs' → H l = none → Q (.ref l) (upd H l (.lst xs'))
theorem call_sortT : CallR X (.builtin "sorted") (rSortT X.K) := by
  intro pins s σ H as us Q I r h
  obtain ⟨p, gs, xs, rfl, hq, hi, hne, h64, q⟩ := h
  obtain ⟨u, rfl, rx⟩ := vals1 r
  cases (show u = Value.ref p from rx)
  obtain ⟨its, rv, pl, hz⟩ := I.list hq
  have hl := rv.length
  have hl2 := hi.length
  rw [List.length_map] at hl2
  have PP := IsL.tupI I hi rv
  have hp := sortOut_perm (lt := fun i j => lexZ (decide ((gs.getD i []).length < (gs.getD j []).length)) (gs.getD i []) (gs.getD j [])) (vs := its)
  refine sorted_by pl.isList (by omega) (fun h2 => orac_ints PP hne h2) ?_
  generalize sortOut _ its = out at hp ⊢
  obtain ⟨xs', px, rv'⟩ := paired_perm hp rv
  obtain ⟨ts', pt, hi'⟩ := hi.perm px
  obtain ⟨gs', rfl, pg⟩ := perm_map pt rfl
  obtain ⟨e, he⟩ := sortedAll_at s.heap its out.toArray
  have hlen : xs'.length = gs.length := by rw [px.length_eq, hl2]
  exact ⟨.ref (s.heap.objs.size + 1), upd H (s.heap.objs.size + 1) (.lst xs'), I.laid (t' := s.toks) (fun b o ho => sortedAll_old ho) (Nat.le_succ _) (show ObjOk X.prog X.w _ _ _ (.lst xs') from ⟨by rw [hlen]; exact small_le (by omega), out, e, rv', he⟩), rfl, q gs' xs' _ pg hi' (I.hok.fresh (Nat.le_succ _))⟩
end
end L2

namespace L2
open PySem PySem.Spec PyProof.Rows

/-! ### a tree in a list of trees -/
theorem any_countP {α : Type} (f : α → Bool) : ∀ l : List α, l.any f = decide (0 < l.countP f)
  | [] => rfl
  | a :: l => by
    rw [List.any_cons, any_countP f l, List.countP_cons]
    cases f a <;> simp
noncomputable def rInTr (K : PySem.W.Frag) (neg : Bool) : R2 := fun x y H Q => ∃ (p : Addr) (xs : List V) (ts : List T) (u : T), y = .ref p ∧ SqL K H p xs ∧ IsL H ts xs ∧ Is H u x ∧ (∀ t ∈ ts, (toD t).canLay0 = true) ∧ (toD u).canLay0 = true ∧ (toD u).depth ≤ 20 ∧
  Q (.bl (if neg = true then !(ts.any fun t => PyData.eqv (toD t) (toD u)) else ts.any fun t => PyData.eqv (toD t) (toD u))) H
theorem layAll {ts : List T} (h : ∀ t ∈ ts, (toD t).canLay0 = true) : PyData.canLayAll0 (toDs ts) = true := by
  induction ts with
  | nil => rfl
  | cons t ts ih =>
    unfold toDs
    simp only [PyData.canLayAll0, Bool.and_eq_true]
    exact ⟨h t List.mem_cons_self, ih fun t' h' => h t' (List.mem_cons_of_mem _ h')⟩
section
variable {X : Cx}
open Classical in
theorem inTr_aux {pins : List (Addr × Obj)} {σ : St} {H : Hp} {s : Shared} {x : V} {xs : List V} {v : Value} {us : List Value} {ts : List T} {u : T} (hu : X.A.units + 64 < cLine) (I : Inv X pins σ H s) (rx : RelV x v) (rv : Vals xs us) (hl : IsL H ts xs) (hx : Is H u x)
    (lts : ∀ t ∈ ts, (toD t).canLay0 = true) (lu : (toD u).canLay0 = true) (du : (toD u).depth ≤ 20) : ∃ e : Value → Bool, (∀ y, y ∈ us.toArray → SeqAt.EqAt X.A.in1 s y v (e y)) ∧ us.toArray.any e = ts.any fun t => PyData.eqv (toD t) (toD u) := by
  obtain ⟨bs, rb⟩ := reads_is I lu hx rx
  have la := layAll lts
  obtain ⟨as, ra⟩ := readsAll_is I la hl rv
  let e : Value → Bool := fun z => decide (∃ t as, Reads s.heap z (toD t) as ∧ (toD t).canLay0 = true ∧ PyData.eqv (toD t) (toD u) = true)
  have he : ∀ z t as, Reads s.heap z (toD t) as → (toD t).canLay0 = true → e z = PyData.eqv (toD t) (toD u) := fun z t as rz lz => by
    rw [Bool.eq_iff_iff]
    refine ⟨fun h => ?_, fun h => decide_eq_true ⟨t, as, rz, lz, h⟩⟩
    obtain ⟨t', as', rz', lz', h'⟩ := of_decide_eq_true h
    rw [SeqAt.Reads.unique _ _ _ _ _ lz rz rz']
    exact h'
  have hun : X.A.in1.units = X.A.units + 1 := rfl
  obtain ⟨c1, c2⟩ := cnt_aux X.A.in1 s (by omega) rb lu du he ra la
  refine ⟨e, fun y hy => c1 y (by simpa using hy), ?_⟩
  rw [show us.toArray.any e = us.any e by simp, any_countP, any_countP, c2]
theorem op_notInTr (hu : X.A.units + 64 < cLine) : OpR X (compareOp .NotIn) (rInTr X.K true) := by
  intro pins s σ H x y v u Q I rx ry h
  obtain ⟨p, xs, ts, t, rfl, hq, hl, hx, lts, lu, du, q⟩ := h
  cases ry
  obtain ⟨its, r, pl, hz⟩ := I.list hq
  obtain ⟨e, h1, h2⟩ := inTr_aux hu I rx r hl hx lts lu du
  refine SeqAt.notIn_listAt e pl.isList h1 ⟨.bl _, H, I, rfl, ?_⟩
  rw [h2]
  exact q
end
theorem lay_tI (g : List Int) : (toD (tI g)).canLay0 = true := lay_tup g
theorem depth_tI (g : List Int) : (toD (tI g)).depth ≤ 20 := by unfold tI toD PyData.depth; rw [depth_ints]; decide
theorem eqv_tI (g g' : List Int) : PyData.eqv (toD (tI g)) (toD (tI g')) = decide (g = g') := by unfold tI toD PyData.eqv; exact eqv_ints g g'
theorem any_tI (gs : List (List Int)) (g : List Int) : ((gs.map tI).any fun t => PyData.eqv (toD t) (toD (tI g))) = decide (g ∈ gs) := by
  induction gs with
  | nil => rfl
  | cons a gs ih =>
    rw [List.map_cons, List.any_cons, ih, eqv_tI]
    by_cases c : a = g <;> by_cases d : g ∈ gs <;> simp [c, d, eq_comm]
    · intro z; exact c z.symm
/-! ### tuple(range(n)) -/
section
variable {prog : Program} {w : World} {A : Around} {E : Value → Shared → Prop} {s : Shared}
end
section
variable {X : Cx}
end
end L2

namespace L2
open PySem PySem.Spec PyProof.Rows
/-! ### t[::-1] of a tuple -/
section
variable {prog : Program} {w : World} {A : Around} {E : Value → Shared → Prop} {s : Shared}
end
section
variable {X : Cx}
end
end L2

namespace L2
open PySem PySem.Spec PyProof.Rows
/-! ### lists of trees and tuples of ints, made anew -/
noncomputable def tLstR (t : TA) : TE := fun σ H Q => t σ H fun xs H1 => xs.length ≤ 1000 ∧ ∀ p H', Same H1 H' → H1 p = none → H' p = some (.lst xs) → Q (.ref p) H'
noncomputable def tTupR (t : TA) : TE := fun σ H Q => t σ H fun xs H1 => xs.length ≤ 1000 ∧ ∀ p H', Same H1 H' → H1 p = none → H' p = some (.tup xs) → Q (.ref p) H'
section
variable {X : Cx}
theorem pe_lstR {es : List Expr} {t : TA} {pos : Pos} (h : PA X es t) : PE X (.List es pos) (tLstR t) := by
  intro pins s σ H Q I hq
  refine wpAny_List_spliced (thn (h pos pins s σ H _ I hq) fun us s1 ⟨xs, H1, I1, r, z, q⟩ => ⟨by rw [← r.length]; exact small_le z, ?_⟩)
  have hf : H1 s1.heap.objs.size = none := I1.hok.fresh (Nat.le_refl _)
  exact ⟨.ref s1.heap.objs.size, upd H1 s1.heap.objs.size (.lst xs), I1.laid (t' := s1.toks) (fun b u e => Heap.get?_push_of_some _ e) (Nat.le_refl _) ⟨small_le z, us, 0, r, Heap.get?_push_size _ rfl⟩, rfl, q _ _ (Same.new hf _) hf upd_same⟩
theorem pe_tupR {es : List Expr} {t : TA} {x1} {pos : Pos} (h : PA X es t) : PE X (.Tuple es x1 pos) (tTupR t) := by
  intro pins s σ H Q I hq
  refine wpAny_Tuple_spliced (thn (h pos pins s σ H _ I hq) fun us s1 ⟨xs, H1, I1, r, z, q⟩ => ⟨by rw [← r.length]; exact small_le z, ?_⟩)
  have hf : H1 s1.heap.objs.size = none := I1.hok.fresh (Nat.le_refl _)
  exact ⟨.ref s1.heap.objs.size, upd H1 s1.heap.objs.size (.tup xs), I1.laid (t' := s1.toks) (fun b u e => Heap.get?_push_of_some _ e) (Nat.le_refl _) ⟨small_le z, us, r, IsTup.new _ _, NoD.push⟩, rfl, q _ _ (Same.new hf _) hf upd_same⟩
end
end L2

namespace L2
open PySem PySem.Spec PyProof.Rows PySem.W
/-! ### what the sort makes of unlike things is in order -/
/-- an order of 0, .. n - 1, none alike -/
structure Ord (n : Nat) (lt : Nat → Nat → Bool) : Prop where
  irr : ∀ i, lt i i = false
  tr : ∀ i j k, lt i j = true → lt j k = true → lt i k = true
  tot : ∀ i j, i < n → j < n → i ≠ j → lt i j = true ∨ lt j i = true
noncomputable def Up (lt : Nat → Nat → Bool) (p : Array Nat) (m : Nat) : Prop := ∀ i j, i < j → j < m → lt (p.getD i 0) (p.getD j 0) = true
noncomputable def Dn (lt : Nat → Nat → Bool) (p : Array Nat) (m : Nat) : Prop := ∀ i j, i < j → j < m → lt (p.getD j 0) (p.getD i 0) = true
section
variable {n : Nat} {lt : Nat → Nat → Bool}
theorem PermN.size {p : Array Nat} (h : PermN n p) : p.size = n := by
  have := h.length_eq
  rw [List.length_range, Array.length_toList] at this
  exact this
theorem PermN.ne {p : Array Nat} (h : PermN n p) {i j : Nat} (hi : i < n) (hj : j < n) (hij : i ≠ j) : p.getD i 0 ≠ p.getD j 0 := by
  have hs := h.size
  have nd : p.toList.Nodup := h.nodup_iff.mpr List.nodup_range
  have hi' : i < p.size := by omega
  have hj' : j < p.size := by omega
  have e1 : p.getD i 0 = p[i] := by simp [Array.getD, hi']
  have e2 : p.getD j 0 = p[j] := by simp [Array.getD, hj']
  rw [e1, e2]
  intro z
  have hi2 : i < p.toList.length := by simpa using hi'
  have hj2 : j < p.toList.length := by simpa using hj'
  have z' : p.toList[i] = p.toList[j] := by simpa using z
  rcases Nat.lt_or_gt_of_ne hij with c | c
  · exact (List.pairwise_iff_getElem.mp nd) i j hi2 hj2 c z'
  · exact (List.pairwise_iff_getElem.mp nd) j i hj2 hi2 c z'.symm
theorem getD_rev {p : Array Nat} {m : Nat} (hm : m ≤ p.size) (k : Nat) : (kas_rev p 0 m).getD k 0 = if k < m then p.getD (m - 1 - k) 0 else p.getD k 0 := by
  unfold kas_rev
  have e := getElem?_mirror_all (xs := p) (i := 0) hm k
  rw [Array.getD_eq_getD_getElem?, e]
  by_cases c : k < m
  · rw [if_pos ⟨Nat.zero_le _, c⟩, if_pos c, Array.getD_eq_getD_getElem?, Nat.zero_add]
  · rw [if_neg (fun z => c z.2), if_neg c, Array.getD_eq_getD_getElem?]
theorem getD_bub {p : Array Nat} {k l : Nat} (hk : k < p.size) (hl : l ≤ k) (i : Nat) : (bubble p k (k - l)).getD i 0 = if i = l then p.getD k 0 else if l < i ∧ i ≤ k then p.getD (i - 1) 0 else p.getD i 0 := by
  have e := getElem?_bubble hk (k - l) (by omega) i
  rw [show k - (k - l) = l from by omega] at e
  rw [Array.getD_eq_getD_getElem?, e]
  by_cases c : i = l
  · rw [if_pos c, if_pos c, Array.getD_eq_getD_getElem?]
  · rw [if_neg c, if_neg c]
    by_cases d : l < i ∧ i ≤ k
    · rw [if_pos d, if_pos d, Array.getD_eq_getD_getElem?]
    · rw [if_neg d, if_neg d, Array.getD_eq_getD_getElem?]
theorem Up.snoc (O : Ord n lt) {p : Array Nat} {m : Nat} (h : Up lt p m) (h1 : 1 ≤ m) (hl : lt (p.getD (m - 1) 0) (p.getD m 0) = true) : Up lt p (m + 1) := fun i j hij hj => by
  by_cases c : j = m
  · subst c
    by_cases d : i = j - 1
    · rw [d]; exact hl
    · exact O.tr _ _ _ (h i (j - 1) (by omega) (by omega)) hl
  · exact h i j hij (by omega)
theorem Dn.snoc (O : Ord n lt) {p : Array Nat} {m : Nat} (h : Dn lt p m) (h1 : 1 ≤ m) (hl : lt (p.getD m 0) (p.getD (m - 1) 0) = true) : Dn lt p (m + 1) := fun i j hij hj => by
  by_cases c : j = m
  · subst c
    by_cases d : i = j - 1
    · rw [d]; exact hl
    · exact O.tr _ _ _ hl (h i (j - 1) (by omega) (by omega))
  · exact h i j hij (by omega)
theorem asc_up (O : Ord n lt) {p : Array Nat} (hp : PermN n p) : ∀ f m, 1 ≤ m → m + f ≤ n → Up lt p m → Up lt p (kasRun lt (kas_asc p f m)) ∧ m ≤ kasRun lt (kas_asc p f m) ∧ kasRun lt (kas_asc p f m) ≤ m + f ∧
    (kasRun lt (kas_asc p f m) < m + f → lt (p.getD (kasRun lt (kas_asc p f m)) 0) (p.getD (kasRun lt (kas_asc p f m) - 1) 0) = true)
  | 0, m, h1, h2, h => ⟨h, Nat.le_refl m, Nat.le_refl _, fun z => absurd z (Nat.lt_irrefl _)⟩
  | f + 1, m, h1, h2, h => by
    have e : kasRun lt (kas_asc p (f + 1) m) = kasRun lt (if lt (p.getD m 0) (p.getD (m - 1) 0) = true then KasT.ret m else kas_asc p f (m + 1)) := rfl
    rw [e]
    by_cases c : lt (p.getD m 0) (p.getD (m - 1) 0) = true
    · rw [if_pos c]
      exact ⟨h, Nat.le_refl m, Nat.le_add_right _ _, fun _ => c⟩
    · rw [if_neg c]
      have ne := hp.ne (i := m) (j := m - 1) (by omega) (by omega) (by omega)
      have c2 : lt (p.getD (m - 1) 0) (p.getD m 0) = true := (O.tot _ _ (hp.bd (by omega) _) (hp.bd (by omega) _) ne.symm).resolve_right c
      obtain ⟨a1, a2, a3, a4⟩ := asc_up O hp f (m + 1) (by omega) (by omega) (h.snoc O h1 c2)
      exact ⟨a1, by omega, by omega, fun z => a4 (by omega)⟩
theorem desc_dn (O : Ord n lt) {p : Array Nat} (hp : PermN n p) : ∀ f m, 1 ≤ m → m + f ≤ n → Dn lt p m → ∃ r, kasRun lt (kas_desc f p m 0) = (p, r, 0) ∧ Dn lt p r ∧ m ≤ r ∧ r ≤ m + f
  | 0, m, h1, h2, h => ⟨m, rfl, h, Nat.le_refl _, Nat.le_refl _⟩
  | f + 1, m, h1, h2, h => by
    have e : kasRun lt (kas_desc (f + 1) p m 0) = kasRun lt (if lt (p.getD m 0) (p.getD (m - 1) 0) = true then (if 0 > 0 then kas_desc f (kas_rev p (m - (0 + 1)) m) (m + 1) 0 else kas_desc f p (m + 1) 0)
      else .ask (p.getD (m - 1) 0) (p.getD m 0) fun d => if d = true then .ret (p, m, 0) else kas_desc f p (m + 1) (0 + 1)) := rfl
    rw [e]
    by_cases c : lt (p.getD m 0) (p.getD (m - 1) 0) = true
    · rw [if_pos c, if_neg (Nat.lt_irrefl 0)]
      obtain ⟨r, e1, e2, e3, e4⟩ := desc_dn O hp f (m + 1) (by omega) (by omega) (h.snoc O h1 c)
      exact ⟨r, e1, e2, by omega, by omega⟩
    · rw [if_neg c]
      have ne := hp.ne (i := m) (j := m - 1) (by omega) (by omega) (by omega)
      have c2 : lt (p.getD (m - 1) 0) (p.getD m 0) = true := (O.tot _ _ (hp.bd (by omega) _) (hp.bd (by omega) _) ne.symm).resolve_right c
      refine ⟨m, ?_, h, Nat.le_refl _, Nat.le_add_right _ _⟩
      show kasRun lt (if lt (p.getD (m - 1) 0) (p.getD m 0) = true then KasT.ret (p, m, 0) else kas_desc f p (m + 1) (0 + 1)) = _
      rw [if_pos c2]
      rfl
theorem rev_up {p : Array Nat} {m : Nat} (hm : m ≤ p.size) (h : Dn lt p m) : Up lt (kas_rev p 0 m) m := fun i j hij hj => by
  rw [getD_rev hm, getD_rev hm, if_pos (by omega), if_pos hj]
  exact h (m - 1 - j) (m - 1 - i) (by omega) (by omega)
theorem count_up (O : Ord n lt) {p : Array Nat} (hp : PermN n p) (h0 : 0 < n) : Up lt (kasRun lt (kas_count n p)).2 (kasRun lt (kas_count n p)).1 ∧ 1 ≤ (kasRun lt (kas_count n p)).1 ∧ (kasRun lt (kas_count n p)).1 ≤ n := by
  unfold kas_count
  rw [kasRun_bind]
  obtain ⟨a1, a2, a3, a4⟩ := asc_up O hp (n - 1) 1 (Nat.le_refl 1) (by omega) (fun i j hij hj => by omega)
  generalize kasRun lt (kas_asc p (n - 1) 1) = m at a1 a2 a3 a4
  by_cases c : (m == n) = true
  · rw [if_pos c]
    exact ⟨a1, a2, by show m ≤ n; omega⟩
  · rw [if_neg c]
    have hmn : m < n := by
      have : m ≠ n := fun z => c (by rw [z]; exact beq_self_eq_true n)
      omega
    by_cases d : m > 1
    · rw [if_pos d]
      have e : kasRun lt (KasT.ask (p.getD 0 0) (p.getD (m - 1) 0) fun c => if c = true then KasT.ret (m, p) else kas_descPart m n (kas_rev p 0 m)) = (m, p) := by
        show kasRun lt (if lt (p.getD 0 0) (p.getD (m - 1) 0) = true then KasT.ret (m, p) else kas_descPart m n (kas_rev p 0 m)) = _
        rw [if_pos (a1 0 (m - 1) (by omega) (by omega))]
        rfl
      rw [e]
      exact ⟨a1, a2, by show m ≤ n; omega⟩
    · rw [if_neg d]
      have hm1 : m = 1 := by omega
      subst hm1
      have c1 := a4 (by omega)
      unfold kas_descPart
      rw [kasRun_bind]
      have d2 : Dn lt p (1 + 1) := fun i j hij hj => by
        have : i = 0 ∧ j = 1 := by omega
        rw [this.1, this.2]
        exact c1
      obtain ⟨r, e1, e2, e3, e4⟩ := desc_dn O hp (n - (1 + 1)) (1 + 1) (by omega) (by omega) d2
      rw [e1]
      show Up lt (kasRun lt (if 0 > 0 then kas_tail3 r n (kas_rev p (r - (0 + 1)) r) else kas_tail3 r n p)).2 (kasRun lt (if 0 > 0 then kas_tail3 r n (kas_rev p (r - (0 + 1)) r) else kas_tail3 r n p)).1 ∧ 1 ≤ (kasRun lt (if 0 > 0 then kas_tail3 r n (kas_rev p (r - (0 + 1)) r) else kas_tail3 r n p)).1 ∧ (kasRun lt (if 0 > 0 then kas_tail3 r n (kas_rev p (r - (0 + 1)) r) else kas_tail3 r n p)).1 ≤ n
      rw [if_neg (Nat.lt_irrefl 0)]
      unfold kas_tail3
      rw [kasRun_bind]
      have hs := hp.size
      obtain ⟨b1, b2, b3, _⟩ := asc_up O (hp.rev 0 r) (n - r) r (by omega) (by omega) (rev_up (by omega) e2)
      exact ⟨b1, by show 1 ≤ kasRun lt (kas_asc (kas_rev p 0 r) (n - r) r); omega, by show kasRun lt (kas_asc (kas_rev p 0 r) (n - r) r) ≤ n; omega⟩
theorem place_ok (O : Ord n lt) {p : Array Nat} (hp : PermN n p) {k : Nat} (hk : k < n) : ∀ f l r, l ≤ r → r ≤ k → r - l ≤ f → Up lt p k → (∀ i, i < l → lt (p.getD i 0) (p.getD k 0) = true) → (∀ i, r ≤ i → i < k → lt (p.getD k 0) (p.getD i 0) = true) →
    kasRun lt (kas_place p k f l r) ≤ k ∧ (∀ i, i < kasRun lt (kas_place p k f l r) → lt (p.getD i 0) (p.getD k 0) = true) ∧ ∀ i, kasRun lt (kas_place p k f l r) ≤ i → i < k → lt (p.getD k 0) (p.getD i 0) = true
  | 0, l, r, h1, h2, h3, hu, hl, hr => by
    have : l = r := by omega
    subst this
    exact ⟨h2, hl, hr⟩
  | f + 1, l, r, h1, h2, h3, hu, hl, hr => by
    unfold kas_place
    by_cases c : l ≥ r
    · rw [if_pos c]
      have : l = r := by omega
      subst this
      exact ⟨h2, hl, hr⟩
    · rw [if_neg c]
      have e : kasRun lt (KasT.ask (p.getD k 0) (p.getD ((l + r) / 2) 0) fun c => if c = true then kas_place p k f l ((l + r) / 2) else kas_place p k f ((l + r) / 2 + 1) r) = kasRun lt (if lt (p.getD k 0) (p.getD ((l + r) / 2) 0) = true then kas_place p k f l ((l + r) / 2) else kas_place p k f ((l + r) / 2 + 1) r) := rfl
      rw [e]
      generalize hm : (l + r) / 2 = m
      have hm1 : l ≤ m := by omega
      have hm2 : m < r := by omega
      by_cases d : lt (p.getD k 0) (p.getD m 0) = true
      · rw [if_pos d]
        exact place_ok O hp hk f l m hm1 (by omega) (by omega) hu hl fun i hi hik => by
          by_cases z : i = m
          · rw [z]; exact d
          · exact O.tr _ _ _ d (hu m i (by omega) hik)
      · rw [if_neg d]
        have ne := hp.ne (i := m) (j := k) (by omega) hk (by omega)
        have d2 : lt (p.getD m 0) (p.getD k 0) = true := (O.tot _ _ (hp.bd (by omega) _) (hp.bd (by omega) _) ne).resolve_right d
        exact place_ok O hp hk f (m + 1) r (by omega) h2 (by omega) hu (fun i hi => by
          by_cases z : i = m
          · rw [z]; exact d2
          · exact O.tr _ _ _ (hu i m (by omega) (by omega)) d2) hr
theorem bin_up (O : Ord n lt) : ∀ f {p : Array Nat} k, PermN n p → k + f = n → Up lt p k → Up lt (kasRun lt (kas_bin f p k)) n
  | 0, p, k, hp, h1, hu => by
    have : k = n := by omega
    subst this
    exact hu
  | f + 1, p, k, hp, h1, hu => by
    unfold kas_bin
    rw [kasRun_bind]
    obtain ⟨l1, l2, l3⟩ := place_ok O hp (k := k) (by omega) k 0 k (Nat.zero_le _) (Nat.le_refl _) (by omega) hu (fun i hi => by omega) (fun i hi hik => by omega)
    generalize kasRun lt (kas_place p k k 0 k) = l at l1 l2 l3
    refine bin_up O f (k + 1) (hp.bub _ _) (by omega) fun i j hij hj => ?_
    have hs := hp.size
    rw [getD_bub (by omega) l1, getD_bub (by omega) l1]
    by_cases ci : i = l
    · rw [if_pos ci, if_neg (by omega), if_pos (by omega)]
      exact l3 (j - 1) (by omega) (by omega)
    · rw [if_neg ci]
      by_cases cj : j = l
      · rw [if_pos cj, if_neg (by omega)]
        exact l2 i (by omega)
      · rw [if_neg cj]
        by_cases di : l < i ∧ i ≤ k
        · rw [if_pos di, if_pos (by omega)]
          exact hu (i - 1) (j - 1) (by omega) (by omega)
        · rw [if_neg di]
          by_cases dj : l < j ∧ j ≤ k
          · rw [if_pos dj]
            by_cases z : i = j - 1
            · omega
            · exact hu i (j - 1) (by omega) (by omega)
          · rw [if_neg dj]
            exact hu i j hij (by omega)
theorem sort_up (O : Ord n lt) (h0 : 0 < n) : Up lt (kasRun lt (kas_sort n)) n := by
  unfold kas_sort
  rw [kasRun_bind]
  have hr : PermN n (List.toArray (List.range n)) := List.Perm.refl _
  obtain ⟨a1, a2, a3⟩ := count_up O hr h0
  have b := (count_in (lt := lt) h0 hr n).2
  generalize kasRun lt (kas_count n (List.toArray (List.range n))) = t at a1 a2 a3 b
  by_cases c : t.1 < n
  · rw [if_pos c]
    have : max t.1 1 = t.1 := by omega
    rw [this]
    exact bin_up O _ _ b (by omega) a1
  · rw [if_neg c]
    have : t.1 = n := by omega
    rw [this] at a1
    exact a1
end
/-! ### the order of tuples of ints -/
noncomputable def lexI : List Int → List Int → Bool
  | [], [] => false
  | [], _ :: _ => true
  | _ :: _, [] => false
  | p :: r, q :: t => if p = q then lexI r t else decide (p < q)
theorem lexZ_I : ∀ g g' : List Int, lexZ (decide (g.length < g'.length)) g g' = lexI g g'
  | [], [] => rfl
  | [], _ :: _ => by unfold lexZ lexI; simp
  | _ :: _, [] => by unfold lexZ lexI; simp
  | p :: r, q :: t => by
    unfold lexZ lexI
    by_cases c : p = q
    · rw [if_pos c, if_pos (by rw [c]; exact beq_self_eq_true q)]
      have e : decide ((p :: r).length < (q :: t).length) = decide (r.length < t.length) := by simp
      rw [e]
      exact lexZ_I r t
    · rw [if_neg c, if_neg (fun z => c (eq_of_beq z))]
theorem lexI_irr : ∀ g, lexI g g = false
  | [] => rfl
  | p :: r => by unfold lexI; rw [if_pos rfl]; exact lexI_irr r
theorem lexI_tr : ∀ a b c, lexI a b = true → lexI b c = true → lexI a c = true
  | [], [], _, h, _ => by cases h
  | [], _ :: _, [], _, h => by cases h
  | [], _ :: _, _ :: _, _, _ => rfl
  | _ :: _, [], _, h, _ => by cases h
  | _ :: _, _ :: _, [], _, h => by cases h
  | p :: a, q :: b, r :: c, h, k => by
    unfold lexI at h k ⊢
    by_cases e1 : p = q
    · subst e1
      rw [if_pos rfl] at h
      by_cases e2 : p = r
      · subst e2
        rw [if_pos rfl] at k ⊢
        exact lexI_tr a b c h k
      · rw [if_neg e2] at k ⊢
        exact k
    · rw [if_neg e1] at h
      have h := of_decide_eq_true h
      by_cases e2 : q = r
      · subst e2
        rw [if_neg e1]
        exact decide_eq_true h
      · rw [if_neg e2] at k
        have k := of_decide_eq_true k
        rw [if_neg (by omega)]
        exact decide_eq_true (by omega)
theorem lexI_tot : ∀ a b, a ≠ b → lexI a b = true ∨ lexI b a = true
  | [], [], h => absurd rfl h
  | [], _ :: _, _ => .inl rfl
  | _ :: _, [], _ => .inr rfl
  | p :: a, q :: b, h => by
    unfold lexI
    by_cases e : p = q
    · subst e
      rw [if_pos rfl, if_pos rfl]
      exact lexI_tot a b fun z => h (by rw [z])
    · rw [if_neg e, if_neg (fun z => e z.symm)]
      by_cases c : p < q
      · exact .inl (decide_eq_true c)
      · exact .inr (decide_eq_true (by omega))
theorem ord_lex {gs : List (List Int)} (nd : gs.Nodup) : Ord gs.length (fun i j => lexI (gs.getD i []) (gs.getD j [])) where
  irr := fun i => lexI_irr _
  tr := fun i j k => lexI_tr _ _ _
  tot := fun i j hi hj hij => lexI_tot _ _ fun z => by
    rw [List.getD_eq_getElem?_getD, List.getD_eq_getElem?_getD, List.getElem?_eq_getElem hi, List.getElem?_eq_getElem hj] at z
    have z : gs[i] = gs[j] := z
    rcases Nat.lt_or_gt_of_ne hij with c | c
    · exact (List.pairwise_iff_getElem.mp nd) i j hi hj c z
    · exact (List.pairwise_iff_getElem.mp nd) j i hj hi c z.symm
section
variable {X : Cx}
theorem paired_map {α β γ : Type} {R : α → β → Prop} {xs : List α} {us : List β} (h : Paired R xs us) {dx : α} {du : β} : ∀ (l : List Nat), (∀ i ∈ l, i < us.length) → Paired R (l.map fun i => xs.getD i dx) (l.map fun i => us.getD i du) := by
  have at' : ∀ i, i < us.length → R (xs.getD i dx) (us.getD i du) := by
    induction h with
    | nil => intro i hi; simp at hi
    | cons r t ih =>
      intro i hi
      cases i with
      | zero => exact r
      | succ i => exact ih i (by simpa using hi)
  intro l
  induction l with
  | nil => intro _; exact .nil
  | cons i l ih => intro hl; exact .cons (at' i (hl i List.mem_cons_self)) (ih fun j hj => hl j (List.mem_cons_of_mem _ hj))
theorem isL_map {H : Hp} {ts : List T} {xs : List V} (h : IsL H ts xs) {dt : T} {dx : V} : ∀ (l : List Nat), (∀ i ∈ l, i < xs.length) → IsL H (l.map fun i => ts.getD i dt) (l.map fun i => xs.getD i dx)
  | [], _ => rfl
  | i :: l, hl => by
    have hi := hl i List.mem_cons_self
    have hlen := h.length
    obtain ⟨v, e1, e2⟩ := h.get (i := i) (t := ts.getD i dt) (by rw [List.getD_eq_getElem?_getD, List.getElem?_eq_getElem (by omega)]; rfl)
    refine ⟨_, _, rfl, ?_, isL_map h l fun j hj => hl j (List.mem_cons_of_mem _ hj)⟩
    show Is H (ts.getD i dt) (xs.getD i dx)
    rw [List.getD_eq_getElem?_getD (l := xs), e1]
    exact e2
/-- sorted(list of unlike tuples of ints): in order -/
noncomputable def rSortU (K : PySem.W.Frag) : List V → Hp → VK → Prop := fun as H Q => ∃ (p : Addr) (gs : List (List Int)) (xs : List V), as = [.ref p] ∧ SqL K H p xs ∧ IsL H (gs.map tI) xs ∧ (∀ g ∈ gs, g ≠ []) ∧ gs.length < 64 ∧ gs.Nodup ∧
  ∀ (gs' : List (List Int)) (xs' : List V) (l : Addr), gs'.Perm gs → gs'.Pairwise (fun g g' => lexI g g' = true) → IsL H (gs'.map tI) xs' → H l = none → Q (.ref l) (upd H l (.lst xs'))
theorem call_sortU : CallR X (.builtin "sorted") (rSortU X.K) := by
  intro pins s σ H as us Q I r h
  obtain ⟨p, gs, xs, rfl, hq, hi, hne, h64, nd, q⟩ := h
  obtain ⟨u, rfl, rx⟩ := vals1 r
  cases (show u = Value.ref p from rx)
  obtain ⟨its, rv, pl, hz⟩ := I.list hq
  have hl := rv.length
  have hl2 := hi.length
  rw [List.length_map] at hl2
  have PP := IsL.tupI I hi rv
  have elt : (fun i j => lexZ (decide ((gs.getD i []).length < (gs.getD j []).length)) (gs.getD i []) (gs.getD j [])) = fun i j => lexI (gs.getD i []) (gs.getD j []) := by
    funext i j
    exact lexZ_I _ _
  have O := ord_lex nd
  refine sorted_by pl.isList (by omega) (fun h2 => by have := orac_ints (prog := X.prog) (w := X.w) PP hne h2; rw [elt] at this; exact this) ?_
  obtain ⟨ix, hix1, hix2, hix3⟩ : ∃ ix : List Nat, ix.Perm (List.range gs.length) ∧ sortOut (fun i j => lexI (gs.getD i []) (gs.getD j [])) its = ix.map (fun i => its.getD i Value.none) ∧ (ix.map fun i => gs.getD i []).Pairwise (fun g g' => lexI g g' = true) := by
    unfold sortOut
    by_cases c : its.length < 2
    · rw [if_pos c]
      refine ⟨List.range gs.length, List.Perm.refl _, ?_, ?_⟩
      · have e : gs.length = its.length := by omega
        rw [e]
        exact (map_getD_range its Value.none).symm
      · rw [map_getD_range]
        have e : gs.length < 2 := by omega
        match gs, e with
        | [], _ => exact List.Pairwise.nil
        | [_], _ => exact List.pairwise_singleton _ _
    · rw [if_neg c]
      have e : its.length = gs.length := by omega
      rw [e]
      have hp := (sort_in (n := gs.length) (lt := fun i j => lexI (gs.getD i []) (gs.getD j [])) (by omega)).2
      have hu := sort_up O (by omega)
      generalize kasRun (fun i j => lexI (gs.getD i []) (gs.getD j [])) (kas_sort gs.length) = pp at hp hu
      refine ⟨pp.toList, hp, rfl, ?_⟩
      rw [List.pairwise_map, List.pairwise_iff_getElem]
      intro i j hi hj hij
      have hs := hp.size
      have := hu i j hij (by rw [Array.length_toList] at hj; omega)
      have e1 : pp.getD i 0 = pp.toList[i] := by
        have : i < pp.size := by rw [Array.length_toList] at hi; exact hi
        simp [Array.getD, this]
      have e2 : pp.getD j 0 = pp.toList[j] := by
        have : j < pp.size := by rw [Array.length_toList] at hj; exact hj
        simp [Array.getD, this]
      rw [e1, e2] at this
      exact this
  rw [hix2]
  have hmem : ∀ i ∈ ix, i < gs.length := fun i h => List.mem_range.mp (hix1.mem_iff.mp h)
  have rv' : Vals (ix.map fun i => xs.getD i .non) (ix.map fun i => its.getD i Value.none) := paired_map (γ := Unit) rv ix fun i h => by have := hmem i h; omega
  have hi' := isL_map hi (dt := T.non) (dx := V.non) ix fun i h => by have := hmem i h; omega
  have et : (ix.map fun i => (gs.map tI).getD i T.non) = (ix.map fun i => gs.getD i []).map tI := by
    rw [List.map_map]
    refine List.map_congr_left fun i hi => ?_
    have := hmem i hi
    show (gs.map tI).getD i T.non = tI (gs.getD i [])
    rw [List.getD_eq_getElem?_getD, List.getD_eq_getElem?_getD, List.getElem?_map, List.getElem?_eq_getElem this]
    rfl
  rw [et] at hi'
  obtain ⟨e, he⟩ := sortedAll_at s.heap its (ix.map fun i => its.getD i Value.none).toArray
  have hlen : (ix.map fun i => xs.getD i V.non).length = gs.length := by rw [List.length_map, hix1.length_eq, List.length_range]
  have pg : (ix.map fun i => gs.getD i []).Perm gs := (List.Perm.map (fun i => gs.getD i []) hix1).trans (List.Perm.of_eq (map_getD_range gs []))
  exact ⟨.ref (s.heap.objs.size + 1), upd H (s.heap.objs.size + 1) (.lst (ix.map fun i => xs.getD i V.non)), I.laid (t' := s.toks) (fun b o ho => sortedAll_old ho) (Nat.le_succ _) (show ObjOk X.prog X.w _ _ _ (.lst (ix.map fun i => xs.getD i V.non)) from ⟨by rw [hlen]; exact small_le (by omega), _, e, rv', he⟩), rfl, q _ _ _ pg hix3 hi' (I.hok.fresh (Nat.le_succ _))⟩
end
end L2

namespace L2
open PySem PySem.Spec PyProof.Rows
section
variable {X : Cx}
end
end L2

namespace L2
open PySem PySem.Spec PyProof.Rows PySem.W
/-! ### a dict's keys, walked, whatever they are -/
/-- a dict's rows as they stand -/
noncomputable def EntAt (h : Heap) (d : Addr) (es : Array DictEntry) (ep : Nat) : Prop := ∃ o, h.get? d = some o ∧ o.ExactDict ∧ o.data = .dict es ep
section
variable {prog : Program} {w : World} {A : Around} {E : Value → Shared → Prop} {s : Shared} {d it : Addr} {es : Array DictEntry} {ep i : Nat}
theorem EntAt.ty (x : EntAt s.heap d es ep) : s.TypeIs (.ref d) "dict" := let ⟨o, ho, hc, _⟩ := x; ⟨o, ho, hc.1⟩
theorem EntAt.at {h h' : Heap} (x : EntAt h d es ep) (k : ∀ o, h.get? d = some o → h'.get? d = some o) : EntAt h' d es ep := let ⟨o, ho, r⟩ := x; ⟨o, k o ho, r⟩
theorem EntAt.lt {h : Heap} (x : EntAt h d es ep) : d < h.objs.size := let ⟨_, ho, _⟩ := x; Heap.lt_size ho
theorem ent_iter {Q : Value → Shared → Prop} (hd : (d == sysModules) = false) (x : EntAt s.heap d es ep)
    (hQ : Q (.ref s.heap.objs.size) { s with heap := s.heap.push { cls := .type "dict_keyiterator", data := .fields #[.ref d, .int 0 0, .int es.size 0, .int ep 0] } }) : wpAny (model prog w) A (pyIter (.ref d)) Q E s := by
  have hT := x.ty
  obtain ⟨o, ho, hc, hdat⟩ := id x
  refine wpAny_pyIter_slot hT F.slot_dict_iter (wpAny_call_entry F.slot_dict_iter hT F.entry_dict_iter ?_ (F.args_dict_iter_1 _))
  unfold Builtin.«dict.__iter__»
  refine wpAny_bind ?_
  unfold Builtin.Dict.dictSlotNone
  refine wpAny_bind (wpAny_notOrdered_dict hT (show wpAny _ _ (pure (Value.ref d)) _ _ s from wpAny_pure ?_))
  show wpAny _ _ (Builtin.Dict.showsAll d >>= _) _ _ s
  unfold Builtin.Dict.showsAll
  rw [if_neg (by rw [hd]; exact Bool.false_ne_true)]
  refine wpAny_bind (wpAny_pure (wpAny_bind (wpAny_dictEntries ho hdat (wpAny_bind (wpAny_dictEpoch ho hdat ?_)))))
  refine wpAny_bind (wpAny_newObj_type (wpAny_pure ⟨_, rfl, "dict_keyiterator", _, ⟨_, Heap.get?_push_size _ rfl, rfl⟩, F.slot_dict_keyiterator_next.lookup, ?_⟩))
  simpa [rawInt] using hQ
theorem ent_next {Q : Option Value → Shared → Prop} (hit : s.heap.IsKeyIter it d i es.size ep) (x : EntAt s.heap d es ep) (hi : i < es.size)
    (hQ : ∀ h', h'.IsKeyIter it d (i + 1) es.size ep → Heap.SameBut it s.heap h' → Q (some es[i].key) { s with heap := h' }) : wpAny (model prog w) A (pyNext (.ref it)) Q E s := by
  obtain ⟨oi, ho, hc, hd⟩ := id hit
  obtain ⟨od, hod, hcd, hdd⟩ := id x
  unfold pyNext
  refine wpAny_bind (wpAny_attempt (wpAny_callSpecial?_slot (name := Str.ofString "__next__") hit.typeIs F.slot_dict_keyiterator_next
    (wpAny_call_entry F.slot_dict_keyiterator_next hit.typeIs F.entry_dict_keyiterator_next (wpAny_bind (wpAny_pure (wpAny_bind (wpAny_bind ?_)))) (F.args_dict_keyiterator_next_1 _))))
  first | refine wpAny_bind (wpAny_typeNameOfWhole_keyiter hit.typeIs (wpAny_pure ?_)) | refine wpAny_bind (wpAny_typeNameOf_keyiter hit.typeIs (wpAny_pure ?_))
  refine wpAny_bind (wpAny_fieldsOf ho hd ?_)
  simp only [show Builtin.Dict_items.ownsTuple "dict_keyiterator" = false from by decide, Bool.false_eq_true, if_false]
  show wpAny _ _ (if (Value.ref d == Value.none) = true then _ else _) _ _ s
  rw [if_neg (show ¬ ((Value.ref d == Value.none) = true) from Bool.false_ne_true)]
  refine wpAny_bind (wpAny_pure (wpAny_bind (wpAny_dictEntries hod hdd ?_)))
  rw [if_neg (by simp)]
  refine wpAny_bind (wpAny_pure (wpAny_bind (wpAny_dictEpoch hod hdd ?_)))
  rw [if_neg (by simp)]
  refine wpAny_pure ?_
  simp only [show ¬ ((i : Int) < 0) from by omega, if_false, Int.toNat_natCast, Array.getElem?_eq_getElem hi]
  refine wpAny_bind ?_
  first | refine wpAny_bind (wpAny_typeNameOfWhole_keyiter hit.typeIs (wpAny_pure ?_)) | refine wpAny_bind (wpAny_typeNameOf_keyiter hit.typeIs (wpAny_pure ?_))
  refine wpAny_bind (wpAny_isOneOf_keyiter hit.typeIs ?_)
  show wpAny _ _ (setField (.ref it) 1 (rawInt ((i : Int) + 1)) >>= _) _ _ s
  refine wpAny_bind (wpAny_setField ho hd (by simp) ?_)
  have h2 : (s.heap.update it (Obj.mapFields (·.setIfInBounds 1 (rawInt ((i : Int) + 1))))).IsKeyIter it d (i + 1) es.size ep :=
    ⟨_, Heap.get?_update_self _ ho (Obj.isFreed_of_fields (Obj.data_mapFields hd _)), (Obj.cls_mapFields ..).trans hc, by rw [Obj.data_mapFields hd]; simp [rawInt]⟩
  refine wpAny_bind (wpAny_holding (wpAny_bind (wpAny_isOneOf_keyiter (s := { s with heap := s.heap.update it (Obj.mapFields (·.setIfInBounds 1 (rawInt ((i : Int) + 1)))) }) h2.typeIs ?_)))
  show wpAny _ _ (pure es[i].key) _ _ _
  exact wpAny_pure (wpAny_pure ⟨_, rfl, wpAny_pure (hQ _ h2 (Heap.SameBut.update ..))⟩)
theorem ent_end {Q : Option Value → Shared → Prop} (hh : A.handled = none) (hit : s.heap.IsKeyIter it d i es.size ep) (x : EntAt s.heap d es ep) (hi : es.size ≤ i)
    (hQ : ∀ h', Heap.ExtBut it s.heap h' → Q none { s with heap := h' }) : wpAny (model prog w) A (pyNext (.ref it)) Q E s := by
  obtain ⟨oi, ho, hc, hd⟩ := id hit
  obtain ⟨od, hod, hcd, hdd⟩ := id x
  unfold pyNext
  refine wpAny_bind (wpAny_attempt (wpAny_callSpecial?_slot (name := Str.ofString "__next__") hit.typeIs F.slot_dict_keyiterator_next
    (wpAny_call_entry F.slot_dict_keyiterator_next hit.typeIs F.entry_dict_keyiterator_next (wpAny_bind (wpAny_pure (wpAny_bind (wpAny_bind ?_)))) (F.args_dict_keyiterator_next_1 _))))
  first | refine wpAny_bind (wpAny_typeNameOfWhole_keyiter hit.typeIs (wpAny_pure ?_)) | refine wpAny_bind (wpAny_typeNameOf_keyiter hit.typeIs (wpAny_pure ?_))
  refine wpAny_bind (wpAny_fieldsOf ho hd ?_)
  simp only [show Builtin.Dict_items.ownsTuple "dict_keyiterator" = false from by decide, Bool.false_eq_true, if_false]
  show wpAny _ _ (if (Value.ref d == Value.none) = true then _ else _) _ _ s
  rw [if_neg (show ¬ ((Value.ref d == Value.none) = true) from Bool.false_ne_true)]
  refine wpAny_bind (wpAny_pure (wpAny_bind (wpAny_dictEntries hod hdd ?_)))
  rw [if_neg (by simp)]
  refine wpAny_bind (wpAny_pure (wpAny_bind (wpAny_dictEpoch hod hdd ?_)))
  rw [if_neg (by simp)]
  refine wpAny_pure ?_
  simp only [show ¬ ((i : Int) < 0) from by omega, if_false, Int.toNat_natCast, Array.getElem?_eq_none hi]
  refine wpAny_bind ?_
  first | refine wpAny_bind (wpAny_typeNameOfWhole_keyiter hit.typeIs (wpAny_pure ?_)) | refine wpAny_bind (wpAny_typeNameOf_keyiter hit.typeIs (wpAny_pure ?_))
  show wpAny _ _ (setField (.ref it) 0 .none >>= _) _ _ s
  refine wpAny_bind (wpAny_setField ho hd (by simp) ?_)
  show wpAny _ _ (newExc (.type "StopIteration") [] >>= _) _ _ _
  refine wpAny_bind ?_
  simp only [newExc, newTuple]
  refine wpAny_bind (wpAny_newObj_type (wpAny_bind (m := firstArgMember _ _) (wpAny_of_eq (a := Value.none) (by first | rfl | (simp only [firstArgMember]; rfl)) (wpAny_newObj_type ?_ (by size_fits)))) (by size_fits))
  simp only [raiseNew]
  refine wpAny_bind (wpAny_handled ?_)
  rw [show A.in1.handled = none from hh]
  refine wpAny_bind (wpAny_pure (wpAny_throw ?_))
  refine wpAny_bind (wpAny_isInstance (T := "StopIteration") (b := true) ⟨_, Heap.get?_push_size _ rfl, rfl⟩ isSubtype_stop ?_)
  exact wpAny_pure (hQ _ (((Heap.SameBut.update ..).extBut.push _).push _))
theorem ent_walks (hh : A.handled = none) (I : Addr) (hne : d ≠ I) : Walks prog w A I [I, d] [I] es.size (fun i v => ∃ e, es[i]? = some e ∧ v = e.key) (fun i h => h.IsKeyIter I d i es.size ep ∧ EntAt h d es ep) where
  sub := fun b hb => by simp at hb; simp [hb]
  frame := fun _ _ _ st hk => ⟨st.1.at fun o e => hk I (by simp) o e, st.2.at fun o e => hk d (by simp) o e⟩
  item := fun i s Q E hi st hQ => ent_next st.1 st.2 hi fun h' hit' hs' => hQ _ h' s.toks ⟨_, Array.getElem?_eq_getElem hi, rfl⟩ ⟨hit', st.2.at fun o e => hs'.extBut d o hne e⟩ fun b o hb e => hs'.extBut b o (fun h => hb (by simp [h])) e
  done := fun s Q E st hQ => ent_end hh st.1 st.2 (Nat.le_refl _) fun h' he' => hQ h' s.toks fun b o hb e => he' b o (fun h => hb (by simp [h])) e
  self := fun _ _ _ _ st hQ => wpAny_pyIter_keyiter st.1 hQ
theorem ent_src (lo : (d == sysModules) = false) : KdlSrc prog w "dict" d d es.size (fun i v => ∃ e, es[i]? = some e ∧ v = e.key) (fun h => EntAt h d es ep) where
  type := fun _ x => x.ty
  there := fun _ x => ⟨x.lt, x.lt⟩
  keep := fun _ _ x hk => x.at fun o e => hk d (.inl rfl) o e
  notList := by decide
  notTuple := by decide
  hint := fun _ _ _ _ x hq => kdl_hint_dict x.ty hq
  iter := fun _ _ hh x => ⟨_, _, (fun _ _ hq => ent_iter lo x hq), ent_walks hh _ (Nat.ne_of_lt x.lt), ⟨⟨_, Heap.get?_push_size _ rfl, rfl, rfl⟩, x.at fun o e => Heap.get?_push_of_some _ e⟩⟩
end
end L2

namespace L2
open PySem PySem.Spec PyProof.Rows PySem.W
/-! ### dicts by tuples of ints -/
noncomputable def kI (g : List Int) : List Key := g.map Sum.inl
theorem kI_kV (g : List Int) : (kI g).map kV = g.map V.int := by unfold kI; rw [List.map_map]; rfl
theorem kI_inj {g g' : List Int} (h : kI g = kI g') : g = g' := by
  unfold kI at h
  induction g generalizing g' with
  | nil => cases g' with
    | nil => rfl
    | cons => cases h
  | cons a g ih => cases g' with
    | nil => cases h
    | cons b g' =>
      injection h with h1 h2
      injection h1 with h1
      rw [h1, ih h2]
/-- the dict at d has just these keys, in this order -/
noncomputable def DAt (H : Hp) (d : Addr) (ks : List (List Int)) : Prop := ∃ kvs : List (List Key × V), H d = some (.dT kvs) ∧ kvs.map (·.1) = ks.map kI
noncomputable def addK (ks : List (List Int)) (g : List Int) : List (List Int) := if g ∈ ks then ks else ks ++ [g]
theorem DAt.same {H H' : Hp} {d : Addr} {ks : List (List Int)} (x : DAt H d ks) (s : Same H H') : DAt H' d ks := let ⟨kvs, e, k⟩ := x; ⟨kvs, s _ _ e, k⟩
theorem key_any {kvs : List (List Key × V)} {ks : List (List Int)} (h : kvs.map (·.1) = ks.map kI) (g : List Int) : (kvs.any fun kv => decide (kv.1 = kI g)) = decide (g ∈ ks) := by
  rw [Bool.eq_iff_iff, List.any_eq_true, decide_eq_true_eq]
  constructor
  · rintro ⟨kv, hm, e⟩
    have e := of_decide_eq_true e
    have : kv.1 ∈ ks.map kI := by rw [← h]; exact List.mem_map.mpr ⟨kv, hm, rfl⟩
    obtain ⟨g', hg', e'⟩ := List.mem_map.mp this
    rw [e] at e'
    rw [← kI_inj e']
    exact hg'
  · intro hg
    have : kI g ∈ kvs.map (·.1) := by rw [h]; exact List.mem_map.mpr ⟨g, hg, rfl⟩
    obtain ⟨kv, hm, e⟩ := List.mem_map.mp this
    exact ⟨kv, hm, decide_eq_true e⟩
theorem val_some {kvs : List (List Key × V)} {ks : List (List Int)} (h : kvs.map (·.1) = ks.map kI) (g : List Int) : (valV kvs (kI g)).isSome = decide (g ∈ ks) := by
  rw [← key_any h, valV_any]
theorem put_keys {kvs : List (List Key × V)} {ks : List (List Int)} (h : kvs.map (·.1) = ks.map kI) (g : List Int) (v : V) : (putK kvs (kI g) v).map (·.1) = (addK ks g).map kI := by
  unfold putK addK
  rw [key_any h]
  by_cases c : g ∈ ks
  · rw [if_pos (decide_eq_true c), if_pos c, ← h, List.map_map]
    refine List.map_congr_left fun kv _ => ?_
    show (if kv.1 = kI g then (kv.1, v) else kv).1 = kv.1
    split <;> rfl
  · rw [if_neg (by rw [decide_eq_false c]; decide), if_neg c, List.map_append, List.map_append, h]
    rfl
theorem DAt.len {H : Hp} {d : Addr} {ks : List (List Int)} {kvs : List (List Key × V)} (e : H d = some (.dT kvs)) (k : kvs.map (·.1) = ks.map kI) : kvs.length = ks.length := by
  have := congrArg List.length k
  rw [List.length_map, List.length_map] at this
  exact this
/-- d[g] there, g in d -/
theorem DAt.get {H : Hp} {d b : Addr} {ks : List (List Int)} {g : List Int} (x : DAt H d ks) (hb : Is H (tI g) (.ref b)) : ∃ o, DGet H d (.ref b) o ∧ o.isSome = decide (g ∈ ks) := by
  obtain ⟨kvs, e, k⟩ := x
  obtain ⟨b', zs, e', hb', hz⟩ := hb
  cases e'
  rw [IsL.ints.mp hz, ← kI_kV] at hb'
  exact ⟨_, DGet.t e hb', val_some k g⟩
theorem DAt.put {H : Hp} {d b : Addr} {ks : List (List Int)} {g : List Int} {v : V} (x : DAt H d ks) (hb : Is H (tI g) (.ref b)) (hl : ks.length < 10000) : ∃ o, DPut H d (.ref b) v (upd H d o) ∧ DAt (upd H d o) d (addK ks g) := by
  obtain ⟨kvs, e, k⟩ := x
  obtain ⟨b', zs, e', hb', hz⟩ := hb
  cases e'
  rw [IsL.ints.mp hz, ← kI_kV] at hb'
  have := DAt.len e k
  exact ⟨_, DPut.t e hb' (by rw [this]; exact Nat.lt_of_lt_of_le hl (by decide)), _, upd_same, put_keys k g v⟩
theorem kt_is {H : Hp} {kvs : List (List Key × V)} {xs : List (List Key × Addr × Value)} (rel : KT H kvs xs) : ∀ {ks : List (List Int)}, kvs.map (·.1) = ks.map kI → IsL H (ks.map tI) (xs.map fun x => V.ref x.2.1) := by
  induction rel with
  | nil =>
    intro ks k
    cases ks with
    | nil => rfl
    | cons => cases k
  | @cons p x ps qs hq t ih =>
    intro ks k
    cases ks with
    | nil => cases k
    | cons g ks =>
      injection k with k1 k2
      refine ⟨_, _, rfl, ⟨x.2.1, _, rfl, hq.2.1, ?_⟩, ih k2⟩
      have k1 : p.1 = kI g := k1
      rw [k1, kI_kV]
      exact IsL.ints.mpr rfl
section
variable {X : Cx}
/-- len(d) -/
noncomputable def rLenT : List V → Hp → VK → Prop := fun xs H Q => ∃ d ks, xs = [.ref d] ∧ DAt H d ks ∧ Q (.int ((ks.length : Nat) : Int)) H
theorem call_lenT : CallR X (.builtin "len") rLenT := by
  intro pins s σ H xs us Q I r h
  obtain ⟨d, ks, rfl, ⟨kvs, e, k⟩, q⟩ := h
  obtain ⟨u, rfl, rx⟩ := vals1 r
  cases (show u = Value.ref d from rx)
  have hlen := DAt.len e k
  obtain ⟨z, hd, xs, rel, ⟨o, es, ep, ho, hc, hdat, he, _, _⟩⟩ := dt_of I.hok e
  have hes : es.size = ks.length := by
    have h1 := size_of_entries he
    have h2 := Paired.length rel
    omega
  have hT : s.TypeIs (.ref d) "dict" := ⟨o, ho, hc.1⟩
  have h63 : ((ks.length : Nat) : Int) < 2 ^ 63 := by rw [← hlen]; rw [sizeLine_eq] at z; omega
  refine Calls.call_function_entry kind_len plain_len entry_len (args_len1 _) ?_
  unfold Builtin.«len»
  refine wpAny_bind (m := oneArg "len" _) (wpAny_pure ?_)
  refine wpAny_bind (m := callSpecial? (.ref d) (Str.ofString "__len__")) (wpAny_callSpecial?_slot (name := Str.ofString "__len__") hT PySem.F.slot_dict_len (wpAny_call_entry PySem.F.slot_dict_len hT PySem.F.entry_dict_len ?_ (PySem.F.args_dict_len_1 _)))
  show wpAny _ _ (dictSize d >>= _) _ _ s
  unfold dictSize
  refine wpAny_bind (wpAny_bind (wpAny_dictEntries ho hdat (wpAny_pure ?_)))
  show wpAny _ _ (Builtin.Dict.pendingCount d >>= _) _ _ s
  refine wpAny_bind (wpAny_pendingCount_other hd (wpAny_ret_mkInt ?_))
  rw [hes]
  have e0 : ((ks.length : Nat) : Int) + ((0 : Nat) : Int) = ((ks.length : Nat) : Int) := by simp
  rw [e0]
  refine wpAny_bind (wpAny_holding (wpAny_pure (wpAny_bind (wpAny_letGo ?_))))
  show wpAny _ _ (if ((ks.length : Nat) : Int) < 0 then _ else _) _ _ _
  rw [if_neg (by omega)]
  show wpAny _ _ (if ((ks.length : Nat) : Int) ≥ 2 ^ 63 then _ else _) _ _ _
  rw [if_neg (by omega)]
  exact wpAny_bind (wpAny_mkInt (wpAny_pure ⟨_, rfl, .int _, H, (I.tok _).tok _, ⟨_, rfl⟩, q⟩))
/-- list(d) -/
noncomputable def rListT : List V → Hp → VK → Prop := fun xs H Q => ∃ d ks, xs = [.ref d] ∧ DAt H d ks ∧ ∀ ys p H', Same H H' → H p = none → H' p = some (.lst ys) → IsL H' (ks.map tI) ys → Q (.ref p) H'
theorem call_listT (hc : X.calm = true) : CallR X (.type "list") rListT := by
  intro pins s σ H xs us Q I r h
  obtain ⟨d, ks, rfl, ⟨kvs, e, k⟩, q⟩ := h
  obtain ⟨u, rfl, rx⟩ := vals1 r
  cases (show u = Value.ref d from rx)
  have hlen := DAt.len e k
  obtain ⟨z, hd, xs, rel, ⟨o, es, ep, ho, hcc, hdat, he, _, _⟩⟩ := dt_of I.hok e
  have hxl := Paired.length rel
  have hes := size_of_entries he
  refine kdl_call (ent_src (es := es) (ep := ep) hd) (I.ok.hd hc) ⟨o, ho, hcc, hdat⟩ (by omega) fun h' tk acc' c' hk hD hacc => ?_
  have hv : Vals (xs.map fun x => V.ref x.2.1) acc'.toList := vals_by (by have h1 := hacc.1; have h2 : acc'.toList.length = acc'.size := Array.length_toList; rw [List.length_map]; omega) fun j x v e1 e2 => by
    obtain ⟨en, h1, h2⟩ := hacc.2 j v (by rw [← Array.getElem?_toList]; exact e2)
    rw [entry_at he j] at h1
    rw [List.getElem?_map] at e1
    cases e3 : xs[j]? with
    | none => rw [e3] at e1; cases e1
    | some x' =>
      rw [e3] at e1 h1
      cases e1
      cases h1
      rw [h2]
      rfl
  have hi := kt_is rel k
  have hn := I.hok.fresh (Nat.le_refl s.heap.objs.size)
  have sm := Same.new hn (.lst (xs.map fun x => V.ref x.2.1))
  exact ⟨.ref s.heap.objs.size, _, I.laid (t' := tk) (o := .lst (xs.map fun x => V.ref x.2.1)) hk (Nat.le_refl _) ⟨by rw [List.length_map]; omega, acc'.toList, c', hv, by simpa using hD⟩, rfl, q _ _ _ sm hn upd_same (hi.mono sm)⟩
/-- {k: v}, k a tuple of ints -/
noncomputable def tDisp1 (te tv : TE) : TE := fun σ H Q => ∀ p, H p = none → te σ (upd H p (.dT [])) fun x H1 => tv σ H1 fun y H2 => ∃ g, Is H2 (tI g) x ∧ H2 p = some (.dT []) ∧ Q (.ref p) (upd H2 p (.dT [(kI g, y)]))
theorem pe_disp1 {e v : Expr} {te tv : TE} {pos : Pos} (hu : X.A.units < cLine) (he : PE X e te) (hv : PE X v tv) : PE X (.Dict [some e] [v] pos) (tDisp1 te tv) := by
  intro pins s σ H Q I q
  have hn := I.hok.fresh (Nat.le_refl s.heap.objs.size)
  have I1 := I.laid (a := s.heap.objs.size) (o := .dT []) (h' := s.heap.push { cls := .type "dict", data := .dict #[] }) (t' := s.toks) (fun _ _ q => Heap.get?_push_of_some _ q) (Nat.le_refl _) (dt_empty s.heap I.big)
  rw [arm_eval_Dict]
  refine wpAny_bind (wpAny_standAt ?_)
  let vv : Sem Value := do let x ← eval v X.env; standAt pos; pure x
  show wpAny _ _ (dictDisplay ([(eval e X.env, vv)].map fun p => (some p.1, p.2))) _ _ _
  rw [dictDisplay_pairs _ (by simp) (by simp)]
  refine wpAny_bind ?_
  unfold subDict
  refine wpAny_bind (wpAny_alloc (wpAny_bind (wpAny_holding ?_)))
  rw [if_pos (by simp)]
  refine wpAny_bind (evalPairs_cons ?_)
  refine thn (he pins _ σ _ _ I1 (q _ hn)) fun u s1 ⟨x, H1, I2, rx, q1⟩ => ?_
  refine wpAny_bind (thn (hv pins s1 σ H1 _ I2 q1) fun u2 s2 ⟨y, H2, I3, ry, g, ix, ep, qq⟩ => ?_)
  obtain ⟨a, zs, rfl, ea, hz⟩ := ix
  rw [IsL.ints.mp hz, ← kI_kV] at ea
  obtain rfl : u = Value.ref a := rx
  refine wpAny_bind (wpAny_standAt (wpAny_pure (evalPairs_nil ?_)))
  refine wpAny_holding ?_
  rw [List.forIn_cons]
  obtain ⟨z, hd, xs0, r0, ddH⟩ := dt_of I3.hok ep
  cases r0
  refine wpAny_bind (wpAny_bind (wpAny_bind (wpAny_dictSet_heap (k := kI g) (knd := tupleKind (mixKind X.prog X.w)) hu (key_of I3.hok ea) ddH (fun h' dd' hs => wpAny_pure ?_) (by rw [List.length_nil]; exact Nat.zero_le _))))
  dsimp only
  rw [List.forIn_nil]
  refine wpAny_pure (wpAny_pure (wpAny_pure (wpAny_pure ?_)))
  obtain ⟨q', es, ep', hq, h2, h3, h4, _, h5⟩ := dd'
  refine ⟨.ref s.heap.objs.size, _, ?_, rfl, qq⟩
  refine d_write I3 (by rw [ep]; exact True.intro) hs ⟨q', hq⟩ ⟨by show 1 ≤ sizeLine; decide, hd, [(kI g, a, u2)], .cons ⟨rfl, ?_, ry⟩ .nil, q', es, ep', hq, h2, h3, h4, h5⟩
  rw [upd_ne (ne_of ea ep (fun z => nomatch z))]
  exact ea
end
end L2

namespace L2
open PySem PySem.Spec PyProof.Rows
theorem miss_keysL : typeLookup (.type "list") "keys" = pure none := am_miss_of_fast (by decide +kernel)
section
variable {prog : Program} {w : World} {A : Around} {E : Value → Shared → Prop} {s : Shared}
set_option maxRecDepth 8000 in
theorem lst_noKeysBy {a : Addr} {xs : Array Value} {k : Nat} {sl : Array (Option Value)} {u : Tok} {Q : Value → Shared → Prop} (hx : s.heap.get? a = some { cls := .type "list", dict := none, data := .seq xs k, slots := sl }) (hA : A.handled = none)
    (h : ∀ h' tk e, Heap.NewExcOf s.heap h' e "AttributeError" → E (.ref e) { s with heap := h', toks := tk }) : wpAny (model prog w) A (getAttrBy (.ref a) (.str "keys" u) false) Q E s := by
  obtain ⟨hp, g, d, tk, os⟩ := s
  have hT : ∀ tk', (⟨hp, g, d, tk', os⟩ : Shared).TypeIs (.ref a) "list" := fun _ => ⟨_, hx, rfl⟩
  have f1 := sub_AttributeError
  have f3 := PySem.F.slot_list_getattribute.lookup
  have f4 := PySem.F.slot_list_getattribute.bind (.ref a)
  have f5 := am_list_getattr_none
  unfold getAttrBy
  repeat (any_goals (first | assumption | exact hT _ | ((with_reducible show wpAny _ _ (call (Value.builtin "list.__getattribute__") _ _) _ _ _); refine call_meets PySem.F.slot_list_getattribute (hT _) am_entry_list_getattribute (PySem.F.args_list_getattribute_2 _ _) (meets_getattribute_miss_list a xs k sl "keys" _ miss_keysL (by decide +kernel) (by size_fits)) ⟨hx, hA, fun h' tk' e hx' => ?_⟩) | wp_step))
  obtain ⟨t', u', he⟩ := hx'.there
  show wpAny _ _ (getattributeRaised _ _ _ _ _ _ _) _ _ _
  unfold getattributeRaised
  repeat (any_goals (first | assumption | wp_step))
  exact h _ _ _ hx'.of
theorem lst_noKeys {a : Addr} {xs : Array Value} {k : Nat} {sl : Array (Option Value)} {Q : Option Value → Shared → Prop} (hx : s.heap.get? a = some { cls := .type "list", dict := none, data := .seq xs k, slots := sl }) (hA : A.handled = none)
    (h : ∀ h' tk, (∀ b o, s.heap.get? b = some o → h'.get? b = some o) → Q none { s with heap := h', toks := tk }) : wpAny (model prog w) A (getAttr? (.ref a) "keys") Q E s := by
  unfold getAttr? getAttrBy?
  refine wpAny_bind (wpAny_mkText ?_)
  refine wpAny_bind (wpAny_attempt (lst_noKeysBy (s := { s with toks := s.toks + 1 }) hx hA fun h' tk e x => ?_))
  obtain ⟨c, r, he, hc, _⟩ := x.there
  refine wpAny_bind (wpAny_isInstance (T := "AttributeError") (b := true) ⟨_, he, hc⟩ sub_AttributeError ?_)
  exact wpAny_pure (h _ _ x.keeps)
end
/-! ### dict(list of pairs), the keys tuples of ints -/
abbrev RowH := List Key × Addr × Value
noncomputable def mergeH (xs rows : List RowH) : List RowH := rows.foldl (fun acc r => storedH acc r.1 r.2.1 r.2.2) xs
theorem storedH_len (xs : List RowH) (k : List Key) (a : Addr) (v : Value) : (storedH xs k a v).length ≤ xs.length + 1 := by
  unfold storedH
  split
  · rw [List.length_map]; omega
  · rw [List.length_append, List.length_singleton]; exact Nat.le_refl _
section
variable {prog : Program} {w : World} {A : Around} {R : Result → Shared → Prop}
/-- a pair's tuple, its key a tuple -/
noncomputable def PairH (prog : Program) (w : World) (h : Heap) (d it : Addr) (v : Value) (r : RowH) : Prop := ∃ b, v = .ref b ∧ b ≠ d ∧ b ≠ it ∧ r.2.1 ≠ d ∧ r.2.1 ≠ it ∧ h.IsTuple b #[.ref r.2.1, r.2.2] ∧ (tupleKind (mixKind prog w)).is h r.1 r.2.1
theorem PairH.keep {h h' : Heap} {d it : Addr} {v : Value} {r : RowH} (p : PairH prog w h d it v r) (k : ∀ c o, c ≠ d → c ≠ it → h.get? c = some o → h'.get? c = some o) : PairH prog w h' d it v r := by
  obtain ⟨b, e, n1, n2, n3, n4, ⟨o, ho, hc, n, hd⟩, ⟨o', items, m, ho', r'⟩⟩ := p
  exact ⟨b, e, n1, n2, n3, n4, ⟨o, k _ _ n1 n2 ho, hc, n, hd⟩, ⟨o', items, m, k _ _ n3 n4 ho', r'⟩⟩
theorem dictLoopL {d it t : Addr} {its : Array Value} {rows : List RowH} (hu : A.units + 1 < cLine) (hh : A.handled = none) (hn1 : d ≠ it) (hn2 : t ≠ it) (hn3 : t ≠ d) (hl : its.size = rows.length) (hlz : rows.length ≤ sizeLine) :
    ∀ (k i : Nat) (s : Shared) (xs : List RowH), rows.length - i = k → i ≤ rows.length → xs.length ≤ i → s.heap.IsListIter it t i → s.heap.IsList t its → s.heap.DictOfH (tupleKind (mixKind prog w)) d xs →
      (∀ (j : Nat) v r, its[j]? = some v → rows[j]? = some r → PairH prog w s.heap d it v r) →
      (∀ h' tk, h'.DictOfH (tupleKind (mixKind prog w)) d (mergeH xs (rows.drop i)) → (∀ b o, b ≠ d → b ≠ it → s.heap.get? b = some o → h'.get? b = some o) → R (.ok (.ret .none)) { s with heap := h', toks := tk }) →
      codeAny (model prog w) A (.builtin "dict.update.loop" ⟨[.ref d, .ref it, rawInt i, .none], []⟩) R s := by
  intro k
  induction k with
  | zero =>
    intro i s xs hk hi hz hit ht hd hp hR
    have e : i = rows.length := by omega
    refine codeAny_builtin entry_dul ?_
    rw [Around.under_plainId plain_dul _]
    show wpAny _ A.in1 (pyNext (.ref it) >>= _) _ _ s
    refine wpAny_bind (wpAny_pyNext_list_end (show A.in1.handled = none from hh) hit ht (Array.getElem?_eq_none (by omega)) fun h' eb => ?_)
    show wpAny _ A.in1 (Builtin.Dict.addKeywords d [] >>= _) _ _ _
    refine wpAny_bind (wpAny_pure (wpAny_pure ?_))
    refine hR h' s.toks ?_ fun b o n1 n2 z => eb b o n2 z
    rw [e, List.drop_length]
    obtain ⟨o, es, ep, ho, hc, hdd, he, his, hnd⟩ := hd
    refine ⟨o, es, ep, eb d o hn1 ho, hc, hdd, he, fun x hx => ?_, hnd⟩
    obtain ⟨o', items, m, ho', r'⟩ := his x hx
    refine ⟨o', items, m, eb _ _ (fun z => ?_) ho', r'⟩
    obtain ⟨oi, hoi, hci, _⟩ := hit
    rw [z, hoi] at ho'
    cases ho'
    rw [hci] at r'
    exact absurd r'.1 (by decide)
  | succ k ih =>
    intro i s xs hk hi hz hit ht hd hp hR
    have hlt : i < rows.length := by omega
    have hx : its[i]? = some its[i] := Array.getElem?_eq_getElem (by omega)
    have hr : rows[i]? = some rows[i] := List.getElem?_eq_getElem hlt
    have P0 := hp i _ _ hx hr
    refine codeAny_builtin entry_dul ?_
    rw [Around.under_plainId plain_dul _]
    show wpAny _ A.in1 (pyNext (.ref it) >>= _) _ _ s
    refine wpAny_bind (wpAny_pyNext_list_item hit ht hx fun g hit' hs => ?_)
    have kg : ∀ c o, c ≠ d → c ≠ it → s.heap.get? c = some o → g.get? c = some o := fun c o _ n2 z => hs.extBut c o n2 z
    obtain ⟨b, hb, nbd, nbi, nkd, nki, hbt, hkey⟩ := P0.keep kg
    have hd' : g.DictOfH (tupleKind (mixKind prog w)) d xs := by
      obtain ⟨o, es, ep, ho, hc, hdd, he, his, hnd⟩ := hd
      refine ⟨o, es, ep, hs.extBut d o hn1 ho, hc, hdd, he, fun x hx => ?_, hnd⟩
      obtain ⟨o', items, m, ho', r'⟩ := his x hx
      refine ⟨o', items, m, hs.extBut _ _ (fun z => ?_) ho', r'⟩
      obtain ⟨oi, hoi, hci, _⟩ := hit
      rw [z, hoi] at ho'
      cases ho'
      rw [hci] at r'
      exact absurd r'.1 (by decide)
    rw [hb]
    show wpAny _ A.in1 (holding [Value.ref b] _ >>= _) _ _ _
    refine wpAny_bind (wpAny_holding (wpAny_bind (wpAny_tryCatch ?_)))
    unfold Builtin.Dict.pairItems
    refine wpAny_bind (wpAny_typeOf (T := "tuple") (Heap.IsTuple.typeIs (s := { s with heap := g }) hbt) ?_)
    rw [if_pos (by rfl)]
    obtain ⟨ob, hob, _, nb, hdb⟩ := hbt
    refine wpAny_bind (wpAny_seqItems (s := { s with heap := g }) hob hdb (wpAny_pure ?_))
    show wpAny _ A.in1 (holding [Value.ref rows[i].2.1, rows[i].2.2] (dictSet d (Value.ref rows[i].2.1) rows[i].2.2)) _ _ _
    refine wpAny_holding (wpAny_dictSet_heap (knd := tupleKind (mixKind prog w)) (tupleKind_room_in1 hu) hkey hd' (fun g2 hd2 hs2 => ?_) (Nat.le_trans (Nat.le_of_lt (Nat.lt_of_le_of_lt hz hlt)) hlz))
    refine wpAny_pure ⟨plainId_quiet plain_dul _, ?_⟩
    have e1 : rawInt ((i : Int) + 1) = rawInt ((i + 1 : Nat) : Int) := by simp
    have keep : ∀ c o, c ≠ d → c ≠ it → s.heap.get? c = some o → g2.get? c = some o := fun c o n1 n2 z => hs2.extBut c o n1 (hs.extBut c o n2 z)
    show codeAny (model prog w) A (.builtin "dict.update.loop" ⟨[.ref d, .ref it, rawInt ((i : Int) + 1), .none], []⟩) R _
    rw [e1]
    have lz := storedH_len xs rows[i].1 rows[i].2.1 rows[i].2.2
    refine ih (i + 1) _ _ (by omega) hlt (by omega) (hit'.extBut hs2.extBut (Ne.symm hn1)) (ht.extBut hs.extBut hn2 |>.extBut hs2.extBut hn3) hd2 (fun j v r hv hr' => (hp j v r hv hr').keep keep) fun h' tk hD hk' => ?_
    refine hR h' tk ?_ fun c o n1 n2 z => hk' c o n1 n2 (keep c o n1 n2 z)
    have e2 : rows.drop i = rows[i] :: rows.drop (i + 1) := List.drop_eq_getElem_cons hlt
    rw [e2]
    exact hD
end
end L2

namespace L2
open PySem PySem.Spec PyProof.Rows
noncomputable def dedup (gs : List (List Int)) : List (List Int) := gs.foldl addK []
/-- a pair's tuple of the heap: its key a tuple of ints -/
noncomputable def PrAt (H : Hp) (b : Addr) (r : List Int × V) : Prop := ∃ kb, H b = some (.tup [.ref kb, r.2]) ∧ H kb = some (.tup (r.1.map V.int))
noncomputable def rDictT : List V → Hp → VK → Prop := fun as H Q => ∃ (p : Addr) (bs : List Addr) (rows : List (List Int × V)), as = [.ref p] ∧ H p = some (.lst (bs.map V.ref)) ∧ Paired (PrAt H) bs rows ∧
  ∀ d H', Same H H' → H d = none → DAt H' d (dedup (rows.map (·.1))) → Q (.ref d) H'
theorem rowsH {X : Cx} {pins : List (Addr × Obj)} {σ : St} {H : Hp} {s : Shared} (I : Inv X pins σ H s) : ∀ {bs : List Addr} {rows : List (List Int × V)}, Paired (PrAt H) bs rows → ∃ rh : List RowH, rh.length = bs.length ∧ Paired (fun (r : List Int × V) (q : RowH) => kI r.1 = q.1 ∧ H q.2.1 = some (.tup (q.1.map kV)) ∧ RelV r.2 q.2.2) rows rh ∧
    ∀ (j : Nat) b q, bs[j]? = some b → rh[j]? = some q → s.heap.IsTuple b #[.ref q.2.1, q.2.2] ∧ (tupleKind (mixKind X.prog X.w)).is s.heap q.1 q.2.1
  | _, _, .nil => ⟨[], rfl, .nil, fun j b q hb => by simp at hb⟩
  | b :: bs, r :: rows, .cons h t => by
    obtain ⟨rh, hl, hp, hr⟩ := rowsH I t
    obtain ⟨kb, hb, hk⟩ := h
    obtain ⟨_, its, rv, ht, _⟩ := (show ObjOk X.prog X.w H s.heap b (.tup [.ref kb, r.2]) from I.hok b _ hb)
    cases rv with
    | @cons _ kq _ _ r1 r2 =>
      cases r2 with
      | @cons _ vq _ _ r3 r4 =>
        cases r4
        cases (show kq = Value.ref kb from r1)
        rw [← kI_kV] at hk
        refine ⟨(kI r.1, kb, vq) :: rh, by simp [hl], .cons ⟨rfl, hk, r3⟩ hp, fun j b' q e1 e2 => ?_⟩
        cases j with
        | zero =>
          simp at e1 e2
          subst e1 e2
          exact ⟨ht, key_of I.hok hk⟩
        | succ j => exact hr j b' q (by simpa using e1) (by simpa using e2)
theorem kt_merge {H : Hp} : ∀ {rows : List (List Int × V)} {rh : List RowH} {kvs : List (List Key × V)} {xs : List RowH} {ks : List (List Int)}, Paired (fun (r : List Int × V) (q : RowH) => kI r.1 = q.1 ∧ H q.2.1 = some (.tup (q.1.map kV)) ∧ RelV r.2 q.2.2) rows rh → KT H kvs xs → kvs.map (·.1) = ks.map kI →
    ∃ kvs', KT H kvs' (mergeH xs rh) ∧ kvs'.map (·.1) = ((rows.map (·.1)).foldl addK ks).map kI ∧ kvs'.length ≤ kvs.length + rows.length
  | _, _, kvs, _, _, .nil, r, k => ⟨kvs, r, k, Nat.le_refl _⟩
  | r :: rows, q :: rh, kvs, xs, ks, .cons h t, rel, k => by
    obtain ⟨h1, h2, h3⟩ := h
    have rel2 := rel.put q.1 h2 h3
    have k2 : (putK kvs q.1 r.2).map (·.1) = (addK ks r.1).map kI := by rw [← h1]; exact put_keys k r.1 r.2
    obtain ⟨kvs', a, b, c⟩ := kt_merge t rel2 k2
    refine ⟨kvs', a, b, ?_⟩
    have := length_putK kvs q.1 r.2
    rw [List.length_cons]
    omega
section
variable {X : Cx}
theorem call_dictT (hc : X.calm = true) (hu : X.A.units + 8 < cLine) : CallR X (.type "dict") rDictT := by
  intro pins s σ H as us Q I r h
  obtain ⟨p, bs, rows, rfl, hp, hbs, q⟩ := h
  obtain ⟨u, rfl, rx⟩ := vals1 r
  cases (show u = Value.ref p from rx)
  obtain ⟨hz, its, n, rv, h1⟩ := (show ObjOk X.prog X.w H s.heap p (.lst (bs.map V.ref)) from I.hok p _ hp)
  have hh : X.A.handled = none := I.ok.hd hc
  obtain ⟨rh, hrl, hrp, hrows⟩ := rowsH I hbs
  have hitsl : its.length = bs.length := by have := rv.length; rw [List.length_map] at this; omega
  have hzb : bs.length ≤ sizeLine := by rw [List.length_map] at hz; exact hz
  refine callType_codes (Q₁ := fun obj s₁ => obj = .ref s.heap.objs.size ∧ s₁ = { s with heap := s.heap.push { cls := .type "dict", data := .dict #[] } }) PySem.F.kt_called_dict (PySem.F.kt_typeCall_dict_1 _) PySem.F.entry_dict_init (kt_code_dict_new _ ⟨rfl, rfl⟩) ?_
  rintro obj s₁ ⟨rfl, rfl⟩
  have hnew : (s.heap.push { cls := .type "dict", data := .dict #[] }).DictOfH (tupleKind (mixKind X.prog X.w)) s.heap.objs.size [] := Heap.DictOfH.new s.heap
  have hTn : ({ s with heap := s.heap.push { cls := .type "dict", data := .dict #[] } } : Shared).TypeIs (.ref s.heap.objs.size) "dict" := hnew.typeIs (s := { s with heap := s.heap.push { cls := .type "dict", data := .dict #[] } })
  have h1' : (s.heap.push { cls := .type "dict", data := .dict #[] }).get? p = some { cls := .type "list", dict := none, data := .seq its.toArray n, slots := #[] } := Heap.get?_push_of_some _ h1
  have hlt : p < s.heap.objs.size := Heap.lt_size h1
  refine ⟨hTn, PySem.F.args_dict_init_2 _ _, ?_⟩
  unfold Builtin.«dict.__init__»
  refine wpAny_bind ?_
  unfold Builtin.Dict.selfAndRest
  refine wpAny_bind (wpAny_notOrdered_dict hTn (show wpAny _ _ (pure (s.heap.objs.size, [Value.ref p])) _ _ _ from wpAny_pure ?_))
  show wpAny _ _ (Builtin.Dict.updateFrom "dict.__init__" s.heap.objs.size (.ref p) [] .none) _ _ _
  unfold Builtin.Dict.updateFrom
  refine wpAny_bind (wpAny_typeOf (T := "list") ⟨_, h1', rfl⟩ ?_)
  rw [if_pos (by decide)]
  refine wpAny_bind (lst_noKeys (s := { s with heap := s.heap.push { cls := .type "dict", data := .dict #[] } }) h1' hh fun g tk hk => ?_)
  simp only [Option.isNone_none, if_true]
  refine wpAny_bind (wpAny_rule ?_)
  have hta : g.IsList p its.toArray := ⟨_, hk _ _ h1', rfl, n, rfl⟩
  refine wpAny_bind (wpAny_pyIter_list (s := { s with heap := g, toks := tk }) hta (wpAny_pure ⟨plainId_quiet plain_dul _, ?_⟩))
  have gsz : s.heap.objs.size + 1 ≤ g.objs.size := by
    obtain ⟨o, es, ep, ho, _⟩ := hnew
    exact Heap.lt_size (hk _ _ ho)
  have hgd : (g.push { cls := .type "list_iterator", data := .fields #[.ref p, .int 0 0] }).DictOfH (tupleKind (mixKind X.prog X.w)) s.heap.objs.size [] := by
    obtain ⟨o, es, ep, ho, a1, a2, a3, _, a5⟩ := hnew
    exact ⟨o, es, ep, Heap.get?_push_of_some _ (hk _ _ ho), a1, a2, a3, (fun x hx => by cases hx), a5⟩
  have up : ∀ b o, s.heap.get? b = some o → (g.push { cls := .type "list_iterator", data := .fields #[.ref p, .int 0 0] }).get? b = some o := fun b o e => Heap.get?_push_of_some _ (hk _ _ (Heap.get?_push_of_some _ e))
  refine dictLoopL (A := X.A.in1) (rows := rh) (its := its.toArray) (t := p) (by have : X.A.in1.units = X.A.units + 1 := rfl; omega) hh (Nat.ne_of_lt (Nat.lt_of_succ_le gsz)) (Nat.ne_of_lt (Nat.lt_trans hlt (Nat.lt_of_succ_le gsz))) (Nat.ne_of_lt hlt) (by rw [List.size_toArray]; omega) (by omega) rh.length 0 _ [] (by omega) (Nat.zero_le _) (Nat.le_refl _)
    ⟨_, Heap.get?_push_size _ rfl, rfl, rfl⟩ (hta.push _) hgd (fun j v r hv hr => ?_) fun h' tk' hD hK => ?_
  · have hv : its[j]? = some v := by simpa using hv
    have hj : j < bs.length := by
      have := (List.getElem?_eq_some_iff.mp hv).1
      omega
    obtain ⟨u, hu', ru⟩ := rv.get (i := j) (x := V.ref bs[j]) (by rw [List.getElem?_map, List.getElem?_eq_getElem hj]; rfl)
    rw [hu'] at hv
    cases hv
    cases (show v = Value.ref bs[j] from ru)
    obtain ⟨⟨ob, hob, rr⟩, ⟨ok, items, m, hok, rk⟩⟩ := hrows j bs[j] r (List.getElem?_eq_getElem hj) hr
    have l1 := Heap.lt_size hob
    have l2 := Heap.lt_size hok
    exact ⟨bs[j], rfl, Nat.ne_of_lt l1, Nat.ne_of_lt (Nat.lt_trans l1 (Nat.lt_of_succ_le gsz)), Nat.ne_of_lt l2, Nat.ne_of_lt (Nat.lt_trans l2 (Nat.lt_of_succ_le gsz)), ⟨ob, up _ _ hob, rr⟩, ⟨ok, items, m, up _ _ hok, rk⟩⟩
  · refine ⟨rfl, ?_⟩
    have keep : ∀ b o, s.heap.get? b = some o → h'.get? b = some o := fun b o e => hK b o (Nat.ne_of_lt (Heap.lt_size e)) (Nat.ne_of_lt (Nat.lt_trans (Heap.lt_size e) (Nat.lt_of_succ_le gsz))) (up b o e)
    obtain ⟨kvs', rel, hkeys, hlen⟩ := kt_merge (kvs := []) (xs := []) (ks := []) hrp .nil rfl
    have hpl := Paired.length hrp
    have hnone := I.hok.fresh (Nat.le_refl s.heap.objs.size)
    have sm := Same.new hnone (.dT kvs')
    obtain ⟨_, zz, _⟩ := dt_empty (P := X.prog) (w := X.w) (H := H) s.heap I.big
    obtain ⟨o, es, ep, ho, a1, a2, a3, _, a5⟩ := hD
    refine ⟨.ref s.heap.objs.size, _, I.laid (a := s.heap.objs.size) (o := .dT kvs') (t' := tk') keep (Nat.le_refl _) ⟨?_, zz, _, rel.keeps fun b ys e => sm _ _ e, o, es, ep, ho, a1, a2, a3, a5⟩, rfl, q _ _ sm hnone ⟨kvs', upd_same, hkeys⟩⟩
    have : ([] : List (List Key × V)).length = 0 := rfl
    omega
end
end L2

namespace L2
open PySem PySem.Spec PyProof.Rows
theorem mem_addK {ks : List (List Int)} {g x : List Int} : x ∈ addK ks g ↔ x ∈ ks ∨ x = g := by
  unfold addK
  split
  · rename_i h
    constructor
    · exact .inl
    · rintro (z | rfl)
      · exact z
      · exact h
  · rw [List.mem_append, List.mem_singleton]
theorem addK_nodup {ks : List (List Int)} {g : List Int} (h : ks.Nodup) : (addK ks g).Nodup := by
  unfold addK
  split
  · exact h
  · rename_i c
    rw [List.nodup_append]
    exact ⟨h, by simp, fun a ha b hb => by rw [List.mem_singleton.mp hb]; exact fun z => c (z ▸ ha)⟩
theorem addK_len (ks : List (List Int)) (g : List Int) : (addK ks g).length ≤ ks.length + 1 := by
  unfold addK
  split
  · omega
  · rw [List.length_append, List.length_singleton]; exact Nat.le_refl _
theorem mem_fold {gs : List (List Int)} : ∀ {ks : List (List Int)} {x : List Int}, x ∈ gs.foldl addK ks ↔ x ∈ ks ∨ x ∈ gs := by
  induction gs with
  | nil => intro ks x; simp
  | cons g gs ih =>
    intro ks x
    rw [List.foldl_cons, ih, mem_addK, List.mem_cons, or_assoc]
theorem fold_len {gs : List (List Int)} : ∀ (ks : List (List Int)), (gs.foldl addK ks).length ≤ ks.length + gs.length := by
  induction gs with
  | nil => intro ks; exact Nat.le_refl _
  | cons g gs ih =>
    intro ks
    have h1 := ih (addK ks g)
    have h2 := addK_len ks g
    rw [List.foldl_cons, List.length_cons]
    omega
theorem fold_nodup {gs : List (List Int)} : ∀ {ks : List (List Int)}, ks.Nodup → ((gs.foldl addK ks).length = ks.length + gs.length ↔ (ks ++ gs).Nodup) := by
  induction gs with
  | nil => intro ks h; simp [h]
  | cons g gs ih =>
    intro ks h
    rw [List.foldl_cons]
    by_cases c : g ∈ ks
    · have e : addK ks g = ks := by unfold addK; rw [if_pos c]
      rw [e]
      constructor
      · intro z
        have := fold_len (gs := gs) ks
        rw [List.length_cons] at z
        omega
      · intro z
        rw [List.nodup_append] at z
        exact absurd rfl (z.2.2 g c g List.mem_cons_self)
    · have e : addK ks g = ks ++ [g] := by unfold addK; rw [if_neg c]
      have := ih (addK_nodup (g := g) h)
      rw [e, List.append_assoc, List.length_append, List.length_singleton] at this
      rw [e, List.length_cons, show ks.length + (gs.length + 1) = ks.length + 1 + gs.length from by omega]
      exact this
theorem dedup_len (gs : List (List Int)) : (dedup gs).length = gs.length ↔ gs.Nodup := by
  have := fold_nodup (gs := gs) (ks := []) List.nodup_nil
  simpa [dedup] using this
theorem mem_dedup {gs : List (List Int)} {x : List Int} : x ∈ dedup gs ↔ x ∈ gs := by
  unfold dedup
  rw [mem_fold]
  simp
/-! how many tuples of small numbers there are -/
theorem nodup_lt : ∀ (N : Nat) (l : List Nat), l.Nodup → (∀ x ∈ l, x < N) → l.length ≤ N
  | 0, l, _, h => by
    cases l with
    | nil => exact Nat.le_refl _
    | cons a l => exact absurd (h a List.mem_cons_self) (Nat.not_lt_zero _)
  | N + 1, l, nd, h => by
    have h1 := nodup_lt N (l.erase N) (nd.erase N) fun x hx => by
      have h2 := h x (List.mem_of_mem_erase hx)
      have h3 : x ≠ N := fun z => by rw [z] at hx; exact (List.Nodup.not_mem_erase nd) hx
      omega
    have h2 : l.length ≤ (l.erase N).length + 1 := by
      by_cases c : N ∈ l
      · rw [List.length_erase_of_mem c]; omega
      · rw [List.erase_of_not_mem c]; omega
    omega
noncomputable def code5 : List Int → Nat
  | [] => 0
  | x :: g => x.toNat + 5 * code5 g
noncomputable def Vec (n : Nat) (g : List Int) : Prop := g.length = n ∧ ∀ x ∈ g, 0 ≤ x ∧ x ≤ 4
theorem code5_lt : ∀ {n : Nat} {g : List Int}, Vec n g → code5 g < 5 ^ n
  | 0, g, h => by
    have : g = [] := List.length_eq_zero_iff.mp h.1
    subst this
    decide
  | n + 1, [], h => by cases h.1
  | n + 1, x :: g, h => by
    have h1 := code5_lt (n := n) (g := g) ⟨by have := h.1; rw [List.length_cons] at this; omega, fun y hy => h.2 y (List.mem_cons_of_mem _ hy)⟩
    have h2 := h.2 x List.mem_cons_self
    unfold code5
    rw [Nat.pow_succ]
    omega
theorem code5_inj : ∀ {n : Nat} {g g' : List Int}, Vec n g → Vec n g' → code5 g = code5 g' → g = g'
  | 0, g, g', h, h', _ => by rw [List.length_eq_zero_iff.mp h.1, List.length_eq_zero_iff.mp h'.1]
  | n + 1, [], _, h, _, _ => by cases h.1
  | n + 1, _ :: _, [], _, h', _ => by cases h'.1
  | n + 1, x :: g, y :: g', h, h', e => by
    have h2 := h.2 x List.mem_cons_self
    have h3 := h'.2 y List.mem_cons_self
    unfold code5 at e
    have e1 : x.toNat = y.toNat := by omega
    have e2 : code5 g = code5 g' := by omega
    have e3 : x = y := by omega
    rw [e3, code5_inj (n := n) ⟨by have := h.1; rw [List.length_cons] at this; omega, fun z hz => h.2 z (List.mem_cons_of_mem _ hz)⟩ ⟨by have := h'.1; rw [List.length_cons] at this; omega, fun z hz => h'.2 z (List.mem_cons_of_mem _ hz)⟩ e2]
theorem vec_few {n : Nat} (hn : n ≤ 5) {ks : List (List Int)} (nd : ks.Nodup) (h : ∀ g ∈ ks, Vec n g) : ks.length ≤ 3125 := by
  have h1 : (ks.map code5).Nodup := by
    show (ks.map code5).Pairwise (· ≠ ·)
    rw [List.pairwise_map]
    exact nd.imp_of_mem fun {a b} ha hb hab z => hab (code5_inj (h a ha) (h b hb) z)
  have h2 := nodup_lt (5 ^ n) (ks.map code5) h1 fun x hx => by
    obtain ⟨g, hg, rfl⟩ := List.mem_map.mp hx
    exact code5_lt (h g hg)
  rw [List.length_map] at h2
  have : 5 ^ n ≤ 3125 := by
    have : n = 0 ∨ n = 1 ∨ n = 2 ∨ n = 3 ∨ n = 4 ∨ n = 5 := by omega
    rcases this with rfl | rfl | rfl | rfl | rfl | rfl <;> decide
  omega
theorem big_le {n : Nat} (h : n ≤ 20000) : n ≤ sizeLine := Nat.le_trans h (by decide)
theorem big_lt {n : Nat} (h : n ≤ 20000) : n < sizeLine := Nat.lt_of_le_of_lt h (by decide)
noncomputable def rCatB : R2 := fun x y H Q => ∃ ts us, Is H (.lst ts) x ∧ Is H (.lst us) y ∧ ts.length + us.length ≤ 20000 ∧ ∀ p H', Same H H' → H p = none → Is H' (.lst (ts ++ us)) (.ref p) → Q (.ref p) H'
section
variable {X : Cx}
theorem op_catB : OpR X (binaryOp .Add) rCatB := by
  intro pins s σ H x y v u Q I rx ry h
  obtain ⟨ts, us, ⟨a, xs, rfl, ha, hx⟩, ⟨b, ys, rfl, hb, hy⟩, hn, q⟩ := h
  have l1 := hx.length
  have l2 := hy.length
  exact op_cat pins s σ H _ _ v u Q I rx ry ⟨a, b, xs, ys, rfl, rfl, ha, hb, big_le (by omega), fun p hp => q p _ (Same.new hp _) hp ⟨p, _, rfl, upd_same, (IsL.append hx hy).mono (Same.new hp _)⟩⟩
end
/-! all but two stand -/
noncomputable def But2 (d f : Addr) (H H' : Hp) : Prop := ∀ b o, b ≠ d → b ≠ f → H b = some o → H' b = some o
theorem But2.refl (d f : Addr) (H : Hp) : But2 d f H H := fun _ _ _ _ e => e
theorem But2.trans {d f : Addr} {H H1 H2 : Hp} (x : But2 d f H H1) (y : But2 d f H1 H2) : But2 d f H H2 := fun b o n m e => y b o n m (x b o n m e)
theorem Same.but2 {d f : Addr} {H H' : Hp} (s : Same H H') : But2 d f H H' := fun b o _ _ e => s b o e
theorem But2.updD {d f : Addr} {H : Hp} {o : HO} : But2 d f H (upd H d o) := fun b u n _ e => by rw [upd_ne n]; exact e
theorem But2.updF {d f : Addr} {H : Hp} {o : HO} : But2 d f H (upd H f o) := fun b u _ m e => by rw [upd_ne m]; exact e
theorem But2.tups {d f : Addr} {H H' : Hp} {kvs : List (List Key × V)} {ys : List V} (b : But2 d f H H') (hd : H d = some (.dT kvs)) (hf : H f = some (.lst ys)) : Tups H H' := fun c xs e =>
  b c _ (fun z => by rw [z, hd] at e; cases e) (fun z => by rw [z, hf] at e; cases e) e
end L2

namespace L2
open PySem PySem.Spec PyProof.Rows
/-! ### a law whose text makes a function: one code's table is tracked from the first -/
/-- the built-ins' module, over the base -/
noncomputable def BMain (mg : Str → Option Value) (base : Heap) : Prop := ∃ bm ob, mg "__builtins__" = some (.ref bm) ∧ bm ≠ builtinsNs ∧ base.get? bm = some ob ∧ ob.cls = .type "module" ∧ ob.dict = some builtinsNs ∧ ob.data = .plain
theorem law_callT {P : Program} {w : World} {K : PySem.W.Frag} {mg mb : Str → Option Value} {CX : CXT} {k : Nat} {fa a tb c : Addr} {fd : FuncData} {x : Str} {sp : Sp} {s₁ : Shared} {vs : List Value} {ns : List Int}
    (KX : K.In s₁.heap) (hns : s₁.heap.Ns mainGlobals mg) (hb : s₁.heap.Ns builtinsNs mb) (hbb : ∀ x : Str, x ≠ "__name__" → mb x = bootBuiltins x) (hlim : s₁.heap.NoLimit) (hg : s₁.gens = #[]) (hbm : BMain mg s₁.heap)
    (hT : s₁.heap.get? tb = some (PySem.W.tabObj #[])) (hC : PySem.W.CodeHd s₁.heap c tb) (hKT : K.lookup tb = none)
    (ha : s₁.heap.get? a = some { cls := .type "list", data := .seq vs.toArray }) (hi : IntsAre vs ns) (hl : ns.length ≤ sizeLine) (hr : Room k callerA)
    (F : ∀ base : Heap, K.In base → base.Ns mainGlobals mg → BMain mg base → FnOk P w K mg base CX k fa fd [x] sp) (hbind : ∀ (s : Shared) (u : Value), BindsTo s fd ⟨[u], []⟩ [(x, u)])
    (hsp : ∀ H : Hp, H tb = some (.tbl #[]) → SqL K H a (ns.map V.int) → sp [.ref a] H (fun v _ => v = .bl true) fun _ _ _ => False)
    (hCX : ∀ H e s', CX [] H s₁ (fun _ _ _ => False) e s' → False) :
    codeAny (model P w) callerA (.call (.ref fa) ⟨[.ref a], []⟩) (fun r s' => r = .ok (.ret (.bool true)) ∧ OldK s₁.heap s'.heap ∧ s'.os = s₁.os ∧ AllBare s'.gens) s₁ := by
  have rv := vals_ints hi
  have lenV := hi.length
  have core : ∀ H : Hp, H tb = some (.tbl #[]) → (∀ b, H b = none ∨ (b = a ∧ K.lookup a = none ∧ ∃ o xs, H b = some (.frz o (.lst xs))) ∨ b = tb) → SqL K H a (ns.map V.int) → HOk P w H s₁.heap →
      codeAny (model P w) callerA (.call (.ref fa) ⟨[.ref a], []⟩) (fun r s' => r = .ok (.ret (.bool true)) ∧ OldK s₁.heap s'.heap ∧ s'.os = s₁.os ∧ AllBare s'.gens) s₁ := by
    intro H hHT hO hS hok
    have base_of : ∀ {b : Addr} {o : Obj}, s₁.heap.get? b = some o → H b = none → (hidT s₁.heap H).get? b = some o := fun e n => hidT_get e n
    have noA : ∀ {b : Addr} {o : Obj} {es : Array DictEntry} {ep : Nat}, s₁.heap.get? b = some o → o.data = .dict es ep → H b = none := fun {b o es ep} e d => by
      rcases hO b with z | ⟨z, _⟩ | z
      · exact z
      · rw [z, ha] at e; cases e
        have d' : Data.seq vs.toArray _ = Data.dict es ep := d
        cases d'
      · rw [z, hT] at e; cases e
        have d' : Data.fields _ = Data.dict es ep := d
        cases d'
    have nsK : ∀ {b : Addr} {m : Str → Option Value}, s₁.heap.Ns b m → (hidT s₁.heap H).Ns b m := fun {b m} ⟨o, es, ep, e, d, r⟩ => ⟨o, es, ep, base_of e (noA e d), d, r⟩
    have hKb : K.In (hidT s₁.heap H) := fun b o e => base_of (KX b o e) (by
      rcases hO b with z | ⟨z, z2, _⟩ | z
      · exact z
      · rw [z, z2] at e; cases e
      · rw [z, hKT] at e; cases e)
    have hBb : BMain mg (hidT s₁.heap H) := by
      obtain ⟨bm, ob, b1, b2, b3, b4, b5, b6⟩ := hbm
      refine ⟨bm, ob, b1, b2, base_of b3 ?_, b4, b5, b6⟩
      rcases hO bm with z | ⟨z, _⟩ | z
      · exact z
      · rw [z, ha] at b3; cases b3; simp at b4
      · rw [z, hT] at b3; cases b3; cases b4
    have hM : Mod K mg (hidT s₁.heap H) := ⟨hKb, nsK hns, ⟨mb, nsK hb, hbb⟩, let ⟨mc, h1, h2⟩ := hlim; ⟨mc, nsK h1, h2⟩⟩
    have e0 : Env0 P w K mg (hidT s₁.heap H) callerA [] s₁ H := ⟨rfl, hM, fun b o e => of_hidT e, Nat.le_of_eq (hidT_size _ _), trivial, fun b hb => absurd (show b ∈ ([] : List Addr) from hb) (by simp), hok, .of_eq hg⟩
    refine codeAny_mono ((F _ hKb (nsK hns) hBb).run callerA [] s₁ H ⟨[.ref a], []⟩ [.ref a] [.ref a] _ _ hr e0 (hbind s₁ (.ref a)) (.cons rfl .nil) (hsp H hHT hS)) fun r s' h => ?_
    cases r with
    | error e => exact (hCX H e s' h).elim
    | ok fl =>
      cases fl with
      | next => exact False.elim h
      | brk => exact False.elim h
      | cont => exact False.elim h
      | ret u =>
        obtain ⟨v, H', os, bare, un, hok', r', q⟩ := h
        have q' : v = .bl true := q
        subst q'
        obtain rfl : u = Value.bool true := r'
        refine ⟨rfl, ⟨fun b o e => ?_, fun b o e => un.there b o e (by simp)⟩, os, bare⟩
        rcases hO b with z | ⟨_, _, ob, xs, z⟩ | z
        · exact .inl (un.keep b o e z (by intro z; exact absurd (show b ∈ ([] : List Addr) from z) (by simp)) (by simp))
        · have z2 := un.frzs b ob _ z
          obtain ⟨e1, _⟩ := hok b _ z
          obtain ⟨e2, _⟩ := hok' b _ z2
          rw [e] at e1; cases e1
          exact .inl e2
        · subst z
          obtain ⟨more, z2⟩ := un.tbls b _ hHT
          have e2 : s'.heap.get? b = some { cls := .none, data := .fields (#[] ++ more) } := hok' b _ z2
          rw [e] at hT; cases hT
          exact .inr (.inl ⟨(hC.tab e).isCodeTable, rfl, #[], more, rfl, e2⟩)
  have nat : a ≠ tb := fun z => by rw [z, hT] at ha; cases ha
  cases hk : K.lookup a with
  | some o =>
    have e := KX a o hk
    rw [ha] at e
    cases e
    refine core (fun b => if b = tb then some (.tbl #[]) else none) (if_pos rfl) (fun b => ?_) (.inr ⟨_, vs.toArray, _, hk, rfl, rfl, rfl, by rw [List.size_toArray, lenV]; exact hl, by simpa using rv⟩) (fun b u z => ?_)
    · by_cases hb : b = tb
      · exact .inr (.inr hb)
      · exact .inl (if_neg hb)
    · by_cases hb : b = tb
      · have z' := (if_pos hb).symm.trans z
        cases z'
        subst hb
        exact hT
      · have z' := (if_neg hb).symm.trans z
        cases z'
  | none =>
    refine core (fun b => if b = tb then some (.tbl #[]) else if b = a then some (.frz { cls := .type "list", data := .seq vs.toArray } (.lst (ns.map V.int))) else none) (if_pos rfl) (fun b => ?_) (.inl (.inr ⟨{ cls := .type "list", data := .seq vs.toArray }, (if_neg nat).trans (if_pos rfl)⟩)) (fun b u z => ?_)
    · by_cases hb : b = tb
      · exact .inr (.inr hb)
      · by_cases hb2 : b = a
        · exact .inr (.inl ⟨hb2, hk, _, _, (if_neg hb).trans (if_pos hb2)⟩)
        · exact .inl ((if_neg hb).trans (if_neg hb2))
    · by_cases hb : b = tb
      · have z' := (if_pos hb).symm.trans z
        cases z'
        subst hb
        exact hT
      · have z1 := (if_neg hb).symm.trans z
        by_cases hb2 : b = a
        · have z' := (if_pos hb2).symm.trans z1
          cases z'
          subst hb2
          exact ⟨ha, by rw [List.length_map]; exact hl, vs, _, rv, ha⟩
        · have z' := (if_neg hb2).symm.trans z1
          cases z'
theorem walk_ofT {l : PySem.W.OpenLaw} {n k : Nat} {tb : Addr} {q : Program} {loose : List Str} {XP : (Str → Option Value) → Heap → Prop} {YP : World → Heap → Prop} {d : DefRec} {K : Params → PySem.W.Frag} {CX : World → CXT} {sp : World → Sp} {x : Str}
    (hn : l.most = some n) (hn2 : n ≤ sizeLine) (hdf : d.params.defaults = []) (hr : Room k callerA)
    (hY : ∀ (w : World) (h : Heap), YP w h → (K w.params).In h ∧ h.get? tb = some (PySem.W.tabObj #[])) (hKT : ∀ w : World, (K w.params).lookup tb = none)
    (F : ∀ (w : World) (mg : Str → Option Value) (fa : Addr) (h : Heap), (K w.params).In h → h.Ns mainGlobals mg → mg d.name = some (.ref fa) →
      (∃ c, PySem.W.codeHdIn (K w.params) c tb = true) ∧ ∃ fd : FuncData, (∀ (s : Shared) (u : Value), BindsTo s fd ⟨[u], []⟩ [(x, u)]) ∧
        ∀ base : Heap, (K w.params).In base → base.Ns mainGlobals mg → BMain mg base → FnOk l.prog w (K w.params) mg base (CX w) k fa fd [x] (sp w))
    (hsp : ∀ (w : World) (H : Hp) (a : Addr) (ns : List Int), ns.length ≤ n → H tb = some (.tbl #[]) → SqL (K w.params) H a (ns.map V.int) → sp w [.ref a] H (fun v _ => v = .bl true) fun _ _ _ => False)
    (hCX : ∀ (w : World) (H : Hp) (s : Shared) (e : Value) (s' : Shared), CX w [] H s (fun _ _ _ => False) e s' → False) :
    PySem.W.WalkO q loose XP YP l.row.toRowW d [] (fun f vs => PySem.call f vs) := by
  refine Att.attach_call hn hdf fun w s₀ s₁ mg mb fa o pm cd doc a vs ns G Y ho hd hcd hmg hobj hints hlen hg => ?_
  obtain ⟨KX, hT⟩ := hY w _ Y
  obtain ⟨⟨c, hC⟩, fd, hb, hF⟩ := F w mg fa _ KX G.T.g hmg
  exact law_callT KX G.T.g G.T.b G.T.builtins G.T.nolimit hg G.T.bmain hT (PySem.W.codeHd_of_K KX hC) (hKT w) hobj hints (Nat.le_trans hlen hn2) hr hF hb (fun H hO hS => hsp w H a ns hlen hO hS) fun H e s' => hCX w H s₁ e s'
end L2

namespace L2
open PySem PySem.Spec PyProof.Rows PySem.W
/-! ### a lambda is made: its object and its code are known to the object from then on -/
/-- a thing known to the letter: read, never written -/
abbrev kno (o : Obj) : HO := .frz o (.own 0)
theorem kno_ok {P : Program} {w : World} {H : Hp} {h : Heap} {a : Addr} {o : Obj} (e : h.get? a = some o) : ObjOk P w H h a (kno o) := ⟨e, ⟨o, e⟩⟩
theorem kno_at {P : Program} {w : World} {H : Hp} {h : Heap} {a : Addr} {o : Obj} (ok : HOk P w H h) (e : H a = some (kno o)) : h.get? a = some o := (ok a _ e).1
noncomputable def OfCode (o : Obj) (qual : Str) : Prop := ∃ vs t, o.data = .fields vs ∧ vs[1]? = some (.str qual t)
/-- the table at tb: the code at pos is not in it yet, or is known -/
noncomputable def TbOk (tb : Addr) (pos : Pos) (qual : Str) (H : Hp) : Prop := ∃ ps, H tb = some (.tbl ps) ∧ TriplesOk ps.toList ∧
  (codeAmong pos ps.toList = none ∨ ∃ c oc, codeAmong pos ps.toList = some (.ref c) ∧ H c = some (kno oc) ∧ OfCode oc qual)
theorem TbOk.first {tb : Addr} {pos : Pos} {qual : Str} {H : Hp} (h : H tb = some (.tbl #[])) : TbOk tb pos qual H := ⟨#[], h, trivial, .inl rfl⟩
theorem TbOk.same {tb : Addr} {pos : Pos} {qual : Str} {H H' : Hp} (h : TbOk tb pos qual H) (s : ∀ b o, H b = some o → H' b = some o) : TbOk tb pos qual H' := by
  obtain ⟨ps, h1, h2, h3⟩ := h
  exact ⟨ps, s _ _ h1, h2, h3.imp id fun ⟨c, oc, a, b, d⟩ => ⟨c, oc, a, s _ _ b, d⟩⟩
section
variable {X : Cx} {tb c : Addr} {params : Arguments} {body : Expr} {scope : Scope} {pos : Pos} {clos : List (Str × Addr)}
theorem tb_blt {mg : Str → Option Value} {base h : Heap} {ps : Array Value} (B : BMain mg base) (k : ∀ b o, base.get? b = some o → h.get? b = some o) (G : h.Ns mainGlobals mg) (hP : h.get? tb = some (tabObj ps)) : mainGlobals ≠ tb ∧ h.BuiltinsAt mg tb := by
  obtain ⟨bm, ob, b1, b2, b3, b4, b5, b6⟩ := B
  obtain ⟨o, es, ep, e, hd, r⟩ := id G
  have hm := k _ _ b3
  refine ⟨fun q => ?_, bm, ob, b1, b2, fun q => ?_, fun q => ?_, hm, b4, b5, b6⟩
  · rw [q, hP] at e; cases e; cases hd
  · rw [q, e] at hm; cases hm; rw [hd] at b6; cases b6
  · rw [q, hP] at hm; cases hm; cases b4
noncomputable def tLam (tb : Addr) (pos : Pos) (qual : Str) (O : Addr → Value → Obj) : TE := fun _ H Q => TbOk tb pos qual H ∧ ∀ f c' oc ctv H', (∀ b o, b ≠ tb → H b = some o → H' b = some o) → TbOk tb pos qual H' → H' c' = some (kno oc) → OfCode oc qual → H f = none → H' f = some (kno (O c' ctv)) → Q (.ref f) H'
theorem pe_lam (B : BMain X.mg X.base) (C : CodeHd X.base c tb) (hcode : X.env.code = .ref c) (hdef : defaultsOf params X.env = ([], [])) (hcl : closureFor scope X.env = pure clos) :
    PE X (.Lambda params body scope pos) (tLam tb pos (X.env.qual ++ "<lambda>") fun c' ctv => kla_obj "<lambda>" (X.env.qual ++ "<lambda>") params body scope clos ((X.mg "__name__").getD .none) c' ctv) := by
  intro pins s σ H Q I ⟨⟨ps, hP, ht, hor⟩, q⟩
  have tab : s.heap.get? tb = some (tabObj ps) := I.hok tb _ hP
  have G := I.mod.glob.keeps I.bk
  obtain ⟨hgP, hb⟩ := tb_blt B I.bk G tab
  refine kla_eval hdef ?_
  rcases hor with hnf | ⟨c', oc, hf, hc', hoc⟩
  · refine kla_makeFunction (mg := X.mg) hcl I.ok.glob G hcode (C.keeps I.bk) tab ht hnf hgP hb fun c' ctv h' tk hx hge hlt hrec htb => ?_
    obtain ⟨c₂, oc, vs, t, e2, hoc, hd, hv⟩ := hrec
    cases e2
    generalize hO : kla_obj "<lambda>" (X.env.qual ++ "<lambda>") params body scope clos ((X.mg "__name__").getD .none) c' ctv = ob
    have q2 := q h'.objs.size c' oc ctv (upd (upd (upd H tb (.tbl (ps ++ #[rawInt pos.line, rawInt pos.col, .ref c']))) c' (kno oc)) h'.objs.size (kno ob))
    have hsz : ∀ b o, s.heap.get? b = some o → b < s.heap.objs.size := fun b o e => Heap.lt_size e
    have htl := hsz _ _ tab
    have n1 : c' ≠ tb := Nat.ne_of_gt (Nat.lt_of_lt_of_le htl hge)
    have n2 : h'.objs.size ≠ c' := Nat.ne_of_gt hlt
    have n3 : h'.objs.size ≠ tb := Nat.ne_of_gt (Nat.lt_trans (Nat.lt_of_lt_of_le htl hge) hlt)
    have ff : H h'.objs.size = none := I.hok.fresh (Nat.le_of_lt (Nat.lt_of_le_of_lt hge hlt))
    have fc : H c' = none := I.hok.fresh hge
    have hob : ob.isFreed = false := by rw [← hO]; rfl
    have push : ∀ b o, h'.get? b = some o → (h'.push ob).get? b = some o := fun b o e => Heap.get?_push_of_some _ e
    have keepU : ∀ b o, b ≠ tb → s.heap.get? b = some o → (h'.push ob).get? b = some o := fun b o n e => push b o (hx b o n e)
    have at3 : ∀ b, b ≠ tb → b ≠ c' → b ≠ h'.objs.size → upd (upd (upd H tb (.tbl (ps ++ #[rawInt pos.line, rawInt pos.col, .ref c']))) c' (kno oc)) h'.objs.size (kno ob) b = H b := fun b a1 a2 a3 => by rw [upd_ne a3, upd_ne a2, upd_ne a1]
    have atH : ∀ b o, b ≠ tb → H b = some o → upd (upd (upd H tb (.tbl (ps ++ #[rawInt pos.line, rawInt pos.col, .ref c']))) c' (kno oc)) h'.objs.size (kno ob) b = some o := fun b o n e => by
      rw [at3 b n (ne_of_none e fc) (ne_of_none e ff)]; exact e
    have atT : upd (upd (upd H tb (.tbl (ps ++ #[rawInt pos.line, rawInt pos.col, .ref c']))) c' (kno oc)) h'.objs.size (kno ob) tb = some (.tbl (ps ++ #[rawInt pos.line, rawInt pos.col, .ref c'])) := by
      rw [upd_ne n3.symm, upd_ne n1.symm, upd_same]
    have atC : upd (upd (upd H tb (.tbl (ps ++ #[rawInt pos.line, rawInt pos.col, .ref c']))) c' (kno oc)) h'.objs.size (kno ob) c' = some (kno oc) := by rw [upd_ne n2.symm, upd_same]
    have atF : upd (upd (upd H tb (.tbl (ps ++ #[rawInt pos.line, rawInt pos.col, .ref c']))) c' (kno oc)) h'.objs.size (kno ob) h'.objs.size = some (kno ob) := upd_same
    have tbl' : ((ps ++ #[rawInt pos.line, rawInt pos.col, Value.ref c']) : Array Value).toList = ps.toList ++ [rawInt pos.line, rawInt pos.col, .ref c'] := by simp
    have q3 := q2 atH ⟨_, atT, by rw [tbl']; exact TriplesOk_snoc _ _ _ _ ht, .inr ⟨c', oc, by rw [tbl']; exact codeAmong_snoc _ ht hnf, atC, vs, t, hd, hv⟩⟩ atC ⟨vs, t, hd, hv⟩ ff (atF.trans (by rw [← hO]))
    generalize upd (upd (upd H tb (.tbl (ps ++ #[rawInt pos.line, rawInt pos.col, .ref c']))) c' (kno oc)) h'.objs.size (kno ob) = H' at at3 atH atT atC atF q3
    have hok' : HOk X.prog X.w H' (h'.push ob) := fun b u e => by
      by_cases b1 : b = tb
      · subst b1
        rw [atT] at e; cases e
        exact push _ _ htb
      by_cases b2 : b = c'
      · subst b2
        rw [atC] at e; cases e
        exact kno_ok (push _ _ hoc)
      by_cases b3 : b = h'.objs.size
      · subst b3
        rw [atF] at e; cases e
        exact kno_ok (Heap.get?_push_size _ hob)
      rw [at3 b b1 b2 b3] at e
      refine (I.hok b u e).stay (fun d o hc r => keepU d o (fun z => ?_) r) (fun d r => atH d _ (fun z => ?_) r) fun d xs r => atH d _ (fun z => ?_) r
      · subst z
        rcases hc with z | z
        · exact b1 z.symm
        · rw [hP] at z; cases z
      · rw [z, hP] at r; cases r
      · rw [z, hP] at r; cases r
    refine ⟨.ref h'.objs.size, H', I.un (h' := h'.push ob) (t' := tk) ⟨fun b o e n _ _ => keepU b o (fun z => ?_) e, fun b o e n _ _ => ⟨o.slots, keepU b o (fun z => ?_) e⟩, fun b o e n _ => ?_, fun b o e _ => ?_, fun b xs e => atH b _ (fun z => ?_) e, fun b o u e => atH b _ (fun z => ?_) e, fun b ps' e => ?_⟩ hok', rfl, q3⟩
    · rw [z, hP] at n; cases n
    · rw [z, hP] at n; cases n
    · have hb := hsz b o e
      rw [at3 b (fun z => by rw [z, hP] at n; cases n) (Nat.ne_of_lt (Nat.lt_of_lt_of_le hb hge)) (Nat.ne_of_lt (Nat.lt_trans (Nat.lt_of_lt_of_le hb hge) hlt))]
      exact n
    · by_cases b1 : b = tb
      · subst b1; exact ⟨_, push _ _ htb⟩
      · exact ⟨o, keepU b o b1 e⟩
    · rw [z, hP] at e; cases e
    · rw [z, hP] at e; cases e
    · by_cases b1 : b = tb
      · subst b1
        rw [hP] at e; cases e
        exact ⟨_, atT⟩
      · exact ⟨#[], by rw [atH b _ b1 e]; simp⟩
  · refine kla_makeFunctionHit (mg := X.mg) hcl I.ok.glob G hcode (C.keeps I.bk) tab ht hf hb fun ctv h' tk hk hsz => ?_
    show EP X pins σ Q (.ref h'.objs.size) { s with heap := h'.push (kla_obj "<lambda>" (X.env.qual ++ "<lambda>") params body scope clos ((X.mg "__name__").getD .none) c' ctv), toks := tk }
    generalize hO : kla_obj "<lambda>" (X.env.qual ++ "<lambda>") params body scope clos ((X.mg "__name__").getD .none) c' ctv = ob
    have ff : H h'.objs.size = none := I.hok.fresh hsz
    have hob : ob.isFreed = false := by rw [← hO]; rfl
    have sm : ∀ b o, H b = some o → upd H h'.objs.size (kno ob) b = some o := fun b o e => by rw [upd_ne (ne_of_none e ff)]; exact e
    refine ⟨.ref h'.objs.size, upd H h'.objs.size (kno ob), I.laid (h' := h'.push ob) (t' := tk) (fun b u e => Heap.get?_push_of_some _ (hk b u e)) hsz (kno_ok (Heap.get?_push_size _ hob)), rfl, ?_⟩
    exact q _ c' oc ctv _ (fun b o _ e => sm b o e) (TbOk.same ⟨ps, hP, ht, .inr ⟨c', oc, hf, hc', hoc⟩⟩ sm) (sm _ _ hc') hoc ff (upd_same.trans (by rw [← hO]))
end
end L2

namespace L2
open PySem PySem.Spec PyProof.Rows PySem.W
/-! ### a name's cell is handed over (known to the object) for a call's time; a lambda that keeps one name is called -/
noncomputable def del (H : Hp) (c : Addr) : Hp := fun b => if b = c then none else H b
theorem del_same {H : Hp} {c : Addr} : del H c c = none := if_pos rfl
theorem del_ne {H : Hp} {b c : Addr} (h : b ≠ c) : del H c b = H b := if_neg h
theorem HOk.del {P : Program} {w : World} {H : Hp} {h : Heap} {c : Addr} {o : Obj} (ok : HOk P w H h) (e : H c = some (kno o)) : HOk P w (L2.del H c) h := fun b u q => by
  by_cases hb : b = c
  · rw [hb, del_same] at q; cases q
  · rw [del_ne hb] at q
    exact (ok b u q).stay (fun _ _ _ r => r) (fun d r => by rw [del_ne (fun z => by rw [z, e] at r; cases r)]; exact r) fun d xs r => by rw [del_ne (fun z => by rw [z, e] at r; cases r)]; exact r
theorem HOk.put {P : Program} {w : World} {H : Hp} {h : Heap} {c : Addr} {o : Obj} (ok : HOk P w H h) (n : H c = none) (e : h.get? c = some o) : HOk P w (upd H c (kno o)) h := fun b u q => by
  by_cases hb : b = c
  · subst hb; rw [upd_same] at q; cases q; exact kno_ok e
  · rw [upd_ne hb] at q
    exact (ok b u q).stay (fun _ _ _ r => r) (fun d r => by rw [upd_ne (ne_of_none r n)]; exact r) fun d xs r => by rw [upd_ne (ne_of_none r n)]; exact r
section
variable {X : Cx}
/-- f(..), while the cell of the i-th name (an int) is known -/
noncomputable def tCallC (c : Addr) (i : Nat) (sp : Sp) (t : TA) : TE := fun σ H Q => t σ H fun vs H1 => ∃ n, σ[i]? = some (some (.int n)) ∧ ∀ oc tk, oc.data = .cell (some (.int n tk)) → H1 c = none → sp vs (upd H1 c (kno oc)) (fun v H' => H' c = some (kno oc) → Q v (del H' c)) E0
theorem pe_callC {c f : Addr} {i k : Nat} {x y : Str} {fd : FuncData} {ps : List Str} {sp : Sp} {t : TA} {e : Expr} {es : List Expr} {p pos : Pos} (F : FnOk X.prog X.w X.K X.mg X.base CX0 k f fd ps sp) (hr : Room k X.A) (hm : X.mg x = some (.ref f)) (hk : keepIn X.K (.ref f) = true) (hb : Binds X.K fd ps [])
    (hi : X.N[i]? = some y) (hy : X.env.kindOf y = some .cell) (hc : X.env.cells.lookup y = some c) (hfn : X.fn y = true) (ha : PA X (e :: es) t) (hg : Gl X x := by rfl)
    (hdb : (x == ("__debug__" : Str)) = false := by decide) (he : starEach (e :: es) X.env = (false, eval e X.env) :: starEach es X.env := by rfl) (hpl : (backTo pos (starEach es X.env)).any (·.1) = false := by rfl) :
    PE X (.Call (.Name x p) (e :: es) [] pos) (tCallC c i sp t) := by
  intro pins s σ H Q I h
  refine wpAny_Call_Name_kw (ld_glob I hg hm ?_ hdb)
  refine callWith_K (h₀ := X.base) I.ok.mod.kin hk (thn (ha pos pins s σ H _ I h) fun us s1 ⟨vs, H1, I1, r, q⟩ => ⟨I1.kIn, ?_⟩) he hpl
  obtain ⟨n, hσ, q⟩ := q
  obtain ⟨m, hn, hl⟩ := id I1.loc
  obtain ⟨u, ru, lk⟩ := hl i y _ hi hσ (.inr (.inl hy))
  obtain ⟨oc, hoc, hod⟩ : s1.heap.IsCell c (some u) := by
    rcases lk with ⟨z, _⟩ | ⟨_, c', z, w⟩
    · rw [hy] at z; cases z
    · rw [hc] at z; cases z; exact w
  obtain ⟨tk, rfl⟩ := ru
  have nc : H1 c = none := I1.freeC y c hc
  have h2 := q oc tk hod nc
  have hl2 : us.length = ps.length := by rw [← r.length]; exact F.len _ _ _ _ h2
  have hcs : X.s₀.heap.objs.size ≤ c := I1.ok.cab y c hfn hc
  have ne2 : ∀ {b : Addr}, H1 b = none → b ≠ c → upd H1 c (kno oc) b = none := fun n z => by rw [upd_ne z]; exact n
  have e0 : Env0 X.prog X.w X.K X.mg X.base X.A X.stack s1 (upd H1 c (kno oc)) := by
    have z := I1.env0
    refine ⟨z.frames, z.mod, fun b o e => ⟨(z.bs b o e).1, ne2 (z.bs b o e).2 (Nat.ne_of_lt (Nat.lt_of_lt_of_le (Heap.lt_size e) (Nat.le_trans I1.ok.bsz hcs)))⟩, z.bsz, z.funs, fun b hb => ne2 (z.frf b hb) fun y => ?_, z.hok.put nc hoc, z.bare⟩
    rcases List.mem_cons.mp (I1.stkSub b hb) with z1 | z1
    · exact I1.cne _ c hc (y.symm.trans z1)
    · obtain ⟨_, o, ho, _⟩ := I1.ok.funs.mem z1
      rw [y] at ho
      exact absurd (Nat.lt_of_lt_of_le (Heap.lt_size ho) hcs) (Nat.lt_irrefl _)
  have hbd := hb s1 us I1.kIn (by rw [List.append_nil]; exact hl2)
  rw [List.append_nil] at hbd
  refine wpAny_call (codeAny_mono (F.run X.A X.stack s1 (upd H1 c (kno oc)) ⟨us, []⟩ us vs _ E0 hr e0 hbd r h2) fun r s' hq => ?_)
  cases r with
  | error e => exact False.elim hq
  | ok fl =>
    cases fl with
    | next => exact False.elim hq
    | brk => exact False.elim hq
    | cont => exact False.elim hq
    | ret u =>
      obtain ⟨v, H', os, bare, un, hok, rv, qq⟩ := hq
      have hc' : H' c = some (kno oc) := un.frzs c _ _ upd_same
      have hcK : s'.heap.get? c = some oc := kno_at hok hc'
      have isoc : ∀ {o : Obj}, s1.heap.get? c = some o → s'.heap.get? c = some o := fun e => by rw [hoc] at e; cases e; exact hcK
      refine ⟨v, del H' c, I1.call' (ch := []) os ⟨fun b o e n hb _ => ?_, fun b o e n hb _ => ?_, fun b o e n _ => ?_, fun b o e _ => un.there b o e (by simp), fun b xs e => ?_, fun b o u e => ?_, fun b ps e => ?_⟩ (hok.del hc') bare (fun b z => absurd z (by simp)), rv, qq hc'⟩
      · by_cases z : b = c
        · subst z; exact isoc e
        · exact un.keep b o e (ne2 n z) hb (by simp)
      · by_cases z : b = c
        · subst z; exact ⟨o.slots, isoc e⟩
        · exact un.slot b o e (ne2 n z) hb (by simp)
      · by_cases z : b = c
        · subst z; exact del_same
        · rw [del_ne z]; exact un.free b o e (ne2 n z) (by simp)
      · have z := ne_of_none e nc
        rw [del_ne z]; exact un.tups b xs (by rw [upd_ne z]; exact e)
      · have z := ne_of_none e nc
        rw [del_ne z]; exact un.frzs b o u (by rw [upd_ne z]; exact e)
      · have z := ne_of_none e nc
        rw [del_ne z]; exact un.tbls b ps (by rw [upd_ne z]; exact e)
end
/-- the context of a lambda's expression -/
noncomputable def cxLam (P : Program) (w : World) (K : Frag) (mg : Str → Option Value) (base : Heap) (N : List Str) (qual : Str) (scope : Scope) (f : Addr) (cd : Value) (cl : List (Str × Addr)) (A : Around) (outer : List Env) (s : Shared) (H : Hp) : Cx where
  prog := P
  w := w
  K := K
  mg := mg
  base := base
  A := A.deeper (envX qual scope s.heap.objs.size f cd cl)
  N := N
  s₀ := s
  H₀ := H
  env := envX qual scope s.heap.objs.size f cd cl
  outer := outer
  stack := envX qual scope s.heap.objs.size f cd cl :: outer
  ex := []
  calm := true
  fn := fun _ => false
  pn := []
  xe := fun _ _ => False
theorem look1 {y z : Str} {c d : Addr} (h : [(y, c)].lookup z = some d) : z = y ∧ d = c := by
  rw [List.lookup_cons] at h
  split at h
  · rename_i e
    cases h
    exact ⟨beq_iff_eq.mp e, rfl⟩
  · cases h
/-- what a lambda's scope is: one parameter x, one kept name y -/
structure LamScope (scope : Scope) (x y : Str) : Prop where
  kind : scope.kind = .function
  co : scope.isCoroutine = false
  gen : scope.isGenerator = false
  cell : ∀ z ∈ scope.names, z.2 ≠ .cell
  lx : scope.names.lookup x = some .local
  ly : scope.names.lookup y = some .free
  one : ∀ z ∈ scope.names, z.2 = .free → z.1 = y
theorem lam_run {P : Program} {w : World} {K : Frag} {mg : Str → Option Value} {base : Heap} {k : Nat} {A : Around} {outer : List Env} {s : Shared} {H : Hp} {f c c' : Addr} {ctv pm u1 : Value} {n : Int} {tk : Tok} {v1 : V} {oc occ : Obj} {Q : VK} {x y qual : Str} {params : Arguments} {body : Expr} {scope : Scope} {tE : TE}
    (S : LamScope scope x y) (hr : Room k A) (e0 : Env0 P w K mg base A outer s H) (hf : H f = some (kno (kla_obj "<lambda>" qual params body scope [(y, c)] pm c' ctv))) (hc' : H c' = some (kno occ)) (ho : OfCode occ qual) (hc : H c = some (kno oc)) (hoc : oc.data = .cell (some (.int n tk))) (r : RelV v1 u1)
    (hbind : bindArgs (kla_fn "<lambda>" qual params body scope [(y, c)] pm (.ref c') ctv) ⟨[u1], []⟩ = pure [(x, u1)])
    (hbody : PE (cxLam P w K mg base [x, y] qual scope f (.ref c') [(y, c)] A outer s (del H c)) body tE)
    (q : tE [some v1, some (.int n)] (del H c) (fun v H' => H' c = none → Q v (upd H' c (kno oc)))) : codeAny (model P w) A (.call (.ref f) ⟨[u1], []⟩) (CR CX0 outer P w H s Q E0) s := by
  obtain ⟨vs, t, hd, hv⟩ := ho
  have KX : K.In s.heap := e0.mod.kin.keeps fun b o e => (e0.bs b o e).1
  have lim : s.heap.NoLimit := e0.mod.nolimit.keeps fun b o e => (e0.bs b o e).1
  have hcK := kno_at e0.hok hc
  have nfs : c ∉ frs outer := fun z => by rw [e0.frf c z] at hc; cases hc
  have hlt : c < s.heap.objs.size := Heap.lt_size hcK
  refine kla_callFunE hr.depth (kno_at e0.hok hf) rfl S.co S.gen rfl ⟨c', occ, vs, t, rfl, kno_at e0.hok hc', hd, hv⟩ ?_
  rw [hbind]
  refine wpAny_pure (wpAny_newFunctionEnv S.cell (fun z hz => by rw [List.mem_singleton.mp hz]; exact S.lx) (fun h₁ hns hsb => ?_) S.kind)
  have hk₁ : ∀ b o, s.heap.get? b = some o → h₁.get? b = some o := fun b o e => hsb.extBut b o (Nat.ne_of_lt (Heap.lt_size e)) (Heap.get?_push_of_some _ e)
  refine ⟨lim.keeps hk₁, ?_⟩
  show codeAny _ _ (.expr body (envX qual scope s.heap.objs.size f (.ref c') [(y, c)])) _ _
  have noA : ∀ b : Addr, b ∉ ([] : List Addr) := fun b z => absurd z (by simp)
  have dn : ∀ {b : Addr}, H b = none → del H c b = none := fun {b} n => by
    by_cases z : b = c
    · rw [z]; exact del_same
    · rw [del_ne z]; exact n
  have I : Inv (cxLam P w K mg base [x, y] qual scope f (.ref c') [(y, c)] A outer s (del H c)) [] [some v1, some (.int n)] (del H c) { s with heap := h₁, toks := s.toks + [(x, u1)].length } := by
    refine ⟨⟨e0.mod, S.kind, rfl, rfl, Nat.le_refl _, fun a b d h1 h2 => ?_, fun z hz => ?_, fun z d hf _ => (Bool.false_ne_true hf).elim, fun _ => hr.hd, Around.frames_deeper e0.frames, .inr ⟨rfl, rfl⟩, fun b z => absurd z (noA b), fun b o e => ⟨(e0.bs b o e).1, dn (e0.bs b o e).2⟩, e0.bsz, fun b _ _ => noA b, fun b z => absurd z (noA b), e0.funs, fun b hb => dn (e0.frf b hb)⟩,
      rfl, e0.bare, Un.kept hk₁, ⟨_, hns, fun i z v h1 h2 h3 => ?_⟩, fun z d h => ?_, dn (e0.hok.fresh (Nat.le_refl _)), fun z d h => ?_, fun p hp => absurd (show p ∈ ([] : List (Addr × Obj)) from hp) (by simp), (e0.hok.del hc).kept hk₁, rfl⟩
    · rw [(look1 h1).1, (look1 h2).1]
    · have hz : scope.names.lookup z = some .cell ∨ scope.names.lookup z = some .free := hz
      rcases hz with hz | hz
      · exact absurd rfl (S.cell _ (PySem.mem_of_lookup hz))
      · have e : z = y := S.one _ (PySem.mem_of_lookup hz) rfl
        exact ⟨c, by rw [e]; show [(y, c)].lookup y = some c; rw [List.lookup_cons]; simp⟩
    · have h1 : ([x, y] : List Str)[i]? = some z := h1
      match i, h1, h2 with
      | 0, h1, h2 =>
        cases h1
        cases h2
        exact ⟨u1, r, .inl ⟨S.lx, by show List.lookup x [(x, u1)] = some u1; rw [List.lookup_cons]; simp⟩⟩
      | 1, h1, h2 =>
        cases h1
        cases h2
        exact ⟨.int n tk, ⟨tk, rfl⟩, .inr ⟨.inr S.ly, c, (by show [(y, c)].lookup y = some c; rw [List.lookup_cons]; simp), oc, hk₁ _ _ hcK, hoc⟩⟩
      | n + 2, h1, _ => cases h1
    · rw [(look1 h).2]
      exact ⟨_, oc, hk₁ _ _ hcK, hoc⟩
    · rw [(look1 h).2]; exact del_same
  refine kla_codeExpr (wpAny_mono (hbody [] _ _ (del H c) _ I q) (fun v s' ⟨x, H', I', rv, qq⟩ => ?_) fun e s' z => (show False from z).elim)
  have un : Un (frs outer) [] (del H c) H' s.heap s'.heap := I'.base
  have hc2 : s'.heap.get? c = some oc := un.keep c oc hcK del_same nfs (by simp)
  have hn2 : H' c = none := un.free c oc hcK del_same (by simp)
  have dk : ∀ {b : Addr} {o : HO}, H b = some o → b ≠ c → del H c b = some o := fun e z => by rw [del_ne z]; exact e
  refine ⟨x, upd H' c (kno oc), I'.os, I'.bare, ⟨fun b o e n hb _ => un.keep b o e (dn n) hb (by simp), fun b o e n hb _ => un.slot b o e (dn n) hb (by simp), fun b o e n _ => ?_, fun b o e _ => un.there b o e (by simp), fun b xs e => ?_, fun b o u e => ?_, fun b ps e => ?_⟩, I'.hok.put hn2 hc2, rv, qq hn2⟩
  · have z : b ≠ c := fun z => by rw [z, hc] at n; cases n
    rw [upd_ne z]; exact un.free b o e (dn n) (by simp)
  · have z : b ≠ c := fun z => by rw [z, hc] at e; cases e
    rw [upd_ne z]; exact un.tups b xs (dk e z)
  · by_cases z : b = c
    · rw [z, hc] at e; cases e; rw [z]; exact upd_same
    · rw [upd_ne z]; exact un.frzs b o u (dk e z)
  · have z : b ≠ c := fun z => by rw [z, hc] at e; cases e
    rw [upd_ne z]; exact un.tbls b ps (dk e z)
section
variable {X : Cx}
noncomputable def tCallL (i : Nat) (qual : Str) (O : Addr → Addr → Value → Obj) (tE : TE) (t : TA) : TE := fun σ H Q => ∃ f, σ[i]? = some (some (.ref f)) ∧ t σ H fun vs H1 => ∃ v1 c c' ctv oc occ n tk, vs = [v1] ∧ H1 f = some (kno (O c c' ctv)) ∧ H1 c' = some (kno occ) ∧ OfCode occ qual ∧ H1 c = some (kno oc) ∧ oc.data = .cell (some (.int n tk)) ∧
  tE [some v1, some (.int n)] (del H1 c) fun v H' => H' c = none → Q v (upd H' c (kno oc))
theorem pe_callL {i k : Nat} {x y z qual : Str} {pm : Value} {params : Arguments} {body : Expr} {scope : Scope} {tE : TE} {t : TA} {e : Expr} {p pos : Pos} (S : LamScope scope x y) (hr : Room k X.A) (hi : X.N[i]? = some z) (hv : Vis X.env.scope z)
    (hbind : ∀ c c' ctv u1, bindArgs (kla_fn "<lambda>" qual params body scope [(y, c)] pm (.ref c') ctv) ⟨[u1], []⟩ = pure [(x, u1)])
    (hbody : ∀ f c c' s H, PE (cxLam X.prog X.w X.K X.mg X.base [x, y] qual scope f (.ref c') [(y, c)] X.A X.stack s H) body tE) (ha : PA X [e] t)
    (hd : (z == ("__debug__" : Str)) = false := by decide) (hcd : (z == ("__classdict__" : Str)) = false := by decide) (he : starEach [e] X.env = (false, eval e X.env) :: starEach [] X.env := by rfl) (hpl : (backTo pos (starEach [] X.env)).any (·.1) = false := by rfl) :
    PE X (.Call (.Name z p) [e] [] pos) (tCallL i qual (fun c c' ctv => kla_obj "<lambda>" qual params body scope [(y, c)] pm c' ctv) tE t) := by
  intro pins s σ H Q I h
  obtain ⟨f, hσ, h⟩ := h
  refine wpAny_Call_Name_kw (thn (pe_var hi hv hd hcd pins s σ H (fun v H' => v = .ref f ∧ H' = H) I ⟨_, hσ, rfl, rfl⟩) fun u s0 ⟨v, H', I0, rv, e1, e2⟩ => ?_)
  subst e1 e2
  obtain rfl : u = Value.ref f := rv
  have key := thn (ha pos pins s0 σ H' _ I0 h) (Q' := fun vs s₁ => FnAt f s₁.heap ∧ wpAny (model X.prog X.w) X.A (call (.ref f) ([] ++ vs)) (EP X pins σ Q) X.xe s₁) fun us s1 ⟨vs, H1, I1, r, q⟩ => by
    obtain ⟨v1, c, c', ctv, oc, occ, n, tk, rfl, hf, hc', ho, hc, hoc, q⟩ := q
    obtain ⟨u1, rfl, ru⟩ := vals1 r
    refine ⟨⟨_, _, _, _, kno_at I1.hok hf⟩, ?_⟩
    refine wpAny_call (codeAny_mono (lam_run S hr I1.env0 hf hc' ho hc hoc ru (hbind c c' ctv u1) (hbody f c c' s1 _) q) fun r s' hq => ?_)
    cases r with
    | error e => exact False.elim hq
    | ok fl =>
      cases fl with
      | next => exact False.elim hq
      | brk => exact False.elim hq
      | cont => exact False.elim hq
      | ret u => exact I1.after hq
  rw [he] at key ⊢
  exact callWith_of (by show ((false || (backTo pos (starEach [] X.env)).any (·.1)) || false) = false; rw [hpl]; rfl) keeps_F (Calls.evalArgs_plain key)
end
end L2

namespace L2
open PySem PySem.Spec PyProof.Rows PySem.W
/-! ### for k, v in d.items(): a dict by tuples, known meanwhile -/
section
variable {prog : Program} {w : World} {A : Around} {E : Value → Shared → Prop} {s : Shared} {d it v : Addr} {es : Array DictEntry} {ep i : Nat} {ok ov : Value}
theorem ei_view {Q : Value → Shared → Prop} (hd : (d == sysModules) = false) (x : EntAt s.heap d es ep) (hQ : Q (.ref s.heap.objs.size) { s with heap := s.heap.push { cls := .type "dict_items", data := .fields #[.ref d] } }) : wpAny (model prog w) A (call (.builtin "dict.items") [.ref d]) Q E s := by
  have hT := x.ty
  refine wpAny_call_entry F.slot_dict_items hT F.entry_dict_items ?_ (F.args_dict_items_1 _)
  unfold Builtin.«dict.items»
  refine wpAny_bind ?_
  unfold Builtin.Dict.noArgs
  refine wpAny_bind (wpAny_notOrdered_dict hT (show wpAny _ _ (pure d) _ _ s from wpAny_pure ?_))
  show wpAny _ _ (Builtin.Dict.showsAll d >>= _) _ _ s
  unfold Builtin.Dict.showsAll
  rw [if_neg (by rw [hd]; exact Bool.false_ne_true)]
  exact wpAny_bind (wpAny_pure (wpAny_bind (wpAny_newObj_type (wpAny_pure ⟨_, rfl, hQ⟩))))
theorem ei_iter {Q : Value → Shared → Prop} (hv : s.heap.IsItemsView v d) (x : EntAt s.heap d es ep)
    (hQ : Q (.ref s.heap.objs.size) { s with heap := s.heap.push { cls := .type "dict_itemiterator", data := .fields #[.none, .bool false, .ref d, .int 0 0, .int es.size 0, .int ep 0, .none, .none] } }) : wpAny (model prog w) A (pyIter (.ref v)) Q E s := by
  obtain ⟨ow, how, hcw, hdw⟩ := id hv
  obtain ⟨o, ho, hc, hdat⟩ := id x
  refine wpAny_pyIter_slot hv.typeIs F.slot_dict_items_iter (wpAny_call_entry F.slot_dict_items_iter hv.typeIs F.entry_dict_items_iter ?_ (F.args_dict_items_iter_1 _))
  unfold Builtin.«dict_items.__iter__»
  refine wpAny_bind (wpAny_pure (wpAny_bind ?_))
  unfold Builtin.Dict_items.dictOf
  refine wpAny_bind (wpAny_field how hdw (x := .ref d) rfl (wpAny_pure (wpAny_bind ?_)))
  unfold Builtin.Dict_items.newIterator
  refine wpAny_bind (wpAny_dictEntries ho hdat (wpAny_bind (wpAny_dictEpoch ho hdat ?_)))
  simp only [show Builtin.Dict_items.ownsTuple "dict_itemiterator" = true by decide, if_true]
  refine wpAny_newObj_type (wpAny_pure ⟨_, rfl, "dict_itemiterator", _, ⟨_, Heap.get?_push_size _ rfl, rfl⟩, F.slot_dict_itemiterator_next.lookup, ?_⟩)
    (by simp only [sizeOk, Builtin.Dict_items.ownedTupleFields, List.size_toArray, List.length_append, List.length_cons, List.length_nil, sizeLine_eq]; omega)
  simpa [rawInt, Builtin.Dict_items.ownedTupleFields] using hQ
theorem ei_item {Q : Option Value → Shared → Prop} (hit : IsItemIter s.heap it d i es.size ep ok ov) (x : EntAt s.heap d es ep) (hi : i < es.size)
    (hQ : ∀ h', IsItemIterOut h' it d (i + 1) es.size ep es[i].key es[i].val s.heap.objs.size → h'.get? s.heap.objs.size = some { cls := .type "tuple", data := .seq #[es[i].key, es[i].val] } → h'.objs.size = s.heap.objs.size + 1 →
      (∀ b o, b ≠ it → s.heap.get? b = some o → h'.get? b = some o) → Q (some (.ref s.heap.objs.size)) { s with heap := h' }) : wpAny (model prog w) A (pyNext (.ref it)) Q E s := by
  obtain ⟨hp, g, dr, tk, os⟩ := s
  obtain ⟨od, hod, hcd, hdd⟩ := id x
  have hT : Shared.TypeIs ⟨hp, g, dr, tk, os⟩ (.ref it) "dict_itemiterator" := ⟨_, hit, rfl⟩
  unfold pyNext
  refine wpAny_bind (wpAny_attempt (wpAny_callSpecial?_slot (name := Str.ofString "__next__") hT F.slot_dict_itemiterator_next (wpAny_call_entry F.slot_dict_itemiterator_next hT F.entry_dict_itemiterator_next (wpAny_bind (wpAny_pure (wpAny_bind (wpAny_bind ?_)))) (F.args_dict_itemiterator_next_1 _))))
  first | refine wpAny_bind (wpAny_typeNameOfWhole_itemiter hT (wpAny_pure ?_)) | refine wpAny_bind (wpAny_typeNameOf_itemiter hT (wpAny_pure ?_))
  refine wpAny_bind (wpAny_fieldsOf hit rfl ?_)
  simp only [show Builtin.Dict_items.ownsTuple "dict_itemiterator" = true by decide, if_true]
  show wpAny _ _ (if (Value.ref d == Value.none) = true then _ else _) _ _ _
  rw [if_neg (show ¬ ((Value.ref d == Value.none) = true) from Bool.false_ne_true)]
  refine wpAny_bind (wpAny_pure (wpAny_bind (wpAny_dictEntries hod hdd ?_)))
  rw [if_neg (by simp)]
  refine wpAny_bind (wpAny_pure (wpAny_bind (wpAny_dictEpoch hod hdd ?_)))
  rw [if_neg (by simp)]
  refine wpAny_pure ?_
  simp only [show ¬ ((i : Int) < 0) from by omega, if_false, Int.toNat_natCast, Array.getElem?_eq_getElem hi]
  refine wpAny_bind ?_
  first | refine wpAny_bind (wpAny_typeNameOfWhole_itemiter hT (wpAny_pure ?_)) | refine wpAny_bind (wpAny_typeNameOf_itemiter hT (wpAny_pure ?_))
  refine wpAny_bind (wpAny_isOneOf_itemiter hT ?_)
  show wpAny _ _ (setField (.ref it) 3 (rawInt ((i : Int) + 1)) >>= _) _ _ ⟨hp, g, dr, tk, os⟩
  refine wpAny_bind (wpAny_setField_rec hit (by simp) fun h₁ he₁ hs₁ => ?_)
  replace hs₁ : Heap.SameBut it hp h₁ := hs₁
  replace he₁ : IsItemIter h₁ it d (i + 1) es.size ep ok ov := by
    have e : ((i + 1 : Nat) : Int) = (i : Int) + 1 := by omega
    unfold IsItemIter; rw [e]; simpa [rawInt] using he₁
  have hT₁ : Shared.TypeIs ⟨h₁, g, dr, tk, os⟩ (.ref it) "dict_itemiterator" := ⟨_, he₁, rfl⟩
  refine wpAny_bind (wpAny_holding (wpAny_bind (wpAny_isOneOf_itemiter hT₁ (wpAny_bind (wpAny_isOneOf_itemiter hT₁ ?_)))))
  show wpAny _ _ (Builtin.Dict_items.pairFromOwner (.ref it) 6 es[i].key es[i].val) _ _ ⟨h₁, g, dr, tk, os⟩
  unfold Builtin.Dict_items.pairFromOwner
  refine wpAny_bind (wpAny_newTuple ?_)
  have he₂ : IsItemIter (h₁.push { cls := .type "tuple", data := .seq #[es[i].key, es[i].val] }) it d (i + 1) es.size ep ok ov := Heap.get?_push_of_some _ he₁
  generalize hh₂ : h₁.push { cls := .type "tuple", data := .seq #[es[i].key, es[i].val] } = h₂ at he₂
  have hz₁ : h₁.objs.size = hp.objs.size := hs₁.1
  have hil : hp.objs.size ≠ it := Nat.ne_of_gt (Heap.lt_size (show hp.get? it = some _ from hit))
  have ht₂ : h₂.get? hp.objs.size = some { cls := .type "tuple", data := .seq #[es[i].key, es[i].val] } := by rw [← hh₂, ← hz₁]; exact Heap.get?_push_size _ rfl
  have hz₂ : h₂.objs.size = hp.objs.size + 1 := by rw [← hh₂, Heap.size_push, hz₁]
  have hk₂ : ∀ b o, b ≠ it → hp.get? b = some o → h₂.get? b = some o := fun b o hb e => by rw [← hh₂]; exact Heap.get?_push_of_some _ (hs₁.extBut b o hb e)
  show wpAny _ _ (Builtin.Dict_items.ownedTupleIsFree (.ref it) >>= _) _ _ ⟨h₂, g, dr, tk, os⟩
  rw [hz₁]
  clear hh₂ he₁ hs₁ hT₁ hz₁ h₁
  refine wpAny_bind ?_
  unfold Builtin.Dict_items.ownedTupleIsFree
  refine wpAny_bind (wpAny_field he₂ rfl (x := .none) rfl (wpAny_pure ?_))
  simp only [if_true]
  refine wpAny_bind (wpAny_field he₂ rfl (x := ok) rfl (wpAny_bind (wpAny_field he₂ rfl (x := ov) rfl ?_)))
  refine wpAny_bind (wpAny_setField_rec he₂ (by simp) fun h₃ he₃ hs₃ => ?_)
  replace he₃ : IsItemIter h₃ it d (i + 1) es.size ep es[i].key ov := he₃
  refine wpAny_bind (wpAny_setField_rec he₃ (by simp) fun h₄ he₄ hs₄ => ?_)
  replace he₄ : IsItemIter h₄ it d (i + 1) es.size ep es[i].key es[i].val := he₄
  refine wpAny_bind (wpAny_setField_rec he₄ (by simp) fun h₅ he₅ hs₅ => ?_)
  replace he₅ : IsItemIterOut h₅ it d (i + 1) es.size ep es[i].key es[i].val hp.objs.size := he₅
  refine wpAny_bind (wpAny_setField_rec he₅ (by simp) fun h₆ he₆ hs₆ => ?_)
  replace he₆ : IsItemIterOut h₆ it d (i + 1) es.size ep es[i].key es[i].val hp.objs.size := he₆
  replace hs₃ : Heap.SameBut it h₂ h₃ := hs₃
  replace hs₄ : Heap.SameBut it h₃ h₄ := hs₄
  replace hs₅ : Heap.SameBut it h₄ h₅ := hs₅
  replace hs₆ : Heap.SameBut it h₅ h₆ := hs₆
  have up : ∀ b o, b ≠ it → h₂.get? b = some o → h₆.get? b = some o := fun b o hb e => hs₆.extBut b o hb (hs₅.extBut b o hb (hs₄.extBut b o hb (hs₃.extBut b o hb e)))
  refine wpAny_bind (wpAny_letGo (wpAny_pure (wpAny_pure ⟨_, rfl, wpAny_pure (hQ h₆ he₆ (up _ _ hil ht₂) ?_ fun b o hb e => up b o hb (hk₂ b o hb e))⟩)))
  show h₆.objs.size = hp.objs.size + 1
  rw [hs₆.1, hs₅.1, hs₄.1, hs₃.1, hz₂]
theorem ei_end {Q : Option Value → Shared → Prop} (hh : A.handled = none) (hit : IsItemIter s.heap it d i es.size ep ok ov) (x : EntAt s.heap d es ep) (hi : es.size ≤ i)
    (hQ : ∀ h', Heap.ExtBut it s.heap h' → Q none { s with heap := h' }) : wpAny (model prog w) A (pyNext (.ref it)) Q E s := by
  obtain ⟨od, hod, hcd, hdd⟩ := id x
  have hT : s.TypeIs (.ref it) "dict_itemiterator" := ⟨_, hit, rfl⟩
  unfold pyNext
  refine wpAny_bind (wpAny_attempt (wpAny_callSpecial?_slot (name := Str.ofString "__next__") hT F.slot_dict_itemiterator_next (wpAny_call_entry F.slot_dict_itemiterator_next hT F.entry_dict_itemiterator_next (wpAny_bind (wpAny_pure (wpAny_bind (wpAny_bind ?_)))) (F.args_dict_itemiterator_next_1 _))))
  first | refine wpAny_bind (wpAny_typeNameOfWhole_itemiter hT (wpAny_pure ?_)) | refine wpAny_bind (wpAny_typeNameOf_itemiter hT (wpAny_pure ?_))
  refine wpAny_bind (wpAny_fieldsOf hit rfl ?_)
  simp only [show Builtin.Dict_items.ownsTuple "dict_itemiterator" = true by decide, if_true]
  show wpAny _ _ (if (Value.ref d == Value.none) = true then _ else _) _ _ s
  rw [if_neg (show ¬ ((Value.ref d == Value.none) = true) from Bool.false_ne_true)]
  refine wpAny_bind (wpAny_pure (wpAny_bind (wpAny_dictEntries hod hdd ?_)))
  rw [if_neg (by simp)]
  refine wpAny_bind (wpAny_pure (wpAny_bind (wpAny_dictEpoch hod hdd ?_)))
  rw [if_neg (by simp)]
  refine wpAny_pure ?_
  simp only [show ¬ ((i : Int) < 0) from by omega, if_false, Int.toNat_natCast, Array.getElem?_eq_none hi]
  refine wpAny_bind ?_
  first | refine wpAny_bind (wpAny_typeNameOfWhole_itemiter hT (wpAny_pure ?_)) | refine wpAny_bind (wpAny_typeNameOf_itemiter hT (wpAny_pure ?_))
  show wpAny _ _ (setField (.ref it) 2 .none >>= _) _ _ s
  refine wpAny_bind (wpAny_setField hit rfl (by simp) ?_)
  show wpAny _ _ (newExc (.type "StopIteration") [] >>= _) _ _ _
  refine wpAny_bind ?_
  simp only [newExc, newTuple]
  refine wpAny_bind (wpAny_newObj_type (wpAny_bind (m := firstArgMember _ _) (wpAny_of_eq (a := Value.none) (by first | rfl | (simp only [firstArgMember]; rfl)) (wpAny_newObj_type ?_ (by size_fits)))) (by size_fits))
  simp only [raiseNew]
  refine wpAny_bind (wpAny_handled ?_)
  rw [show A.in1.handled = none from hh]
  refine wpAny_bind (wpAny_pure (wpAny_throw ?_))
  refine wpAny_bind (wpAny_isInstance (T := "StopIteration") (b := true) ⟨_, Heap.get?_push_size _ rfl, rfl⟩ isSubtype_stop ?_)
  exact wpAny_pure (hQ _ (((Heap.SameBut.update ..).extBut.push _).push _))
theorem ei_self {Q : Value → Shared → Prop} (hit : IsItemIter s.heap it d i es.size ep ok ov) (h : Q (.ref it) s) : wpAny (model prog w) A (pyIter (.ref it)) Q E s := kcp_self hit h
end
noncomputable def Iti (d : Addr) (o : Obj) (kvs : List (List Key × V)) : It :=
  ⟨fun i H => H d = some (.frz o (.dT kvs)) ∧ i < kvs.length,
   fun i H v H' => ∃ p b kv, v = .ref p ∧ H p = none ∧ kvs[i]? = some kv ∧ H b = some (.tup (kv.1.map kV)) ∧ H' = upd H p (.tup [.ref b, kv.2]),
   fun i H => H d = some (.frz o (.dT kvs)) ∧ kvs.length ≤ i⟩
/-- a known dict by tuples: its rows -/
theorem ei_rows {P : Program} {w : World} {H : Hp} {h : Heap} {d : Addr} {o : Obj} {kvs : List (List Key × V)} (ok : HOk P w H h) (e : H d = some (.frz o (.dT kvs))) :
    (d == sysModules) = false ∧ h.get? d = some o ∧ o.ExactDict ∧ ∃ es ep, o.data = .dict es ep ∧ es.size = kvs.length ∧ ∀ i kv, kvs[i]? = some kv → ∃ (hi : i < es.size) (b : Addr), es[i].key = .ref b ∧ H b = some (.tup (kv.1.map kV)) ∧ RelV kv.2 es[i].val := by
  obtain ⟨h0, _⟩ := ok d _ e
  obtain ⟨z, hd, xs, rel, ⟨o', es, ep, ho, hcc, hdat, he, _, _⟩⟩ := dt_rd ok (.inr ⟨o, e⟩)
  rw [h0] at ho
  cases ho
  have hxl := Paired.length rel
  have hes := size_of_entries he
  refine ⟨hd, h0, hcc, es, ep, hdat, by omega, fun i kv hk => ?_⟩
  have hi : i < kvs.length := by
    rcases Nat.lt_or_ge i kvs.length with h | h
    · exact h
    · rw [List.getElem?_eq_none h] at hk; cases hk
  have hi2 : i < es.size := by omega
  have hxi : xs[i]? = some xs[i] := List.getElem?_eq_getElem (by omega)
  have hr : kv.1 = xs[i].1 ∧ H xs[i].2.1 = some (.tup (kv.1.map kV)) ∧ RelV kv.2 xs[i].2.2 := by
    have key : ∀ {l : List (List Key × V)} {m : List (List Key × Addr × Value)}, KT H l m → ∀ {i : Nat} {p q}, l[i]? = some p → m[i]? = some q → p.1 = q.1 ∧ H q.2.1 = some (.tup (p.1.map kV)) ∧ RelV p.2 q.2.2 := by
      intro l m r
      induction r with
      | nil => intro i p q e1 _; simp at e1
      | cons a _ ih =>
        intro i p q e1 e2
        cases i with
        | zero => simp at e1 e2; subst e1 e2; exact a
        | succ i => exact ih (by simpa using e1) (by simpa using e2)
    exact key rel hk hxi
  have hen := entry_at he i
  rw [hxi, Array.getElem?_eq_getElem hi2] at hen
  have hen := Option.some.inj hen
  exact ⟨hi2, xs[i].2.1, by rw [hen]; rfl, hr.2.1, by rw [hen]; exact hr.2.2⟩
theorem turn_items {P : Program} {w : World} {K : Frag} {elts : List Expr} {k1} {pos : Pos} (d it : Addr) (o : Obj) (kvs : List (List Key × V)) (es : Array DictEntry) (ep : Nat) (hoD : o.data = .dict es ep) :
    Turn P w K (.Tuple elts k1 pos) (Iti d o kvs) [it] it (fun i h => ∃ ok ov, IsItemIter h it d i es.size ep ok ov) where
  mem := by simp
  obj := fun i h st b hb => by
    obtain ⟨ok, ov, st⟩ := st
    rw [List.mem_singleton.mp hb]
    exact ⟨_, st, fun v q => by
      have q' : Data.fields _ = Data.cell v := q
      cases q'⟩
  keep := fun i h h' ⟨ok, ov, st⟩ k => ⟨ok, ov, k it (by simp) _ st⟩
  item := by
    intro X hP hw hK hc i pins s σ H E I hf st hg
    subst hP hw hK
    obtain ⟨hH, hi⟩ := hg
    obtain ⟨ok, ov, st⟩ := st
    obtain ⟨hd, h0, hcc, es', ep', hdat, hsz, hrow⟩ := ei_rows I.hok hH
    rw [hoD] at hdat
    cases hdat
    obtain ⟨hi2, b, hkey, hb, rv⟩ := hrow i kvs[i] (List.getElem?_eq_getElem hi)
    obtain ⟨f0, f1, f2, f3, f4, f5⟩ := hf it (by simp)
    refine ei_item st ⟨o, h0, hcc, hoD⟩ hi2 fun g gi gT gz gk => ?_
    refine ⟨.ref s.heap.objs.size, rfl, wpAny_letOwnedTupleGo_items (s := { s with heap := g }) gi fun g' gi' gs' => ?_⟩
    replace gs' : Heap.SameBut it g g' := gs'
    have hfr : H s.heap.objs.size = none := I.hok.fresh (Nat.le_refl _)
    have nit : s.heap.objs.size ≠ it := Nat.ne_of_gt (Heap.lt_size st)
    have hk' : ∀ c o, c ≠ it → s.heap.get? c = some o → g'.get? c = some o := fun c o n e => gs'.extBut c o n (gk c o n e)
    have hT' : g'.get? s.heap.objs.size = some { cls := .type "tuple", data := .seq #[es[i].key, es[i].val] } := gs'.extBut _ _ nit gT
    have old1 : ∀ c o, H c = some o → c ≠ it := fun c o e z => by rw [z, f0] at e; cases e
    have I1 : Inv X pins σ (upd H s.heap.objs.size (.tup [.ref b, kvs[i].2])) { s with heap := g', toks := s.toks } := by
      refine I.step (g' := s.gens) (d' := s.drawn) (ch := [it]) (fun c hc => by rw [List.mem_singleton.mp hc]; exact ⟨f3, f1, f4, f5⟩) (fun c o n1 n2 n3 e _ => hk' c o (fun z => n3 (by simp [z])) e)
        (fun c o n1 n2 n3 e _ => ⟨o.slots, hk' c o (fun z => n3 (by simp [z])) e⟩) (fun c o n3 e n => by rw [upd_ne (Nat.ne_of_lt (Heap.lt_size e))]; exact n) (fun c o n3 e => ⟨o, hk' c o (fun z => n3 (by simp [z])) e⟩)
        (fun c zs e => by rw [upd_ne (ne_of_none e hfr)]; exact e) (fun c o zs e => by rw [upd_ne (ne_of_none e hfr)]; exact e) (fun c ps e => ⟨#[], by rw [upd_ne (ne_of_none e hfr), e]; simp⟩) (fun m hm => ?_) (fun c ob e => ?_) I.bare
      · obtain ⟨o, es, ep, hoo, r⟩ := hm
        exact ⟨o, es, ep, hk' _ o (Ne.symm f1) hoo, r⟩
      · by_cases hcb : c = s.heap.objs.size
        · subst hcb
          rw [upd_same] at e
          cases e
          exact ⟨by show 2 ≤ sizeLine; rw [sizeLine_eq]; omega, [es[i].key, es[i].val], .cons hkey (.cons rv .nil), ⟨_, hT', rfl, _, rfl⟩, fun q hq => by
            have hq : g'.get? s.heap.objs.size = some q := hq
            rw [hT'] at hq
            cases hq
            rfl⟩
        · rw [upd_ne hcb] at e
          refine (I.hok c ob e).stay (fun d o hc q => ?_) (fun d q => by rw [upd_ne (ne_of_none q hfr)]; exact q) fun d zs q => by rw [upd_ne (ne_of_none q hfr)]; exact q
          rcases hc with rfl | hc
          · exact hk' d o (old1 d _ e) q
          · exact hk' d o (old1 d _ hc) q
    exact ⟨.ref s.heap.objs.size, _, I1, rfl, ⟨_, b, _, rfl, hfr, List.getElem?_eq_getElem hi, hb, rfl⟩, ⟨_, _, gi'⟩, fun c hc => by rw [List.mem_singleton.mp hc, upd_ne (Ne.symm nit)]; exact f0⟩
  done := by
    intro X hP hw hK hc i pins s σ H E I hf st hg
    subst hP hw hK
    obtain ⟨hH, hi⟩ := hg
    obtain ⟨ok, ov, st⟩ := st
    obtain ⟨hd, h0, hcc, es', ep', hdat, hsz, _⟩ := ei_rows I.hok hH
    rw [hoD] at hdat
    cases hdat
    obtain ⟨f0, f1, f2, f3, f4, f5⟩ := hf it (by simp)
    exact ei_end (I.ok.hd hc) st ⟨o, h0, hcc, hoD⟩ (by omega) fun h' eb => ⟨rfl, I.turned (t' := s.toks) (fun b o hb e => eb b o hb e) f0 f1 f3 f4 f5⟩
  self := fun _ _ _ _ _ ⟨ok, ov, st⟩ h => ei_self st h
section
variable {X : Cx} {o : Expr} {apos cpos tpos : Pos} {elts : List Expr} {k1 : _}
noncomputable def iItems (to : TE) : TI := fun σ H R => to σ H fun x H1 => ∃ d ob kvs, x = .ref d ∧ H1 d = some (.frz ob (.dT kvs)) ∧ R (Iti d ob kvs) H1
theorem pi_items {to : TE} (ho : PE X o to) (hbase : attributeBase o "items" X.env (eval o X.env) = eval o X.env := by rfl) (hline : (apos.endLine == cpos.line) = true := by rfl) : PI X (.Tuple elts k1 tpos) (.Call (.Attribute o "items" apos) [] [] cpos) (iItems to) := by
  intro pins s σ H R I h
  refine wpAny_Call_method0_late hbase hline (thn (ho pins s σ H _ I h) fun v s1 ⟨x, H1, I1, r1, d, ob, kvs, ex, hd, q⟩ => ?_)
  subst ex
  cases r1
  obtain ⟨hs, h0, hcc, es, ep, hdat, hsz, _⟩ := ei_rows I1.hok hd
  have X0 : EntAt s1.heap d es ep := ⟨ob, h0, hcc, hdat⟩
  refine ⟨"dict", "dict.items", PySem.F.plainAttrs_dict, PySem.F.slot_dict_items, PySem.F.type_dict_items, X0.ty, fun a e => ?_, Calls.callWith_builtin rfl (PySem.evalArgs_none (ei_view hs X0 ?_))⟩
  · cases e
    exact ⟨ob, h0, hcc.2.1⟩
  refine ei_iter (s := { s1 with heap := s1.heap.push { cls := .type "dict_items", data := .fields #[.ref d] } }) ⟨_, Heap.get?_push_size _ rfl, rfl, rfl⟩ (X0.at fun o e => Heap.get?_push_of_some _ e) ?_
  have I2 := I1.kept (t' := s1.toks) (h' := (s1.heap.push { cls := .type "dict_items", data := .fields #[.ref d] }).push { cls := .type "dict_itemiterator", data := .fields #[.none, .bool false, .ref d, .int 0 0, .int es.size 0, .int ep 0, .none, .none] }) fun b o e => Heap.get?_push_of_some _ (Heap.get?_push_of_some _ e)
  have hle : s1.heap.objs.size ≤ (s1.heap.push { cls := .type "dict_items", data := .fields #[.ref d] }).objs.size := by rw [Heap.size_push]; omega
  refine ⟨_, [(s1.heap.push { cls := .type "dict_items", data := .fields #[.ref d] }).objs.size], _, _, H1, rfl, I2, turn_items d _ ob kvs es ep hdat, ⟨_, _, Heap.get?_push_size _ rfl⟩, fun b hb => ?_, q⟩
  rw [List.mem_singleton.mp hb]
  exact I1.fpOk hle (I1.hok.fresh hle)
end
theorem for_items {d : Addr} {o : Obj} {kvs : List (List Key × V)} {g : TG} {tb : TS} {D : Ends} {σ : St} {H : Hp} (Pv : Nat → St → Hp → Prop) (h0 : Pv 0 σ H) (hl : ∀ i σ H, i ≤ kvs.length → Pv i σ H → H d = some (.frz o (.dT kvs)))
    (hs : ∀ i kv σ H, kvs[i]? = some kv → Pv i σ H → ∀ p b, H p = none → H b = some (.tup (kv.1.map kV)) → g (.ref p) σ (upd H p (.tup [.ref b, kv.2])) fun σ2 H2 => tb { D with nx := Pv (i + 1), ct := Pv (i + 1), bk := D.nx } σ2 H2) (hd : ∀ σ H, Pv kvs.length σ H → D.nx σ H) :
    ∃ W : Nat → Nat → St → Hp → Prop, (∃ m, W 0 m σ H) ∧ ∀ i m σ H, W i m σ H →
      ((Iti d o kvs).stop i H ∧ D.nx σ H) ∨ ((Iti d o kvs).go i H ∧ ∃ N : St → Hp → Prop, (∀ σ' H', N σ' H' → ∃ m', m' < m ∧ W (i + 1) m' σ' H') ∧ ∀ x H', (Iti d o kvs).yld i H x H' → g x σ H' fun σ2 H2 => tb { D with nx := N, ct := N, bk := D.nx } σ2 H2) := by
  refine ⟨fun i m σ H => m = kvs.length - i ∧ i ≤ kvs.length ∧ Pv i σ H, ⟨kvs.length, by simp, Nat.zero_le _, h0⟩, ?_⟩
  rintro i m σ H ⟨rfl, hi, p⟩
  have q := hl i σ H hi p
  by_cases hlt : i < kvs.length
  · refine .inr ⟨⟨q, hlt⟩, Pv (i + 1), fun σ' H' p' => ⟨kvs.length - (i + 1), by omega, rfl, hlt, p'⟩, fun x H' y => ?_⟩
    obtain ⟨p1, b, kv, rfl, hp1, hk, hb, rfl⟩ := y
    exact hs i kv σ _ hk p p1 b hp1 hb
  · have e : i = kvs.length := by omega
    subst e
    exact .inl ⟨⟨q, Nat.le_refl _⟩, hd σ H p⟩
end L2

set_option maxRecDepth 1000000
namespace L2
open PySem PySem.Spec PyProof.Rows
/-! ### a set's table: the search comes to an empty slot -/
noncomputable def itM (M i : Nat) : Nat := (i * 5 + 1) % (M + 1)
noncomputable def itN (M : Nat) : Nat → Nat → Nat
  | 0, i => i
  | n + 1, i => itN M n (itM M i)
/-- the bits of the slots that n leaps come to -/
noncomputable def orb (M : Nat) : Nat → Nat → Nat → Bool
  | 0, i, acc => Nat.beq i 0 && Nat.beq acc (2 ^ (M + 1) - 1)
  | n + 1, i, acc => match Nat.lor acc (Nat.shiftLeft 1 i) with
    | 0 => false
    | a + 1 => match itM M i with
      | 0 => orb M n 0 (a + 1)
      | j + 1 => orb M n (j + 1) (a + 1)
theorem orb_succ {M n i acc : Nat} (h : orb M (n + 1) i acc = true) : orb M n (itM M i) (Nat.lor acc (Nat.shiftLeft 1 i)) = true := by
  unfold orb at h
  cases e : Nat.lor acc (Nat.shiftLeft 1 i) with
  | zero => rw [e] at h; cases h
  | succ a =>
    rw [e] at h
    cases e2 : itM M i with
    | zero => rw [e2] at h; exact h
    | succ j => rw [e2] at h; exact h
theorem orb_cov {M : Nat} : ∀ {n i acc : Nat}, orb M n i acc = true → itN M n i = 0 ∧ ∀ e, e ≤ M → Nat.testBit acc e = false → ∃ k, k < n ∧ itN M k i = e
  | 0, i, acc, h => by
    unfold orb at h
    simp only [Bool.and_eq_true] at h
    refine ⟨Nat.eq_of_beq_eq_true h.1, fun e he hb => ?_⟩
    rw [Nat.eq_of_beq_eq_true h.2, Nat.testBit_two_pow_sub_one] at hb
    exact absurd (decide_eq_false_iff_not.mp hb) (by omega)
  | n + 1, i, acc, h => by
    obtain ⟨h1, h2⟩ := orb_cov (orb_succ h)
    refine ⟨h1, fun e he hb => ?_⟩
    by_cases c : i = e
    · exact ⟨0, Nat.zero_lt_succ _, c⟩
    · obtain ⟨k, hk, ek⟩ := h2 e he (by
        show Nat.testBit (acc ||| 1 <<< i) e = false
        rw [Nat.testBit_or, hb, Nat.one_shiftLeft, Nat.testBit_two_pow, Bool.false_or]
        exact decide_eq_false c)
      exact ⟨k + 1, by omega, ek⟩
noncomputable def FP (M : Nat) : Prop := ∀ i e, i ≤ M → e ≤ M → ∃ k, k ≤ M ∧ itN M k i = e
theorem itN_add {M : Nat} : ∀ (a b i : Nat), itN M (a + b) i = itN M b (itN M a i)
  | 0, b, i => by rw [Nat.zero_add]; rfl
  | a + 1, b, i => by
    rw [show a + 1 + b = (a + b) + 1 by omega]
    exact itN_add a b (itM M i)
theorem fp_of {M : Nat} (h : orb M (M + 1) 0 0 = true) : FP M := fun i e hi he => by
  obtain ⟨h0, h1⟩ := orb_cov h
  obtain ⟨a, ha, ea⟩ := h1 i hi (Nat.zero_testBit i)
  obtain ⟨b, hb, eb⟩ := h1 e he (Nat.zero_testBit e)
  by_cases c : a ≤ b
  · refine ⟨b - a, by omega, ?_⟩
    rw [← ea, ← itN_add, show a + (b - a) = b by omega]
    exact eb
  · refine ⟨(M + 1 - a) + b, by omega, ?_⟩
    rw [← ea, ← itN_add, show a + (M + 1 - a + b) = (M + 1) + b by omega, itN_add, h0]
    exact eb
theorem fp7 : FP 7 := fp_of (by decide +kernel)
theorem fp31 : FP 31 := fp_of (by decide +kernel)
theorem fp127 : FP 127 := fp_of (by decide +kernel)
theorem fp511 : FP 511 := fp_of (by decide +kernel)
theorem fp2047 : FP 2047 := fp_of (by decide +kernel)
theorem fp8191 : FP 8191 := fp_of (by decide +kernel)
/-! leaps -/
noncomputable def lpN (M : Nat) : Nat → Nat × Nat → Nat × Nat
  | 0, s => s
  | n + 1, s => lpN M n (SetTable.leap M s.1 s.2)
theorem lpN_add {M : Nat} : ∀ (a b : Nat) (s : Nat × Nat), lpN M (a + b) s = lpN M b (lpN M a s)
  | 0, b, s => by rw [Nat.zero_add]; rfl
  | a + 1, b, s => by
    rw [show a + 1 + b = (a + b) + 1 by omega]
    exact lpN_add a b _
theorem lpN_q {M : Nat} : ∀ (n : Nat) (s : Nat × Nat), (lpN M n s).2 = s.2 / 32 ^ n
  | 0, s => by rw [Nat.pow_zero, Nat.div_one]; rfl
  | n + 1, s => by
    show (lpN M n (SetTable.leap M s.1 s.2)).2 = _
    rw [lpN_q n]
    show s.2 / 32 / 32 ^ n = _
    rw [Nat.div_div_eq_div_mul, Nat.pow_succ, Nat.mul_comm]
theorem lpN_le {M : Nat} : ∀ (n : Nat) (s : Nat × Nat), s.1 ≤ M → (lpN M n s).1 ≤ M
  | 0, s, h => h
  | n + 1, s, h => lpN_le n _ (Nat.le_of_lt_succ (Nat.mod_lt _ (Nat.succ_pos M)))
theorem lpN_it {M : Nat} : ∀ (n i : Nat), lpN M n (i, 0) = (itN M n i, 0)
  | 0, i => rfl
  | n + 1, i => by
    show lpN M n (SetTable.leap M i 0) = _
    have : SetTable.leap M i 0 = (itM M i, 0) := rfl
    rw [this]
    exact lpN_it n (itM M i)
theorem lp_all {M : Nat} (F : FP M) {i q e : Nat} (hi : i ≤ M) (hq : q < 2 ^ 64) (he : e ≤ M) : ∃ k, k ≤ M + 13 ∧ (lpN M k (i, q)).1 = e := by
  have h1 := lpN_le (M := M) 13 (i, q) hi
  have h2 : (lpN M 13 (i, q)).2 = 0 := by
    rw [lpN_q]
    exact Nat.div_eq_of_lt (Nat.lt_of_lt_of_le hq (by decide))
  obtain ⟨k, hk, ek⟩ := F _ e h1 he
  refine ⟨13 + k, by omega, ?_⟩
  rw [lpN_add, show lpN M 13 (i, q) = ((lpN M 13 (i, q)).1, 0) from Prod.ext rfl h2, lpN_it]
  exact ek
/-! a probe's way -/
noncomputable def advN (t : SetTable) : Nat → SetTable.Probe → SetTable.Probe
  | 0, p => p
  | n + 1, p => advN t n (t.advance p)
theorem advN_add {t : SetTable} : ∀ (a b : Nat) (p : SetTable.Probe), advN t (a + b) p = advN t b (advN t a p)
  | 0, b, p => by rw [Nat.zero_add]; rfl
  | a + 1, b, p => by
    rw [show a + 1 + b = (a + b) + 1 by omega]
    exact advN_add a b _
noncomputable def hdP (M : Nat) (s : Nat × Nat) : SetTable.Probe := { j := s.1, more := SetTable.runEnd M s.1 - s.1, i := s.1, perturb := s.2, dummy := none }
theorem adv_run {t : SetTable} : ∀ (m : Nat) (p : SetTable.Probe), p.more = m → ∃ p', advN t m p = p' ∧ p'.more = 0 ∧ p'.i = p.i ∧ p'.perturb = p.perturb ∧ p'.dummy = p.dummy
  | 0, p, h => ⟨p, rfl, h, rfl, rfl, rfl⟩
  | m + 1, p, h => by
    have e : t.advance p = { p with j := p.j + 1, more := p.more - 1 } := by
      unfold SetTable.advance
      rw [if_pos (by omega)]
    obtain ⟨p', h1, h2, h3, h4, h5⟩ := adv_run (t := t) m { p with j := p.j + 1, more := p.more - 1 } (by show p.more - 1 = m; omega)
    refine ⟨p', ?_, h2, h3, h4, h5⟩
    show advN t m (t.advance p) = p'
    rw [e]
    exact h1
theorem adv_head {t : SetTable} (s : Nat × Nat) : ∃ n, n ≤ 10 ∧ advN t n (hdP t.mask s) = hdP t.mask (SetTable.leap t.mask s.1 s.2) := by
  obtain ⟨p', h1, h2, h3, h4, h5⟩ := adv_run (t := t) _ (hdP t.mask s) rfl
  refine ⟨(hdP t.mask s).more + 1, ?_, ?_⟩
  · show SetTable.runEnd t.mask s.1 - s.1 + 1 ≤ 10
    unfold SetTable.runEnd
    split <;> omega
  · rw [advN_add, h1]
    show t.advance p' = _
    unfold SetTable.advance
    rw [if_neg (by omega), h3, h4]
    obtain ⟨j, mo, i, q, d⟩ := p'
    have h5 : d = none := h5
    rw [h5]
    rfl
theorem adv_heads {t : SetTable} : ∀ (k : Nat) (s : Nat × Nat), ∃ n, n ≤ 10 * k ∧ advN t n (hdP t.mask s) = hdP t.mask (lpN t.mask k s)
  | 0, s => ⟨0, Nat.le_refl _, rfl⟩
  | k + 1, s => by
    obtain ⟨a, ha, ea⟩ := adv_head (t := t) s
    obtain ⟨b, hb, eb⟩ := adv_heads (t := t) k (SetTable.leap t.mask s.1 s.2)
    refine ⟨a + b, by omega, ?_⟩
    rw [advN_add, ea, eb]
    rfl
/-- n steps on, the probe stands at e -/
noncomputable def Rch (t : SetTable) (e n : Nat) (p : SetTable.Probe) : Prop := (advN t n p).j = e
theorem bits_lt (h : Int) : SetTable.bits h < 2 ^ 64 := by
  unfold SetTable.bits
  have h1 := Int.emod_lt_of_pos h (show (0 : Int) < 2 ^ 64 by decide)
  have h0 := Int.emod_nonneg h (show (2 ^ 64 : Int) ≠ 0 by decide)
  omega
theorem start_rch {t : SetTable} (F : FP t.mask) (h : Int) {e : Nat} (he : e ≤ t.mask) : ∃ n, n < 10 * SetTable.turns t.mask ∧ Rch t e n (t.probeStart h) := by
  have hi : SetTable.bits h % (t.mask + 1) ≤ t.mask := Nat.le_of_lt_succ (Nat.mod_lt _ (Nat.succ_pos _))
  obtain ⟨k, hk, ek⟩ := lp_all F hi (bits_lt h) he
  obtain ⟨n, hn, en⟩ := adv_heads (t := t) k (SetTable.bits h % (t.mask + 1), SetTable.bits h)
  refine ⟨n, ?_, ?_⟩
  · unfold SetTable.turns
    omega
  · unfold Rch
    rw [show t.probeStart h = hdP t.mask (SetTable.bits h % (t.mask + 1), SetTable.bits h) from rfl, en]
    exact ek
theorem slot_free {t : SetTable} (hd : t.dummies = #[]) {e : Nat} (he : e ∉ t.place.toList) : t.slot e = .empty := by
  unfold SetTable.slot
  have h1 : (t.place[SetTable.below t.place e]? == some e) = false := by
    rw [beq_eq_false_iff_ne]
    intro z
    exact he (Array.mem_toList_iff.mpr (Array.mem_of_getElem? z))
  have h2 : SetTable.has t.dummies e = false := by
    rw [hd]
    unfold SetTable.has
    simp
  simp only [h1, h2]
  rfl
theorem slot_no {t : SetTable} (hd : t.dummies = #[]) (e : Nat) : t.slot e ≠ .dummy := by
  unfold SetTable.slot
  have h2 : SetTable.has t.dummies e = false := by
    rw [hd]
    unfold SetTable.has
    simp
  simp only [h2]
  split
  · exact fun z => by cases z
  · exact fun z => by cases z
theorem adv_dummy {t : SetTable} (p : SetTable.Probe) : (t.advance p).dummy = p.dummy := by
  unfold SetTable.advance
  split <;> rfl
theorem go_some {t : SetTable} {hashAt : Nat → Int} {h : Int} {e : Nat} (hd : t.dummies = #[]) (hs : t.slot e = .empty) : ∀ (fuel n : Nat) (p : SetTable.Probe), n < fuel → Rch t e n p → p.dummy = none →
    (∃ j, SetTable.probe.go t hashAt h fuel p = some (.empty j none)) ∨ (∃ j i next m, SetTable.probe.go t hashAt h fuel p = some (.candidate j i next) ∧ t.slot j = .live i ∧ hashAt i = h ∧ next.dummy = none ∧ m < n ∧ Rch t e m next)
  | 0, n, p, hn, _, _ => absurd hn (Nat.not_lt_zero _)
  | fuel + 1, n, p, hn, hr, hp => by
    unfold SetTable.probe.go
    cases z : t.slot p.j with
    | empty => exact .inl ⟨p.j, by rw [hp]⟩
    | dummy => exact absurd z (slot_no hd _)
    | live i =>
      cases n with
      | zero =>
        have : p.j = e := hr
        rw [this, hs] at z
        cases z
      | succ n =>
        have hr' : Rch t e n (t.advance p) := hr
        show (∃ j, (if (hashAt i == h) = true then _ else _) = _) ∨ _
        by_cases c : (hashAt i == h) = true
        · refine .inr ⟨p.j, i, t.advance p, n, ?_, z, beq_iff_eq.mp c, by rw [adv_dummy, hp], by omega, hr'⟩
          simp only [c, if_true]
        · simp only [c, if_false]
          rcases go_some hd hs fuel n (t.advance p) (by omega) hr' (by rw [adv_dummy, hp]) with q | ⟨j, i', next, m, q, r, s', d, u, v⟩
          · exact .inl q
          · exact .inr ⟨j, i', next, m, q, r, s', d, by omega, v⟩
end L2

set_option maxRecDepth 1000000
namespace L2
open PySem PySem.Spec PyProof.Rows
/-! ### there is an empty slot; all laid anew -/
theorem sub_le {α : Type} [DecidableEq α] : ∀ {L M : List α}, L.Nodup → (∀ x ∈ L, x ∈ M) → L.length ≤ M.length
  | [], _, _, _ => Nat.zero_le _
  | a :: L, M, nd, h => by
    have hm := h a List.mem_cons_self
    have nd := List.nodup_cons.mp nd
    have := sub_le (L := L) (M := M.erase a) nd.2 fun x hx => (List.mem_erase_of_ne (fun (z : x = a) => nd.1 (by rw [← z]; exact hx))).mpr (h x (List.mem_cons_of_mem _ hx))
    rw [List.length_erase_of_mem hm] at this
    have : 0 < M.length := List.length_pos_of_mem hm
    show L.length + 1 ≤ M.length
    omega
theorem free_slot {M : Nat} {xs : Array Nat} (h : xs.size ≤ M) : ∃ e, e ≤ M ∧ e ∉ xs.toList := by
  by_cases c : ∃ e, e ≤ M ∧ e ∉ xs.toList
  · exact c
  · exfalso
    have := sub_le (L := List.range (M + 1)) (M := xs.toList) List.nodup_range fun x hx => by
      by_cases z : x ∈ xs.toList
      · exact z
      · exact absurd ⟨x, by have := List.mem_range.mp hx; omega, z⟩ c
    rw [List.length_range, Array.length_toList] at this
    omega
/-- the search from its start: an empty slot, or one with the same hash, and so on from there -/
theorem probe_start {t : SetTable} {hashAt : Nat → Int} {h : Int} (F : FP t.mask) (hd : t.dummies = #[]) (hf : t.place.size ≤ t.mask) : ∃ e n, t.slot e = .empty ∧ n < 10 * SetTable.turns t.mask ∧ Rch t e n (t.probeStart h) := by
  obtain ⟨e, he, hn⟩ := free_slot hf
  obtain ⟨n, h1, h2⟩ := start_rch F h he
  exact ⟨e, n, slot_free hd hn, h1, h2⟩
theorem probe_some {t : SetTable} {hashAt : Nat → Int} {h : Int} {e n : Nat} {p : SetTable.Probe} (hd : t.dummies = #[]) (hs : t.slot e = .empty) (hn : n < 10 * SetTable.turns t.mask) (hr : Rch t e n p) (hp : p.dummy = none) :
    (∃ j, t.probe hashAt h p = some (.empty j none)) ∨ (∃ j i next m, t.probe hashAt h p = some (.candidate j i next) ∧ t.slot j = .live i ∧ hashAt i = h ∧ next.dummy = none ∧ m < n ∧ Rch t e m next) := go_some hd hs _ n p hn hr hp
theorem live_lt {t : SetTable} {j i : Nat} (h : t.slot j = .live i) : i < t.place.size := by
  unfold SetTable.slot at h
  by_cases c : (t.place[SetTable.below t.place j]? == some j) = true
  · simp only [c, if_true] at h
    cases h
    exact (Array.getElem?_eq_some_iff.mp (beq_iff_eq.mp c)).1
  · exfalso
    have c : (t.place[SetTable.below t.place j]? == some j) = false := by simpa using c
    simp only [c] at h
    cases z : SetTable.has t.dummies j with
    | true => rw [z] at h; exact absurd h (fun y => by cases y)
    | false => rw [z] at h; exact absurd h (fun y => by cases y)
/-! laid anew -/
structure Lay (M : Nat) (own : Array (Option Nat)) (k : Nat) : Prop where
  sz : own.size = M + 1
  cnt : own.toList.countP Option.isSome = k
  lt : ∀ q, some q ∈ own.toList → q < k
theorem lay_free {M : Nat} {own : Array (Option Nat)} {k : Nat} (L : Lay M own k) (h : k ≤ M) : ∃ e, e ≤ M ∧ own.getD e (some 0) = none := by
  by_cases c : ∃ e, e ≤ M ∧ own.getD e (some 0) = none
  · exact c
  · exfalso
    have : own.toList.countP Option.isSome = own.toList.length := List.countP_eq_length.mpr fun x hx => by
      obtain ⟨i, hi, ei⟩ := List.mem_iff_getElem.mp hx
      cases x with
      | some _ => rfl
      | none =>
        rw [Array.length_toList] at hi
        refine absurd ⟨i, by have := L.sz; omega, ?_⟩ c
        rw [Array.getD_eq_getD_getElem?, Array.getElem?_eq_getElem hi]
        rw [Array.getElem_toList] at ei
        rw [ei]
        rfl
    rw [L.cnt, Array.length_toList, L.sz] at this
    omega
theorem free_some {M : Nat} {own : Array (Option Nat)} {e : Nat} (he : own.getD e (some 0) = none) : ∀ (fuel k : Nat) (s : Nat × Nat), k < fuel → (lpN M k s).1 = e → ∃ j, SetTable.layClean.free M own fuel s.1 s.2 = some j ∧ own.getD j (some 0) = none
  | 0, k, s, h, _ => absurd h (Nat.not_lt_zero _)
  | fuel + 1, k, s, h, ek => by
    unfold SetTable.layClean.free
    cases z : (List.range (SetTable.runEnd M s.1 + 1 - s.1)).find? fun k => (own.getD (s.1 + k) (some 0)).isNone with
    | some q =>
      have hz : (own.getD (s.1 + q) (some 0)).isNone = true := List.find?_some (p := fun k => (own.getD (s.1 + k) (some 0)).isNone) z
      exact ⟨s.1 + q, rfl, Option.isNone_iff_eq_none.mp hz⟩
    | none =>
      cases k with
      | zero =>
        have ek : s.1 = e := ek
        have := List.find?_eq_none.mp z 0 (List.mem_range.mpr (by unfold SetTable.runEnd; split <;> omega))
        rw [Nat.add_zero, ek, he] at this
        exact absurd rfl this
      | succ k =>
        exact free_some he fuel k (SetTable.leap M s.1 s.2) (by omega) ek
theorem count_set {own : Array (Option Nat)} {j k : Nat} (h : own.getD j (some 0) = none) : j < own.size ∧ (own.setIfInBounds j (some k)).toList.countP Option.isSome = own.toList.countP Option.isSome + 1 := by
  have hj : j < own.size := by
    by_cases c : j < own.size
    · exact c
    · rw [Array.getD_eq_getD_getElem?, Array.getElem?_eq_none (by omega)] at h
      cases h
  refine ⟨hj, ?_⟩
  have ej : own[j] = none := by
    rw [Array.getD_eq_getD_getElem?, Array.getElem?_eq_getElem hj] at h
    exact h
  rw [Array.toList_setIfInBounds, List.countP_set (by rw [Array.length_toList]; exact hj), Array.getElem_toList, ej]
  rfl
theorem lay_step {M : Nat} (F : FP M) {own : Array (Option Nat)} {k : Nat} (L : Lay M own k) (hk : k ≤ M) (h : Int) : ∃ j, SetTable.layClean.free M own (SetTable.turns M) (SetTable.bits h % (M + 1)) (SetTable.bits h) = some j ∧ Lay M (own.setIfInBounds j (some k)) (k + 1) := by
  obtain ⟨e, he, hn⟩ := lay_free L hk
  obtain ⟨n, hn1, hn2⟩ := lp_all F (Nat.le_of_lt_succ (Nat.mod_lt (SetTable.bits h) (Nat.succ_pos M))) (bits_lt h) he
  obtain ⟨j, h1, h2⟩ := free_some hn (SetTable.turns M) n (SetTable.bits h % (M + 1), SetTable.bits h) (by unfold SetTable.turns; omega) hn2
  refine ⟨j, h1, ?_⟩
  obtain ⟨hj, hc⟩ := count_set (k := k) h2
  refine ⟨by rw [Array.size_setIfInBounds]; exact L.sz, by rw [hc, L.cnt], fun q hq => ?_⟩
  rw [Array.toList_setIfInBounds] at hq
  rcases List.mem_or_eq_of_mem_set hq with z | z
  · have := L.lt q z
    omega
  · cases z
    omega
theorem lay_list {M : Nat} (F : FP M) : ∀ (hs : List Int) (own : Array (Option Nat)) (k : Nat), Lay M own k → k + hs.length ≤ M + 1 → ∃ own', (hs.foldl (fun (acc : Option (Array (Option Nat) × Nat)) h => do
    let (owner, k) ← acc
    let j ← SetTable.layClean.free M owner (SetTable.turns M) (SetTable.bits h % (M + 1)) (SetTable.bits h)
    pure (owner.setIfInBounds j (some k), k + 1)) (some (own, k))) = some (own', k + hs.length) ∧ Lay M own' (k + hs.length)
  | [], own, k, L, _ => ⟨own, rfl, L⟩
  | h :: hs, own, k, L, hl => by
    have hl : k + (hs.length + 1) ≤ M + 1 := hl
    obtain ⟨j, e, L'⟩ := lay_step F L (by omega) h
    obtain ⟨own', e', L''⟩ := lay_list F hs _ (k + 1) L' (by omega)
    refine ⟨own', ?_, by rw [show k + (h :: hs).length = k + 1 + hs.length by rw [List.length_cons]; omega]; exact L''⟩
    rw [List.foldl_cons, show k + (h :: hs).length = k + 1 + hs.length by rw [List.length_cons]; omega, ← e']
    congr 1
    show (do let j ← SetTable.layClean.free M own (SetTable.turns M) (SetTable.bits h % (M + 1)) (SetTable.bits h); pure (own.setIfInBounds j (some k), k + 1)) = _
    rw [e]
    rfl
theorem lay_clean {M : Nat} (F : FP M) (hs : Array Int) (h : hs.size ≤ M + 1) : ∃ own, SetTable.layClean M hs = some own ∧ Lay M own hs.size := by
  have L0 : Lay M (Array.replicate (M + 1) none) 0 := ⟨Array.size_replicate, by rw [Array.toList_replicate, List.countP_replicate]; rfl, fun q hq => by
    rw [Array.toList_replicate] at hq
    cases (List.mem_replicate.mp hq).2⟩
  obtain ⟨own, e, L⟩ := lay_list F hs.toList _ 0 L0 (by rw [Array.length_toList]; omega)
  rw [Nat.zero_add, Array.length_toList] at e L
  refine ⟨own, ?_, L⟩
  unfold SetTable.layClean
  rw [← Array.foldl_toList, e]
  rfl
theorem fm_len {own : Array (Option Nat)} {M : Nat} (hs : own.size = M + 1) : ((List.range (M + 1)).filterMap fun j => (own.getD j none).map (j, ·)).length = own.toList.countP Option.isSome ∧ ∀ p ∈ ((List.range (M + 1)).filterMap fun j => (own.getD j none).map (j, ·)), some p.2 ∈ own.toList := by
  constructor
  · rw [List.length_filterMap_eq_countP]
    have : own.toList = (List.range (M + 1)).map fun j => own.getD j none := by
      refine List.ext_getElem (by rw [Array.length_toList, List.length_map, List.length_range, hs]) fun i h1 h2 => ?_
      rw [Array.length_toList] at h1
      rw [List.getElem_map, List.getElem_range, Array.getElem_toList, Array.getD_eq_getD_getElem?, Array.getElem?_eq_getElem h1]
      rfl
    rw [this, List.countP_map]
    congr 1
    funext j
    show ((own.getD j none).map (j, ·)).isSome = (own.getD j none).isSome
    rw [Option.isSome_map]
  · intro p hp
    obtain ⟨j, hj, e⟩ := List.mem_filterMap.mp hp
    obtain ⟨q, hq, rfl⟩ := Option.map_eq_some_iff.mp e
    rw [Array.getD_eq_getD_getElem?] at hq
    cases z : own[j]? with
    | none => rw [z] at hq; cases hq
    | some x =>
      rw [z] at hq
      have hq : x = some q := hq
      rw [hq] at z
      exact Array.mem_toList_iff.mpr (Array.mem_of_getElem? z)
theorem laid_ok {M finger moves : Nat} {led plain : Bool} (F : FP M) (hs : Array Int) (h : hs.size ≤ M + 1) : ∃ t order, SetTable.laid M finger moves led plain hs = some (t, order) ∧ t.mask = M ∧ t.place.size = hs.size ∧ t.dummies = #[] ∧ t.led = led ∧ t.plain = plain ∧ t.moves = moves ∧ order.size = hs.size ∧ ∀ q ∈ order.toList, q < hs.size := by
  obtain ⟨own, e, L⟩ := lay_clean F hs h
  obtain ⟨h1, h2⟩ := fm_len L.sz
  rw [L.cnt] at h1
  refine ⟨_, _, by unfold SetTable.laid; rw [e]; rfl, rfl, ?_, rfl, rfl, rfl, rfl, ?_, fun q hq => ?_⟩
  · rw [List.size_toArray, List.length_map]
    exact h1
  · rw [List.size_toArray, List.length_map]
    exact h1
  · obtain ⟨p, hp, rfl⟩ := List.mem_map.mp hq
    exact L.lt _ (h2 p hp)
end L2

namespace L2
open PySem PySem.Spec PyProof.Rows
/-! ### a key like no other is laid into a set -/
structure SKind (P : Program) (w : World) (K : Type) [DecidableEq K] extends HeapKind P w K where
  cls : ∀ {A : Around} {E : Value → Shared → Prop} {s : Shared} {k : K} {a : Addr} {Q : Bool → Shared → Prop}, is s.heap k a → Q false s → wpAny (model P w) A (ofAClassStatement 8 (.ref a)) Q E s
  byv : ∀ {A : Around} {E : Value → Shared → Prop} {s : Shared} {k : K} {a : Addr} {Q : Bool → Shared → Prop}, is s.heap k a → (∀ b, Q b s) → wpAny (model P w) A (hashByValue 8 (.ref a)) Q E s
  keepT : ∀ {h h' : Heap} {k : K} {a : Addr}, is h k a → (∀ c o, h.get? c = some o → o.cls = .type "tuple" → h'.get? c = some o) → is h' k a
section
variable {P : Program} {w : World} {K : Type} [DecidableEq K] (knd : SKind P w K)
/-- what lies in the set: keys, none of them k -/
noncomputable def Other (h : Heap) (k : K) (es : Array (Int × Value)) : Prop := ∀ e ∈ es.toList, ∃ k' b, e.2 = .ref b ∧ knd.is h k' b ∧ k' ≠ k
variable {knd} {A : Around} {E : Value → Shared → Prop} {s : Shared}
theorem seen_no {k : K} {b : Addr} (hk : knd.is s.heap k b) : ∀ {l : List Value} {Q : Bool → Shared → Prop}, (∀ v ∈ l, ∃ k' b', v = .ref b' ∧ knd.is s.heap k' b') → Q false s → wpAny (model P w) A (searchCouldBeSeen (.ref b) l) Q E s := by
  intro l Q hl hq
  unfold searchCouldBeSeen
  refine wpAny_bind ?_
  refine wpAny_forIn_list _ (fun rest r s' => r.1 = none ∧ s' = s ∧ ∀ v ∈ rest, ∃ k' b', v = Value.ref b' ∧ knd.is s.heap k' b') _ ?_ ?_ _ _ ⟨rfl, rfl, hl⟩
  · rintro v rest r s' ⟨hr, rfl, hall⟩
    obtain ⟨k', b', rfl, hk'⟩ := hall v List.mem_cons_self
    have go : ∀ v ∈ rest, ∃ k' b', v = Value.ref b' ∧ knd.is s'.heap k' b' := fun v hv => hall v (List.mem_cons_of_mem _ hv)
    show wpAny (model P w) A (if ((b == b') || (carriedByValue (Value.ref b) && carriedByValue (Value.ref b'))) = true then _ else _) _ _ _
    by_cases c : ((b == b') || (carriedByValue (Value.ref b) && carriedByValue (Value.ref b'))) = true
    · rw [if_pos c]
      exact wpAny_pure ⟨rfl, rfl, go⟩
    · rw [if_neg c]
      refine wpAny_bind (knd.quiet hk ?_)
      simp only [Bool.not_true, Bool.false_eq_true, if_false]
      refine wpAny_bind (knd.quiet hk' ?_)
      simp only [Bool.not_true, Bool.false_eq_true, if_false]
      refine wpAny_bind (knd.cls hk ?_)
      simp only [Bool.false_eq_true, if_false]
      refine wpAny_bind (knd.cls hk' ?_)
      simp only [Bool.false_eq_true, if_false]
      exact wpAny_pure ⟨rfl, rfl, go⟩
  · rintro ⟨r1, r2⟩ s' ⟨hr, rfl, _⟩
    simp only at hr
    subst hr
    exact wpAny_pure hq
theorem search_new {a : Addr} {o : Obj} {es : Array (Int × Value)} {ep : Nat} {t : SetTable} {k : K} {b : Addr} {h : Int} {e : Nat} {Q : SetFound → Shared → Prop}
    (ho : s.heap.get? a = some o) (hd : o.data = .set es ep t) (hf : t.fits es.size = true) (hdm : t.dummies = #[]) (hodd : t.gaveWay = false) (hk : knd.is s.heap k b) (hr : knd.room A) (hO : Other knd s.heap k es) (hs : t.slot e = .empty) (hQ : ∀ j, Q (.free j false) s) :
    ∀ (fuel n : Nat) (st : Option SetTable.Probe), n < fuel → n < 10 * SetTable.turns t.mask → Rch t e n (st.getD (t.probeStart h)) → (st.getD (t.probeStart h)).dummy = none → wpAny (model P w) A (setSearchFrom a (.ref b) h true fuel st) Q E s
  | 0, n, st, hn, _, _, _ => absurd hn (Nat.not_lt_zero _)
  | fuel + 1, n, st, hn, hn2, hR, hp => by
    unfold setSearchFrom
    refine wpAny_bind (wpAny_setState_of ho hd hf ?_)
    dsimp only
    rw [hodd]
    simp only [Bool.false_eq_true, if_false]
    rcases probe_some (hashAt := _) (h := h) hdm hs hn2 hR hp with ⟨j, ej⟩ | ⟨j, i, next, m, ej, hl, _, hnd, hm, hRm⟩
    · rw [ej]
      exact wpAny_pure (hQ j)
    rw [ej]
    dsimp only
    have hsz : t.place.size = es.size := by
      simp only [SetTable.fits, Bool.and_eq_true, beq_iff_eq] at hf
      exact hf.1
    have hi : i < es.size := by have := live_lt hl; omega
    obtain ⟨k', b', ey, hk', hne⟩ := hO es[i] (by rw [← Array.getElem_toList hi]; exact List.getElem_mem _)
    have ex : es[i] = (es[i].1, Value.ref b') := by rw [← ey]
    have hsm : t.sameMemory t.moves t.mask = some true := by unfold SetTable.sameMemory; simp
    cases hled : t.led with
    | true =>
      simp only [Bool.not_true, Bool.false_eq_true, if_false]
      rw [Array.getElem?_eq_getElem hi, ex]
      dsimp only
      refine wpAny_bind (wpAny_holding (knd.eqBool hr hk' hk ?_))
      rw [decide_eq_false hne]
      refine wpAny_bind (wpAny_setState_of ho hd hf ?_)
      dsimp only
      rw [hsm]
      simp only [Bool.and_false, Bool.false_eq_true, if_false, if_true, hl]
      rw [Array.getElem?_eq_getElem hi, ex]
      dsimp only
      refine wpAny_bind (wpAny_isSame_ref_self ?_)
      refine wpAny_bind (wpAny_pure ?_)
      simp only [if_true]
      exact search_new ho hd hf hdm hodd hk hr hO hs hQ fuel m (some next) (by omega) (by omega) hRm hnd
    | false =>
      simp only [Bool.not_false, if_true]
      refine wpAny_bind (seen_no hk (fun v hv => ?_) ?_)
      · obtain ⟨x, hx, rfl⟩ := List.mem_map.mp hv
        obtain ⟨k2, b2, e2, h2, _⟩ := hO x (Array.mem_toList_iff.mpr (Array.mem_of_mem_filter (Array.mem_toList_iff.mp hx)))
        exact ⟨k2, b2, e2, h2⟩
      simp only [Bool.false_eq_true, if_false]
      rw [Array.getElem?_eq_getElem hi, ex]
      dsimp only
      refine wpAny_bind (wpAny_holding (knd.eqBool hr hk' hk ?_))
      rw [decide_eq_false hne]
      refine wpAny_bind (wpAny_setState_of ho hd hf ?_)
      dsimp only
      rw [hsm]
      simp only [Bool.and_false, Bool.false_eq_true, if_false, if_true, hl]
      rw [Array.getElem?_eq_getElem hi, ex]
      dsimp only
      refine wpAny_bind (wpAny_isSame_ref_self ?_)
      refine wpAny_bind (wpAny_pure ?_)
      simp only [if_true]
      exact search_new ho hd hf hdm hodd hk hr hO hs hQ fuel m (some next) (by omega) (by omega) hRm hnd
end
end L2

namespace L2
open PySem PySem.Spec PyProof.Rows
noncomputable def MK (m : Nat) : Prop := m = 7 ∨ m = 31 ∨ m = 127 ∨ m = 511 ∨ m = 2047 ∨ m = 8191
theorem MK.fp {m : Nat} (h : MK m) : FP m := by
  rcases h with rfl | rfl | rfl | rfl | rfl | rfl
  · exact fp7
  · exact fp31
  · exact fp127
  · exact fp511
  · exact fp2047
  · exact fp8191
/-- a table with n places taken, none given up -/
structure TB (t : SetTable) (n : Nat) : Prop where
  dm : t.dummies = #[]
  sz : t.place.size = n
  mm : MK t.mask
  few : n ≤ t.mask
theorem TB.fits {t : SetTable} {n : Nat} (h : TB t n) : t.fits n = true := by
  have h1 := h.few
  have h2 := h.sz
  unfold SetTable.fits SetTable.fill
  rw [h.dm, h.sz]
  simp
  exact h1
theorem TB.odd {t : SetTable} {n : Nat} (h : TB t n) : t.gaveWay = false := by
  unfold SetTable.gaveWay
  rcases h.mm with e | e | e | e | e | e <;> rw [e] <;> rfl
theorem TB.full {t : SetTable} {n : Nat} (h : TB t n) : t.tooFull = decide (t.mask * 3 ≤ n * 5) := by
  unfold SetTable.tooFull SetTable.fill
  rw [h.dm, h.sz]
  simp
/-- room for one more, then laid anew -/
theorem grow_ok {m n : Nat} (h : MK m) (h1 : (n - 1) * 5 < m * 3) (h2 : m * 3 ≤ n * 5) (h3 : n ≤ 4000) : MK (SetTable.sizeAbove (SetTable.grown n) - 1) ∧ n * 5 < (SetTable.sizeAbove (SetTable.grown n) - 1) * 3 ∧ SetTable.sizeAbove (SetTable.grown n) ≤ sizeLine := by
  rcases h with rfl | rfl | rfl | rfl | rfl | rfl
  · have : n = 5 := by omega
    subst this; exact ⟨.inr (.inl rfl), by decide, by decide⟩
  · have : n = 19 := by omega
    subst this; exact ⟨.inr (.inr (.inl rfl)), by decide, by decide⟩
  · have : n = 77 := by omega
    subst this; exact ⟨.inr (.inr (.inr (.inl rfl))), by decide, by decide⟩
  · have : n = 307 := by omega
    subst this; exact ⟨.inr (.inr (.inr (.inr (.inl rfl)))), by decide, by decide⟩
  · have : n = 1229 := by omega
    subst this; exact ⟨.inr (.inr (.inr (.inr (.inr rfl)))), by decide, by decide⟩
  · omega
theorem put_tb {t : SetTable} {n : Nat} (h : TB t n) (j : Nat) (h1 : n < t.mask) : TB (t.put j).1 (n + 1) ∧ (t.put j).1.led = t.led ∧ (t.put j).1.plain = t.plain := by
  have e : (SetTable.insertAt t.place (SetTable.below t.place j) j).size = n + 1 := by
    have := (SetTable.insertAt_perm t.place (SetTable.below t.place j) j).length_eq
    rw [Array.length_toList, Array.length_toList, Array.size_push, h.sz] at this
    exact this
  refine ⟨⟨?_, e, h.mm, h1⟩, rfl, rfl⟩
  show (if SetTable.has t.dummies j then SetTable.eraseAt t.dummies (SetTable.below t.dummies j) else t.dummies) = #[]
  rw [h.dm]
  have : SetTable.has #[] j = false := by unfold SetTable.has; simp
  rw [this]
  rfl
theorem TB.plain {t : SetTable} {n : Nat} (h : TB t n) (b : Bool) : TB (if b = true then t else { t with plain := false }) n := by
  cases b with
  | true => exact h
  | false => exact ⟨h.dm, h.sz, h.mm, h.few⟩
theorem fm_size {α : Type} (es : Array α) (order : Array Nat) (h : ∀ q ∈ order.toList, q < es.size) : (order.filterMap (es[·]?)).size = order.size ∧ ∀ e ∈ (order.filterMap (es[·]?)).toList, e ∈ es.toList := by
  have e : (order.filterMap (es[·]?)).toList = order.toList.filterMap (es[·]?) := Array.toList_filterMap
  constructor
  · rw [← Array.length_toList, e, List.length_filterMap_eq_countP, ← Array.length_toList, List.countP_eq_length]
    intro q hq
    rw [Array.getElem?_eq_getElem (h q hq)]
    rfl
  · intro x hx
    rw [e] at hx
    obtain ⟨q, hq, ex⟩ := List.mem_filterMap.mp hx
    exact Array.mem_toList_iff.mpr (Array.mem_of_getElem? ex)
section
variable {P : Program} {w : World} {A : Around} {E : Value → Shared → Prop} {s : Shared}
/-- a set of n, of what lies in es -/
noncomputable def SetS (h : Heap) (a : Addr) (es : Array (Int × Value)) : Prop := ∃ o ep t, h.get? a = some o ∧ o.ExactSet ∧ o.data = .set es ep t ∧ TB t es.size ∧ es.size * 5 < t.mask * 3
theorem relay_ok {a : Addr} {o : Obj} {es : Array (Int × Value)} {ep : Nat} {t : SetTable} {Q : Unit → Shared → Prop} (ho : s.heap.get? a = some o) (hx : o.ExactSet) (hd : o.data = .set es ep t) (hT : TB t es.size) (h1 : (es.size - 1) * 5 < t.mask * 3) (h2 : t.mask * 3 ≤ es.size * 5) (h3 : es.size ≤ 4000)
    (h : ∀ h' es', Heap.SameBut a s.heap h' → es'.size = es.size → (∀ e ∈ es'.toList, e ∈ es.toList) → SetS h' a es' → Q () { s with heap := h' }) : wpAny (model P w) A (setRelay a (SetTable.grown es.size)) Q E s := by
  obtain ⟨g1, g2, g3⟩ := grow_ok hT.mm h1 h2 h3
  unfold setRelay
  refine wpAny_bind (wpAny_setState_of ho hd hT.fits ?_)
  dsimp only
  rw [if_neg (by omega)]
  obtain ⟨t', order, e, em, es1, ed, el, ep', emv, eo, eq⟩ := laid_ok (finger := t.finger) (moves := t.movedTo (SetTable.sizeAbove (SetTable.grown es.size) - 1)) (led := t.led) (plain := t.plain) g1.fp (es.map (·.1)) (by rw [Array.size_map]; omega)
  rw [Array.size_map] at es1 eo eq
  have er : t.relaid (es.map (·.1)) (SetTable.grown es.size) = some (t', order) := e
  rw [er]
  obtain ⟨f1, f2⟩ := fm_size es order eq
  refine wpAny_bind ?_
  show wpAny (model P w) A (if ((order.filterMap (es[·]?)).size != es.size) = true then _ else pure (order.filterMap (es[·]?), t')) _ _ _
  rw [if_neg (by rw [f1, eo]; simp)]
  refine wpAny_pure ?_
  dsimp only
  have sz : (order.filterMap (es[·]?)).size = es.size := by rw [f1, eo]
  have T' : TB t' (order.filterMap (es[·]?)).size := ⟨ed, by rw [sz, es1], by rw [em]; exact g1, by rw [sz, em]; omega⟩
  refine wpAny_storeSet_of ho hd (h _ _ (Heap.SameBut.update _ _ _) sz f2 ?_) (by rw [sz]; exact Nat.le_trans h3 (by decide))
  have hg := Heap.get?_update_self (Obj.putSet (order.filterMap (es[·]?)) t') ho (by rw [putSet_of _ _ hd]; rfl)
  rw [putSet_of _ _ hd] at hg
  exact ⟨_, ep + 1, t', hg, hx, rfl, T', by rw [sz, em]; exact g2⟩
end
end L2

namespace L2
open PySem PySem.Spec PyProof.Rows
section
variable {P : Program} {w : World} {K : Type} [DecidableEq K] {knd : SKind P w K} {A : Around} {E : Value → Shared → Prop} {s : Shared}
theorem lay_new {a : Addr} {o : Obj} {es : Array (Int × Value)} {ep : Nat} {t t' : SetTable} {e0 : Int × Value} {p : Nat} {Q : Bool → Shared → Prop} (ho : s.heap.get? a = some o) (hx : o.ExactSet) (hd : o.data = .set es ep t) (hT : TB t' (es.size + 1)) (h5 : es.size * 5 < t'.mask * 3) (hn : es.size < 3999)
    (hQ : ∀ h' es', Heap.SameBut a s.heap h' → es'.size = es.size + 1 → (∀ e ∈ es'.toList, e ∈ es.toList ∨ e = e0) → SetS h' a es' → Q true { s with heap := h' }) :
    wpAny (model P w) A (storeSet a (SetTable.insertAt es p e0) t' >>= fun _ => if (!false && t'.tooFull) = true then setRelay a (SetTable.grown (es.size + 1)) >>= fun _ => pure true else pure true) Q E s := by
  have sz : (SetTable.insertAt es p e0).size = es.size + 1 := by
    have := (SetTable.insertAt_perm es p e0).length_eq
    rw [Array.length_toList, Array.length_toList, Array.size_push] at this
    exact this
  have hm : ∀ e ∈ (SetTable.insertAt es p e0).toList, e ∈ es.toList ∨ e = e0 := fun e he => by
    have := (SetTable.insertAt_perm es p e0).mem_iff.mp he
    rw [Array.toList_push] at this
    rcases List.mem_append.mp this with z | z
    · exact .inl z
    · exact .inr (List.mem_singleton.mp z)
  refine wpAny_bind (wpAny_storeSet_of ho hd ?_ (by rw [sz]; exact Nat.le_trans (show es.size + 1 ≤ 4000 by omega) (by decide)))
  have hg := Heap.get?_update_self (Obj.putSet (SetTable.insertAt es p e0) t') ho (by rw [putSet_of _ _ hd]; rfl)
  rw [putSet_of _ _ hd] at hg
  have sb := Heap.SameBut.update s.heap a (Obj.putSet (SetTable.insertAt es p e0) t')
  have T' : TB t' (SetTable.insertAt es p e0).size := by rw [sz]; exact hT
  rw [hT.full]
  by_cases c : t'.mask * 3 ≤ (es.size + 1) * 5
  · rw [decide_eq_true c]
    simp only [Bool.not_false, Bool.and_true, if_true]
    refine wpAny_bind ?_
    rw [← sz]
    refine relay_ok (s := { s with heap := s.heap.update a (Obj.putSet (SetTable.insertAt es p e0) t') }) hg hx rfl T' (by rw [sz]; exact h5) (by rw [sz]; exact c) (by rw [sz]; omega) fun h' es' sb' z' m' S' => ?_
    exact wpAny_pure (hQ h' es' (sb.trans sb') (by rw [z', sz]) (fun e he => hm e (m' e he)) S')
  · rw [decide_eq_false c]
    simp only [Bool.and_false, Bool.false_eq_true, if_false]
    exact wpAny_pure (hQ _ _ sb sz hm ⟨_, ep + 1, t', hg, hx, rfl, T', by rw [sz]; omega⟩)
theorem add_new {a : Addr} {es : Array (Int × Value)} {k : K} {b : Addr} {h : Int} {Q : Bool → Shared → Prop} (hS : SetS s.heap a es) (hn : es.size < 3999) (hk : knd.is s.heap k b) (hr : knd.room A) (hO : Other knd s.heap k es)
    (hQ : ∀ h' es', Heap.SameBut a s.heap h' → es'.size = es.size + 1 → (∀ e ∈ es'.toList, e ∈ es.toList ∨ e = (h, .ref b)) → SetS h' a es' → Q true { s with heap := h' }) : wpAny (model P w) A (setAddHashed a (.ref b) h) Q E s := by
  obtain ⟨o, ep, t, ho, hx, hd, hT, h5⟩ := hS
  have hmask : t.mask ≤ 8191 := by rcases hT.mm with e | e | e | e | e | e <;> omega
  have hlt : es.size < t.mask := by omega
  unfold setAddHashed
  refine wpAny_holding ?_
  rw [show (100000 : Nat) = 99999 + 1 from rfl]
  unfold setAddHashedIn
  refine wpAny_bind (wpAny_setState_of ho hd hT.fits ?_)
  dsimp only
  rw [if_neg (show ¬ byScan (.ref b) es = true from fun z => by cases z)]
  obtain ⟨e, n, hs, hn1, hR⟩ := probe_start (t := t) (hashAt := fun _ => 0) (h := h) hT.mm.fp hT.dm (by rw [hT.sz]; exact hT.few)
  refine wpAny_bind ?_
  unfold setSearch
  refine search_new ho hd hT.fits hT.dm hT.odd hk hr hO hs (fun j => ?_) 100000 n none (by unfold SetTable.turns at hn1; omega) hn1 hR rfl
  dsimp only
  refine wpAny_bind (wpAny_setState_of ho hd hT.fits ?_)
  dsimp only
  obtain ⟨hT', _, _⟩ := put_tb hT j hlt
  have hm' : (t.put j).1.mask = t.mask := rfl
  have fin : ∀ bv : Bool, wpAny (model P w) A (storeSet a (SetTable.insertAt es (t.put j).snd (h, Value.ref b)) (if bv = true then (t.put j).fst else { (t.put j).fst with plain := false }) >>= fun _ => if (!false && (if bv = true then (t.put j).fst else { (t.put j).fst with plain := false }).tooFull) = true then setRelay a (SetTable.grown (es.size + 1)) >>= fun _ => pure true else pure true) Q E s := fun bv => by
    refine lay_new ho hx hd (hT'.plain bv) ?_ hn hQ
    cases bv <;> exact h5
  by_cases c : (t.put j).fst.plain = true
  · rw [if_pos c]
    exact wpAny_bind (knd.byv hk fin)
  · rw [if_neg c]
    exact wpAny_bind (wpAny_pure (fin true))
end
end L2

namespace L2
open PySem PySem.Spec PyProof.Rows
theorem entry_sul : entryFor table "set.update.loop" = some Builtin.«set.update.loop» := entryFor_of_tree (by kernel_rfl)
theorem plain_sul : plainId "set.update.loop" = true := by decide +kernel
section
variable {P : Program} {w : World} {K : Type} [DecidableEq K] {knd : SKind P w K} {A : Around} {R : Result → Shared → Prop}
/-- what stands in a set stands among the first i of the list -/
noncomputable def InF (its : Array Value) (i : Nat) (es : Array (Int × Value)) : Prop := ∀ e ∈ es.toList, ∃ j, j < i ∧ its[j]? = some e.2
theorem setLoop {d it t : Addr} {its : Array Value} {ks : List K} (hr : knd.room A.in1) (hh : A.handled = none) (hn1 : d ≠ it) (hn2 : t ≠ it) (hn3 : t ≠ d) (hl : its.size = ks.length) (hnd : ks.Nodup) (hf : its.size ≤ 3998) :
    ∀ (m i : Nat) (s : Shared) (es : Array (Int × Value)), its.size - i = m → i ≤ its.size → es.size = i → InF its i es → s.heap.IsListIter it t i → s.heap.IsList t its → SetS s.heap d es →
      (∀ (j : Nat) v k, its[j]? = some v → ks[j]? = some k → ∃ b, v = .ref b ∧ knd.is s.heap k b) →
      (∀ h' tk es', SetS h' d es' → es'.size = its.size → (∀ b o, b ≠ d → b ≠ it → s.heap.get? b = some o → h'.get? b = some o) → R (.ok (.ret .none)) { s with heap := h', toks := tk }) →
      codeAny (model P w) A (.builtin "set.update.loop" ⟨[.ref d, .ref it], []⟩) R s := by
  intro m
  induction m with
  | zero =>
    intro i s es hk hi hz hF hit ht hS hp hR
    have e : i = its.size := by omega
    refine codeAny_builtin entry_sul ?_
    rw [Around.under_plainId plain_sul _]
    show wpAny _ A.in1 (pyNext (.ref it) >>= _) _ _ s
    refine wpAny_bind (wpAny_pyNext_list_end (show A.in1.handled = none from hh) hit ht (Array.getElem?_eq_none (by omega)) fun h' eb => ?_)
    refine wpAny_pure ?_
    obtain ⟨o, ep, tt, ho, r⟩ := hS
    exact hR h' s.toks es ⟨o, ep, tt, eb d o hn1 ho, r⟩ (by omega) fun b o n1 n2 z => eb b o n2 z
  | succ m ih =>
    intro i s es hk hi hz hF hit ht hS hp hR
    have hlt : i < its.size := by omega
    have hx : its[i]? = some its[i] := Array.getElem?_eq_getElem hlt
    have hr' : ks[i]? = some ks[i] := List.getElem?_eq_getElem (by omega)
    refine codeAny_builtin entry_sul ?_
    rw [Around.under_plainId plain_sul _]
    show wpAny _ A.in1 (pyNext (.ref it) >>= _) _ _ s
    refine wpAny_bind (wpAny_pyNext_list_item hit ht hx fun g hit' hs => ?_)
    obtain ⟨oi, hoi, hci, _⟩ := id hit
    have tg : ∀ c o, s.heap.get? c = some o → o.cls = .type "tuple" → g.get? c = some o := fun c o z y => hs.extBut c o (fun q => by
      rw [q, hoi] at z
      cases z
      rw [hci] at y
      exact absurd y (by decide)) z
    have kg : ∀ (j : Nat) v k, its[j]? = some v → ks[j]? = some k → ∃ b, v = .ref b ∧ knd.is g k b := fun j v k h1 h2 => by
      obtain ⟨b, e, h3⟩ := hp j v k h1 h2
      exact ⟨b, e, knd.keepT h3 tg⟩
    have hSg : SetS g d es := by
      obtain ⟨o, ep, tt, ho, r⟩ := hS
      exact ⟨o, ep, tt, hs.extBut d o hn1 ho, r⟩
    obtain ⟨b, hb, hkb⟩ := kg i _ _ hx hr'
    rw [hb]
    show wpAny _ A.in1 (holding [Value.ref b] (setAdd d (.ref b)) >>= _) _ _ _
    refine wpAny_bind (wpAny_holding ?_)
    unfold setAdd
    refine wpAny_holding (wpAny_bind (knd.pyHash hr hkb ?_))
    refine add_new (knd := knd) (s := { s with heap := g, toks := s.toks + knd.draws ks[i] }) hSg (by omega) hkb hr (fun e he => ?_) fun g2 es2 sb sz mm S2 => ?_
    · obtain ⟨j, hj, ej⟩ := hF e he
      obtain ⟨b', eb, hkb'⟩ := kg j _ _ ej (List.getElem?_eq_getElem (by omega : j < ks.length))
      refine ⟨_, b', eb, hkb', fun z => ?_⟩
      have := (List.getElem_inj hnd).mp z
      omega
    obtain ⟨od, epd, td, hod, hxd, _⟩ := id hSg
    have t2 : ∀ c o, g.get? c = some o → o.cls = .type "tuple" → g2.get? c = some o := fun c o z y => sb.extBut c o (fun q => by
      rw [q, hod] at z
      cases z
      rw [hxd.1] at y
      exact absurd y (by decide)) z
    refine wpAny_pure ⟨plainId_quiet plain_sul _, ?_⟩
    refine ih (i + 1) _ es2 (by omega) hlt (by omega) (fun e he => ?_) (hit'.extBut sb.extBut (Ne.symm hn1)) (ht.extBut hs.extBut hn2 |>.extBut sb.extBut hn3) S2 (fun j v k h1 h2 => ?_) fun h' tk es' S' z' k' => ?_
    · rcases mm e he with z | z
      · obtain ⟨j, hj, ej⟩ := hF e z
        exact ⟨j, by omega, ej⟩
      · rw [z]
        exact ⟨i, by omega, by rw [hx, hb]⟩
    · obtain ⟨b', e, h3⟩ := kg j v k h1 h2
      exact ⟨b', e, knd.keepT h3 t2⟩
    · exact hR h' tk es' S' z' fun c o n1 n2 z => k' c o n1 n2 (sb.extBut c o n1 (hs.extBut c o n2 z))
end
end L2

namespace L2
open PySem PySem.Spec PyProof.Rows PySem.W
/-! ### tuples of tuples as keys -/
section
variable {prog : Program} {w : World} {K : Type} [DecidableEq K] (knd : KeyKind prog w K)
inductive NIts (h : Heap) : List (List K) → List Value → Prop
  | nil : NIts h [] []
  | cons {k : List K} {a : Addr} {ks : List (List K)} {vs : List Value} : IsTupleKey knd h k a → NIts h ks vs → NIts h (k :: ks) (.ref a :: vs)
noncomputable def IsNest (h : Heap) (ks : List (List K)) (a : Addr) : Prop := ∃ o items n, h.get? a = some o ∧ o.cls = .type "tuple" ∧ o.data = .seq items n ∧ NIts knd h ks items.toList
noncomputable def nestHash (ks : List (List K)) : Int := reduceHash (Builtin.Tuple.tupleHashOf (ks.map (tupleKeyHash knd)))
noncomputable def nestDraws (ks : List (List K)) : Nat := (ks.map fun k => k.length + 1).sum + 1
variable {knd}
theorem NIts.inj {h : Heap} {x y : List (List K)} {vs : List Value} (hx : NIts knd h x vs) (hy : NIts knd h y vs) : x = y := by
  induction hx generalizing y with
  | nil => cases hy; rfl
  | cons h1 _ ih =>
    cases hy with
    | cons h2 t2 => rw [h1.inj h2, ih t2]
theorem NIts.len {h : Heap} {x : List (List K)} {vs : List Value} (hx : NIts knd h x vs) : x.length = vs.length := by
  induction hx with
  | nil => rfl
  | cons _ _ ih => rw [List.length_cons, List.length_cons, ih]
theorem IsNest.typeIs {s : Shared} {ks : List (List K)} {a : Addr} (x : IsNest knd s.heap ks a) : s.TypeIs (.ref a) "tuple" := let ⟨o, _, _, ho, hc, _⟩ := x; ⟨o, ho, hc⟩
theorem IsNest.inj {h : Heap} {a : Addr} {x y : List (List K)} (hx : IsNest knd h x a) (hy : IsNest knd h y a) : x = y := by
  obtain ⟨o, items, n, ho, _, hd, hi⟩ := hx
  obtain ⟨o', items', n', ho', _, hd', hi'⟩ := hy
  obtain rfl : o = o' := Option.some.inj (ho.symm.trans ho')
  rw [hd] at hd'
  injection hd' with h1 _
  subst h1
  exact hi.inj hi'
theorem NIts.keeps {h h' : Heap} {ks : List (List K)} {vs : List Value} {d : Addr} {o : Obj} {es ep} (x : NIts knd h ks vs) (ho : h.get? d = some o) (hd : o.data = .dict es ep) (hs : Heap.SameBut d h h') : NIts knd h' ks vs := by
  induction x with
  | nil => exact .nil
  | cons h1 _ ih => exact .cons (h1.keeps ho hd hs) ih
theorem IsNest.keeps {h h' : Heap} {ks : List (List K)} {a d : Addr} {o : Obj} {es ep} (x : IsNest knd h ks a) (ho : h.get? d = some o) (hd : o.data = .dict es ep) (hs : Heap.SameBut d h h') : IsNest knd h' ks a := by
  obtain ⟨o', items, n, ho', hc, hd', hi⟩ := x
  have hne : a ≠ d := by
    rintro rfl
    obtain rfl : o' = o := Option.some.inj (ho'.symm.trans ho)
    rw [hd] at hd'; exact nomatch hd'
  exact ⟨o', items, n, (hs.2 a hne).trans ho', hc, hd', hi.keeps ho hd hs⟩
variable {A : Around} {E : Value → Shared → Prop} {s : Shared}
theorem pyHash_nest {ks : List (List K)} {a : Addr} {Q : Int → Shared → Prop} (hu : A.units + 2 < cLine) (hk : IsNest knd s.heap ks a) (h : Q (nestHash knd ks) { s with toks := s.toks + nestDraws ks }) :
    wpAny (model prog w) A (pyHash (.ref a)) Q E s := by
  have hT := hk.typeIs
  obtain ⟨o, items, n, ho, _, hd, hi⟩ := hk
  unfold pyHash
  first | unfold pyHashByItsType | skip
  first | refine wpAny_bind (wpAny_cRoomFor_or (.inr (show A.units < cLine by omega)) ?_) | skip
  refine wpAny_bind (wpAny_specialOf hT F.slot_tuple_hash.lookup ?_)
  show wpAny _ _ (if (some (Value.builtin "tuple.__hash__") == some Value.none) = true then _ else _) Q E s
  rw [if_neg (by rw [beq_builtin_none]; exact Bool.false_ne_true)]
  refine wpAny_bind (wpAny_specialOf hT F.slot_tuple_hash.lookup ?_)
  show wpAny _ _ (callSpecialIfBoundUnlessNone? (.ref a) "__hash__" _ >>= _) Q E s
  refine wpAny_bind (wpAny_callSpecialIfBoundUnlessNone?_slot hT F.slot_tuple_hash (wpAny_call_entry F.slot_tuple_hash hT F.entry_tuple_hash ?_ (F.args_tuple_hash_1 _)))
  show wpAny _ _ (Builtin.Tuple.tupleItemsOf (.ref a) >>= _) _ _ s
  refine wpAny_bind (wpAny_tupleItemsOf ho hd ?_)
  refine wpAny_bind ?_
  rw [← Array.forIn_toList]
  refine wpAny_forIn_list _
    (fun rest (b : Array Int) s' => ∃ done left, ks = done ++ left ∧ NIts knd s.heap left rest ∧ b.toList = done.map (tupleKeyHash knd) ∧ s' = { s with toks := s.toks + (done.map fun k => k.length + 1).sum })
    _ ?_ ?_ _ _ ⟨[], ks, rfl, hi, rfl, rfl⟩
  · rintro x rest b s' ⟨done, left, rfl, hl, hb, rfl⟩
    cases hl with
    | @cons k c ks' _ h1 hl' =>
      refine wpAny_bind (wpAny_pyHash_tuple ?room (s := { s with toks := s.toks + (done.map fun k => k.length + 1).sum }) h1 ?_)
      case room =>
        show A.in1.units < cLine
        have : A.in1.units = A.units + 1 := rfl
        omega
      first
        | exact wpAny_pure ⟨done ++ [k], ks', by simp, hl', by simp [hb], by simp [Nat.add_assoc]⟩
        | exact wpAny_bind (wpAny_pure (wpAny_pure ⟨done ++ [k], ks', by simp, hl', by simp [hb], by simp [Nat.add_assoc]⟩))
  · rintro b s' ⟨done, left, rfl, hl, hb, rfl⟩
    cases hl
    rw [List.append_nil] at h
    show wpAny _ _ (retInt (Builtin.Tuple.tupleHashOf b.toList)) _ _ _
    rw [hb]
    refine wpAny_ret_mkInt ?_
    show wpAny _ _ (if (decide (-(2 : Int) ^ 63 ≤ Builtin.Tuple.tupleHashOf (done.map (tupleKeyHash knd))) && decide (Builtin.Tuple.tupleHashOf (done.map (tupleKeyHash knd)) < 2 ^ 63)) = true then _ else _) Q E _
    unfold nestHash reduceHash nestDraws at h
    by_cases hr : (decide (-(2 : Int) ^ 63 ≤ Builtin.Tuple.tupleHashOf (done.map (tupleKeyHash knd))) && decide (Builtin.Tuple.tupleHashOf (done.map (tupleKeyHash knd)) < 2 ^ 63)) = true
    · rw [if_pos hr]
      rw [if_pos hr] at h
      exact wpAny_pure (by simpa [Nat.add_assoc] using h)
    · rw [if_neg hr]
      rw [if_neg hr] at h
      exact wpAny_bind (wpAny_rule (wpAny_pure (by simpa [Nat.add_assoc] using h)))
theorem nest_eq_tree {x y : List (List K)} {a b : Addr} {P : Fin → Shared → Prop} (hu : A.units < cLine) (hx : IsNest knd s.heap x a) (hy : IsNest knd s.heap y b) (h : P (.done (.ret (.bool (decide (x = y))))) s) :
    wpAny (model prog w) A (Builtin.«tuple.__eq__» ⟨[.ref a, .ref b], []⟩) P E s := by
  have hTb := hy.typeIs
  obtain ⟨oa, xs, na, hoa, _, hda, hia⟩ := hx
  obtain ⟨ob, ys, nb, hob, _, hdb, hib⟩ := hy
  show wpAny _ _ (isInstance (.ref b) (.type "tuple") >>= _) _ _ s
  refine wpAny_bind (wpAny_isInstance hTb isSubtype_tuple_tuple ?_)
  simp only [Bool.not_true, Bool.false_eq_true, if_false]
  refine wpAny_bind (wpAny_tupleItemsOf hoa hda ?_)
  refine wpAny_bind (wpAny_tupleItemsOf hob hdb ?_)
  refine wpAny_bind ?_
  refine wpAny_forIn_list _
    (fun rest r s' => r.1 = none ∧ s' = s ∧ ∃ x' y' xs' ys', rest = List.zip xs' ys' ∧ NIts knd s.heap x' xs' ∧ NIts knd s.heap y' ys' ∧ decide (x' = y') = decide (x = y) ∧ (xs'.length == ys'.length) = (xs.size == ys.size))
    _ ?_ ?_ _ _ ⟨rfl, rfl, x, y, xs.toList, ys.toList, rfl, hia, hib, rfl, by simp⟩
  · rintro ⟨u, v⟩ rest r s' ⟨hr, rfl, x', y', xs', ys', hz, hx', hy', hdec, hlen⟩
    cases hx' with
    | nil => simp at hz
    | @cons k1 u' x'' xs'' h1 hx'' =>
      cases hy' with
      | nil => simp at hz
      | @cons k2 v' y'' ys'' h2 hy'' =>
        simp only [List.zip_cons_cons, List.cons.injEq, Prod.mk.injEq] at hz
        obtain ⟨⟨rfl, rfl⟩, rfl⟩ := hz
        refine wpAny_bind (wpAny_eqBool_tuple (x := k1) (y := k2) hu h1 h2 ?_)
        by_cases hk : k1 = k2
        · subst hk
          rw [decide_eq_true rfl]
          simp only [Bool.not_true, Bool.false_eq_true, if_false]
          refine wpAny_pure ⟨rfl, rfl, x'', y'', xs'', ys'', rfl, hx'', hy'', ?_, by simpa using hlen⟩
          rw [← hdec]
          by_cases hxy : x'' = y''
          · simp [hxy]
          · simp [hxy]
        · rw [decide_eq_false hk]
          simp only [Bool.not_false, if_true]
          have hf : decide (x = y) = false := by rw [← hdec]; simp [hk]
          rw [hf] at h
          exact wpAny_bind (wpAny_pure (wpAny_pure (wpAny_pure h)))
  · rintro ⟨r1, r2⟩ s' ⟨hr, rfl, x', y', xs', ys', hz, hx', hy', hdec, hlen⟩
    simp only at hr
    subst hr
    refine wpAny_pure ?_
    have hfin : (xs.size == ys.size) = decide (x = y) := by
      rw [← hdec, ← hlen]
      cases hx' with
      | nil =>
        cases hy' with
        | nil => simp
        | cons _ _ => simp
      | cons _ _ =>
        cases hy' with
        | nil => simp
        | cons _ _ => simp at hz
    show P (.done (.ret (.bool (xs.size == ys.size)))) s'
    rw [hfin]; exact h
theorem eqBool_nest {x y : List (List K)} {a b : Addr} {Q : Bool → Shared → Prop} (hu : A.units + 2 < cLine) (hx : IsNest knd s.heap x a) (hy : IsNest knd s.heap y b) (h : Q (decide (x = y)) s) :
    wpAny (model prog w) A (eqBool (.ref a) (.ref b)) Q E s := by
  unfold eqBool
  try with_reducible refine wpAny_holding ?_
  show wpAny _ _ (if (Value.ref a == Value.ref b) = true then _ else _) Q E s
  by_cases hab : (Value.ref a == Value.ref b) = true
  · rw [if_pos hab]
    have e : a = b := by have := eq_of_beq hab; injection this
    subst e
    obtain rfl := hx.inj hy
    exact wpAny_bind (wpAny_rule (wpAny_pure (by simpa using h)))
  · rw [if_neg hab]
    refine wpAny_bind (wpAny_richCompare_same_room (op := .Eq) hx.typeIs hy.typeIs F.slot_tuple_eq
      (wpAny_call_entry F.slot_tuple_eq hx.typeIs F.entry_tuple_eq (nest_eq_tree ?room hx hy ⟨_, rfl, (fun e => nomatch e), wpAny_truthy_bool h⟩) (F.args_tuple_eq_2 _ _)) (by omega))
    show A.in1.units < cLine
    have : A.in1.units = A.units + 1 := rfl
    omega
theorem quiet_tup {n : Nat} {ks : List K} {a : Addr} {Q : Bool → Shared → Prop} (hk : IsTupleKey knd s.heap ks a) (h : Q true s) : wpAny (model prog w) A (eqIsQuiet (n + 1) (.ref a)) Q E s := by
  have hT := hk.typeIs
  obtain ⟨o, items, m, ho, _, hd, hi⟩ := hk
  unfold eqIsQuiet
  refine wpAny_bind (wpAny_specialOf hT F.slot_tuple_eq.lookup ?_)
  show wpAny _ _ (isInstance (.ref a) (.type "tuple") >>= _) _ _ s
  refine wpAny_bind (wpAny_isInstance hT isSubtype_tuple_tuple ?_)
  simp only [Bool.not_true, Bool.false_eq_true, if_false]
  refine wpAny_bind (wpAny_seqItems ho hd ?_)
  refine wpAny_bind ?_
  show wpAny _ _ (forIn items _ _) _ _ s
  rw [← Array.forIn_toList]
  refine wpAny_forIn_list _ (fun rest r s' => r.1 = none ∧ s' = s ∧ ∀ v ∈ rest, carriedByValue v = true) _ ?_ ?_ _ _ ⟨rfl, rfl, hi.byValue⟩
  · rintro v rest r s' ⟨hr, rfl, hall⟩
    rw [eqIsQuiet_byValue _ (hall v List.mem_cons_self)]
    refine wpAny_bind (wpAny_pure ?_)
    simp only [Bool.not_true, Bool.false_eq_true, if_false]
    exact wpAny_pure ⟨rfl, rfl, fun u hu' => hall u (List.mem_cons_of_mem _ hu')⟩
  · rintro ⟨r1, r2⟩ s' ⟨hr, rfl, _⟩
    simp only at hr
    subst hr
    exact wpAny_pure h
theorem quiet_nest {ks : List (List K)} {a : Addr} {Q : Bool → Shared → Prop} (hk : IsNest knd s.heap ks a) (h : Q true s) : wpAny (model prog w) A (eqIsQuiet 8 (.ref a)) Q E s := by
  have hT := hk.typeIs
  obtain ⟨o, items, m, ho, _, hd, hi⟩ := hk
  unfold eqIsQuiet
  refine wpAny_bind (wpAny_specialOf hT F.slot_tuple_eq.lookup ?_)
  show wpAny _ _ (isInstance (.ref a) (.type "tuple") >>= _) _ _ s
  refine wpAny_bind (wpAny_isInstance hT isSubtype_tuple_tuple ?_)
  simp only [Bool.not_true, Bool.false_eq_true, if_false]
  refine wpAny_bind (wpAny_seqItems ho hd ?_)
  refine wpAny_bind ?_
  show wpAny _ _ (forIn items _ _) _ _ s
  rw [← Array.forIn_toList]
  refine wpAny_forIn_list _ (fun rest r s' => r.1 = none ∧ s' = s ∧ ∃ ks, NIts knd s.heap ks rest) _ ?_ ?_ _ _ ⟨rfl, rfl, _, hi⟩
  · rintro v rest r s' ⟨hr, rfl, ks', hall⟩
    cases hall with
    | cons h1 t =>
      refine wpAny_bind (quiet_tup h1 ?_)
      simp only [Bool.not_true, Bool.false_eq_true, if_false]
      exact wpAny_pure ⟨rfl, rfl, _, t⟩
  · rintro ⟨r1, r2⟩ s' ⟨hr, rfl, _⟩
    simp only at hr
    subst hr
    exact wpAny_pure h
end
noncomputable def nestKind {prog : Program} {w : World} {K : Type} [DecidableEq K] (knd : KeyKind prog w K) : HeapKind prog w (List (List K)) where
  is := IsNest knd
  hash := nestHash knd
  draws := nestDraws
  room := fun A => A.units + 2 < cLine
  inj := fun hx hy => hx.inj hy
  keeps := fun x ho hd hs => x.keeps ho hd hs
  pyHash := fun hu hk h => pyHash_nest hu hk h
  eqBool := fun hu hx hy h => eqBool_nest hu hx hy h
  quiet := fun hk h => quiet_nest hk h
end L2

namespace L2
open PySem PySem.Spec PyProof.Rows PySem.W
/-! ### dicts by tuples of tuples of ints -/
noncomputable def tN (k : List (List Int)) : T := .tup (k.map tI)
noncomputable def nK (k : List (List Int)) : List (List Key) := k.map kI
abbrev KeyN := List (List Int)
abbrev RowN := List (List Key) × Addr × Value
theorem nK_inj : ∀ {a b : KeyN}, nK a = nK b → a = b
  | [], [], _ => rfl
  | [], _ :: _, e => by cases e
  | _ :: _, [], e => by cases e
  | x :: xs, y :: ys, e => by
    injection e with e1 e2
    rw [kI_inj e1, nK_inj e2]
noncomputable def phiN (P : Program) (w : World) (d : Addr) (xs : List RowN) : Heap → Prop := fun h => ∃ o es ep, h.get? d = some o ∧ o.ExactDict ∧ o.data = .dict es ep ∧ es.toList = xs.map (entryOfKey (nestKind (mixKind P w)))
theorem phiN.ok {P : Program} {w : World} {H : Hp} {h : Heap} {d : Addr} {xs : List RowN} (x : phiN P w d xs h) : ObjOk P w H h d (.ext (phiN P w d xs)) := by
  refine ⟨x, ?_, fun h1 h2 y k => ?_⟩
  · obtain ⟨o, _, _, ho, _⟩ := x
    exact ⟨o, ho⟩
  · obtain ⟨o, es, ep, ho, r⟩ := y
    exact ⟨o, es, ep, k o ho, r⟩
/-- raw entries -/
abbrev KN (H : Hp) : List (KeyN × V) → List RowN → Prop := Paired fun p q => nK p.1 = q.1 ∧ Is H (tN p.1) (.ref q.2.1) ∧ RelV p.2 q.2.2
theorem KN.val {H : Hp} {kvs : List (KeyN × V)} {xs : List RowN} (r : KN H kvs xs) (k : KeyN) : RelO (valV kvs k) ((atKey xs (nK k)).map (·.2)) := by
  induction r with
  | nil => exact True.intro
  | @cons p q ps qs h t ih =>
    obtain ⟨h1, _, h2⟩ := h
    by_cases e : p.1 = k
    · have e' : q.1 = nK k := by rw [← h1, e]
      have b : atKey (q :: qs) (nK k) = some q.2 := by simp [atKey, List.find?_cons, e']
      rw [valV_pos e, b]; exact h2
    · have e' : ¬ q.1 = nK k := fun z => e (nK_inj (h1.trans z))
      have b : atKey (q :: qs) (nK k) = atKey qs (nK k) := by simp [atKey, List.find?_cons, e']
      rw [valV_neg e, b]; exact ih
theorem KN.repl {H : Hp} {kvs : List (KeyN × V)} {xs : List RowN} (r : KN H kvs xs) (k : KeyN) {y : V} {u : Value} (ry : RelV y u) : KN H (kvs.map fun kv => if kv.1 = k then (kv.1, y) else kv) (xs.map (putAt (nK k) u)) := by
  induction r with
  | nil => exact .nil
  | @cons p q ps qs h t ih =>
    rw [List.map_cons, List.map_cons]
    refine .cons ?_ ih
    obtain ⟨h1, h2, h3⟩ := h
    unfold putAt
    by_cases e : p.1 = k
    · rw [if_pos e, if_pos (by rw [← h1, e])]; exact ⟨h1, h2, ry⟩
    · rw [if_neg e, if_neg (fun z => e (nK_inj (h1.trans z)))]; exact ⟨h1, h2, h3⟩
theorem KN.put {H : Hp} {kvs : List (KeyN × V)} {xs : List RowN} (r : KN H kvs xs) (k : KeyN) {b : Addr} {y : V} {u : Value} (hb : Is H (tN k) (.ref b)) (ry : RelV y u) : KN H (putK kvs k y) (storedH xs (nK k) b u) := by
  have e : (kvs.any fun kv => decide (kv.1 = k)) = (atKey xs (nK k)).isSome := by
    rw [valV_any, (r.val k).isSome_eq, Option.isSome_map]
  unfold putK storedH
  rw [e]
  by_cases q : (atKey xs (nK k)).isSome = true
  · rw [if_pos q, if_pos q]; exact r.repl k ry
  · rw [if_neg q, if_neg q]; exact Paired.snoc r ⟨rfl, hb, ry⟩
theorem fro_ints : ∀ (cs : List Int), FroL (cs.map T.int)
  | [] => trivial
  | c :: cs => ⟨trivial, fro_ints cs⟩
theorem fro_tN (k : KeyN) : Fro (tN k) := FroL.all.mpr fun t ht => by
  obtain ⟨g, _, rfl⟩ := List.mem_map.mp ht
  exact fro_ints g
theorem KN.tups {H H' : Hp} {kvs : List (KeyN × V)} {xs : List RowN} (r : KN H kvs xs) (t : Tups H H') : KN H' kvs xs := Paired.mapP r fun _ _ z => ⟨z.1, z.2.1.tups t (fro_tN _), z.2.2⟩
/-- the dict at d has just these rows -/
noncomputable def NAt (P : Program) (w : World) (H : Hp) (d : Addr) (kvs : List (KeyN × V)) : Prop := ∃ xs : List RowN, H d = some (.ext (phiN P w d xs)) ∧ (d == sysModules) = false ∧ kvs.length ≤ sizeLine ∧ (xs.map (·.1)).Nodup ∧ KN H kvs xs
section
variable {P : Program} {w : World} {H H' : Hp} {d : Addr} {kvs : List (KeyN × V)}
theorem NAt.same (n : NAt P w H d kvs) (s : Same H H') : NAt P w H' d kvs := by
  obtain ⟨xs, e, a, b, c, r⟩ := n
  exact ⟨xs, s _ _ e, a, b, c, Paired.mapP r fun _ _ z => ⟨z.1, z.2.1.mono s, z.2.2⟩⟩
theorem NAt.by (n : NAt P w H d kvs) (t : Tups H H') (e : H' d = H d) : NAt P w H' d kvs := by
  obtain ⟨xs, e', a, b, c, r⟩ := n
  exact ⟨xs, e.trans e', a, b, c, r.tups t⟩
theorem NAt.tups {o : HO} (n : NAt P w H d kvs) : Tups H (upd H d o) := by
  obtain ⟨xs, e, _⟩ := n
  exact Tups.upd e (fun zs z => by cases z)
theorem NAt.ne {b : Addr} {ys : List V} (n : NAt P w H d kvs) (h : H b = some (.lst ys)) : b ≠ d := fun z => by
  obtain ⟨xs, e, _⟩ := n
  rw [z, e] at h
  cases h
theorem its_of {h : Heap} (ok : HOk P w H h) : ∀ {k : KeyN} {xs : List V} {us : List Value}, IsL H (k.map tI) xs → Vals xs us → NIts (mixKind P w) h (nK k) us
  | [], _, _, e, r => by
    cases (show _ = [] from e)
    cases r
    exact .nil
  | g :: k, _, _, ⟨v, vs, e, h1, h2⟩, r => by
    subst e
    cases r with
    | cons r1 r2 =>
      obtain ⟨b, zs, rfl, hb, hz⟩ := h1
      rw [IsL.ints.mp hz, ← kI_kV] at hb
      cases r1
      exact .cons (key_of ok hb) (its_of ok h2 r2)
theorem nest_of {h : Heap} (ok : HOk P w H h) {k : KeyN} {a : Addr} (i : Is H (tN k) (.ref a)) : (nestKind (mixKind P w)).is h (nK k) a := by
  obtain ⟨a', xs, e, ha, hx⟩ := i
  cases e
  obtain ⟨_, its, r, ⟨o, h1, h2, n, h3⟩, _⟩ := (show ObjOk P w H h a (.tup xs) from ok a _ ha)
  exact ⟨o, its.toArray, n, h1, h2, h3, by simpa using its_of ok hx r⟩
theorem NAt.dict {h : Heap} (ok : HOk P w H h) (n : NAt P w H d kvs) : (d == sysModules) = false ∧ ∃ xs, KN H kvs xs ∧ xs.length ≤ sizeLine ∧ h.DictOfH (nestKind (mixKind P w)) d xs := by
  obtain ⟨xs, e, a, b, c, r⟩ := n
  obtain ⟨⟨o, es, ep, h1, h2, h3, h4⟩, _⟩ := (show ObjOk P w H h d (.ext (phiN P w d xs)) from ok d _ e)
  have hl := Paired.length r
  refine ⟨a, xs, r, by omega, o, es, ep, h1, h2, h3, h4, ?_, c⟩
  have all : ∀ {l : List (KeyN × V)} {m : List RowN}, KN H l m → ∀ x ∈ m, (nestKind (mixKind P w)).is h x.1 x.2.1 := by
    intro l m q
    induction q with
    | nil => intro x hx; exact nomatch hx
    | @cons p q ps qs hq t ih =>
      intro x hx
      rcases List.mem_cons.mp hx with e | hx
      · subst e
        rw [← hq.1]
        exact nest_of ok hq.2.1
      · exact ih x hx
  exact all r
end
/-! readings -/
section
variable {X : Cx} {o i e value : Expr} {pos pos' tpos : Pos} {td ty tv : TE}
end
end L2

namespace L2
open PySem PySem.Spec PyProof.Rows
/-! ### dict(list of pairs), the keys tuples of tuples of ints -/
/-- tuples stand -/
noncomputable def TupK (h h' : Heap) : Prop := ∀ c o, o.cls = .type "tuple" → h.get? c = some o → h'.get? c = some o
section
variable {prog : Program} {w : World} {A : Around} {R : Result → Shared → Prop} {h h' : Heap}
theorem NIts.keep {ks : List (List Key)} {us : List Value} (x : NIts (mixKind prog w) h ks us) (k : TupK h h') : NIts (mixKind prog w) h' ks us := by
  induction x with
  | nil => exact .nil
  | cons h1 _ ih =>
    obtain ⟨o, its, n, ho, hc, r⟩ := h1
    exact .cons ⟨o, its, n, k _ _ hc ho, hc, r⟩ ih
theorem nest_keep {ks : List (List Key)} {a : Addr} (x : (nestKind (mixKind prog w)).is h ks a) (k : TupK h h') : (nestKind (mixKind prog w)).is h' ks a := by
  obtain ⟨o, its, n, ho, hc, hd, hi⟩ := x
  exact ⟨o, its, n, k _ _ hc ho, hc, hd, hi.keep k⟩
noncomputable def PairN (prog : Program) (w : World) (h : Heap) (v : Value) (r : RowN) : Prop := ∃ b, v = .ref b ∧ h.IsTuple b #[.ref r.2.1, r.2.2] ∧ (nestKind (mixKind prog w)).is h r.1 r.2.1
theorem PairN.keep {v : Value} {r : RowN} (p : PairN prog w h v r) (k : TupK h h') : PairN prog w h' v r := by
  obtain ⟨b, e, ⟨o, ho, hc, n, hd⟩, r'⟩ := p
  exact ⟨b, e, ⟨o, k _ _ hc ho, hc, n, hd⟩, nest_keep r' k⟩
end
/-- a pair's tuple of the heap: its key a tuple of tuples of ints -/
noncomputable def PnAt (H : Hp) (b : Addr) (r : KeyN × V) : Prop := ∃ kb, H b = some (.tup [.ref kb, r.2]) ∧ Is H (tN r.1) (.ref kb)
theorem PnAt.same {H H' : Hp} {b : Addr} {r : KeyN × V} (p : PnAt H b r) (s : Same H H') : PnAt H' b r := let ⟨kb, h1, h2⟩ := p; ⟨kb, s _ _ h1, h2.mono s⟩
section
variable {X : Cx}
end
end L2

namespace L2
open PySem PySem.Spec PyProof.Rows PySem.W
/-! ### tuples of ints and texts, tuples of such, as a set's keys -/
theorem cls_val (n : Nat) {v : Value} (h : carriedByValue v = true) : ofAClassStatement n v = pure false := by
  cases v with
  | ref a => simp [carriedByValue] at h
  | _ => cases n <;> rfl
theorem hv_val (n : Nat) {v : Value} (h : carriedByValue v = true) : ∃ c, hashByValue n v = pure c := by
  cases v with
  | ref a => simp [carriedByValue] at h
  | _ => cases n <;> exact ⟨_, rfl⟩
section
variable {prog : Program} {w : World} {K : Type} [DecidableEq K] {knd : KeyKind prog w K} {A : Around} {E : Value → Shared → Prop} {s : Shared}
/-- what a tuple's items say, the tuple says -/
theorem cls_of {a : Addr} {o : Obj} {items : Array Value} {m n : Nat} {Q : Bool → Shared → Prop} (ho : s.heap.get? a = some o) (hc : o.cls = .type "tuple") (hd : o.data = .seq items m) (hi : ∀ v ∈ items.toList, ∀ Q : Bool → Shared → Prop, Q false s → ∀ E, wpAny (model prog w) A (ofAClassStatement n v) Q E s) (h : Q false s) :
    wpAny (model prog w) A (ofAClassStatement (n + 1) (.ref a)) Q E s := by
  have hT : s.TypeIs (.ref a) "tuple" := ⟨o, ho, hc⟩
  unfold ofAClassStatement
  refine wpAny_bind (wpAny_typeOf hT ?_)
  dsimp only
  rw [if_pos (by decide)]
  refine wpAny_bind (wpAny_pure ?_)
  simp only [Bool.not_true, Bool.false_eq_true, if_false]
  refine wpAny_bind (wpAny_seqItems ho hd ?_)
  dsimp only
  refine wpAny_bind ?_
  rw [← Array.forIn_toList]
  refine wpAny_forIn_list _ (fun rest r s' => r.1 = none ∧ s' = s ∧ ∀ v ∈ rest, v ∈ items.toList) _ ?_ ?_ _ _ ⟨rfl, rfl, fun v hv => hv⟩
  · rintro v rest r s' ⟨hr, rfl, hall⟩
    refine wpAny_bind (hi v (hall v List.mem_cons_self) _ ?_ _)
    simp only [Bool.false_eq_true, if_false]
    exact wpAny_pure ⟨rfl, rfl, fun u hu => hall u (List.mem_cons_of_mem _ hu)⟩
  · rintro ⟨r1, r2⟩ s' ⟨hr, rfl, _⟩
    simp only at hr
    subst hr
    exact wpAny_pure h
theorem hv_of {a : Addr} {o : Obj} {items : Array Value} {m n : Nat} {Q : Bool → Shared → Prop} (ho : s.heap.get? a = some o) (hc : o.cls = .type "tuple") (hd : o.data = .seq items m) (hi : ∀ v ∈ items.toList, ∀ Q : Bool → Shared → Prop, (∀ b, Q b s) → ∀ E, wpAny (model prog w) A (hashByValue n v) Q E s) (h : ∀ b, Q b s) :
    wpAny (model prog w) A (hashByValue (n + 1) (.ref a)) Q E s := by
  have hT : s.TypeIs (.ref a) "tuple" := ⟨o, ho, hc⟩
  unfold hashByValue
  refine wpAny_bind (wpAny_specialOf hT F.slot_tuple_hash.lookup ?_)
  dsimp only
  refine wpAny_bind (wpAny_seqItems ho hd ?_)
  simp only [Option.getD_some]
  refine wpAny_bind ?_
  rw [← Array.forIn_toList]
  refine wpAny_forIn_list _ (fun rest r s' => r.1 = none ∧ s' = s ∧ ∀ v ∈ rest, v ∈ items.toList) _ ?_ ?_ _ _ ⟨rfl, rfl, fun v hv => hv⟩
  · rintro v rest r s' ⟨hr, rfl, hall⟩
    refine wpAny_bind (hi v (hall v List.mem_cons_self) _ (fun b => ?_) _)
    cases b with
    | true =>
      simp only [Bool.not_true, Bool.false_eq_true, if_false]
      exact wpAny_pure ⟨rfl, rfl, fun u hu => hall u (List.mem_cons_of_mem _ hu)⟩
    | false =>
      simp only [Bool.not_false, if_true]
      exact wpAny_pure (wpAny_pure (h false))
  · rintro ⟨r1, r2⟩ s' ⟨hr, rfl, _⟩
    simp only at hr
    subst hr
    exact wpAny_pure (h true)
theorem cls_tup {ks : List K} {a : Addr} {n : Nat} {Q : Bool → Shared → Prop} (hk : IsTupleKey knd s.heap ks a) (h : Q false s) : wpAny (model prog w) A (ofAClassStatement (n + 1) (.ref a)) Q E s := by
  obtain ⟨o, items, m, ho, hc, hd, hi⟩ := hk
  exact cls_of ho hc hd (fun v hv Q' hq E' => by rw [cls_val n (hi.byValue v hv)]; exact wpAny_pure hq) h
theorem hv_tup {ks : List K} {a : Addr} {n : Nat} {Q : Bool → Shared → Prop} (hk : IsTupleKey knd s.heap ks a) (h : ∀ b, Q b s) : wpAny (model prog w) A (hashByValue (n + 1) (.ref a)) Q E s := by
  obtain ⟨o, items, m, ho, hc, hd, hi⟩ := hk
  exact hv_of ho hc hd (fun v hv Q' hq E' => by obtain ⟨c, e⟩ := hv_val n (hi.byValue v hv); rw [e]; exact wpAny_pure (hq c)) h
theorem NIts.each {h : Heap} {ks : List (List K)} {vs : List Value} (x : NIts knd h ks vs) : ∀ v ∈ vs, ∃ k a, v = .ref a ∧ IsTupleKey knd h k a := by
  induction x with
  | nil => intro v hv; cases hv
  | cons h1 _ ih =>
    intro v hv
    rcases List.mem_cons.mp hv with rfl | hv
    · exact ⟨_, _, rfl, h1⟩
    · exact ih v hv
noncomputable def sTup (knd : KeyKind prog w K) : SKind prog w (List K) where
  toHeapKind := tupleKind knd
  cls := fun hk h => cls_tup (n := 7) hk h
  byv := fun hk h => hv_tup (n := 7) hk h
  keepT := fun x k => by
    obtain ⟨o, items, m, ho, hc, r⟩ := x
    exact ⟨o, items, m, k _ _ ho hc, hc, r⟩
end
end L2

namespace L2
open PySem PySem.Spec PyProof.Rows PySem.W
theorem typeCall_set_1 (v : Value) : checkTypeCall "set" ⟨[v], []⟩ = pure () := by kernel_rfl
theorem newCall_set_1 (v : Value) : checkBuiltinCall "set.__new__" ⟨[.type "set", v], []⟩ = pure () := by kernel_rfl
section
variable {prog : Program} {w : World} {A : Around} {E : Value → Shared → Prop} {s : Shared}
theorem code_set_new1 (v : Value) {Q₁ : Value → Shared → Prop}
    (h : ∀ led : Bool, Q₁ (.ref s.heap.objs.size) { s with heap := s.heap.push { cls := .type "set", dict := none, data := .set #[] 0 (.fresh 0 0 led) } }) :
    codeAny (model prog w) A (.call (.builtin "set.__new__") ⟨[.type "set", v], []⟩) (wants Q₁ E) s := by
  refine codeAny_of_tree ?_
  show wpAny _ A.in1 (do checkBuiltinCall "set.__new__" ⟨[.type "set", v], []⟩; again (.builtin "set.__new__" ⟨[.type "set", v], []⟩)) _ _ s
  refine wpAny_bind (wpAny_of_eq (newCall_set_1 v) (wpAny_pure ⟨plainId_quiet F.plain_set_new _, codeAny_builtin F.entry_set_new ?_⟩))
  rw [Around.under_plainId F.plain_set_new _]
  unfold Builtin.«set.__new__» Builtin.Frozenset.newClass
  have hsub := sub_set_self
  obtain ⟨hp, g, d, tk, os⟩ := s
  dsimp only
  wp_walk
  refine wpAny_askSetting (wpAny_pure ?_)
  dsimp only
  simp only [newObj]
  refine wpAny_bind (wpAny_alloc (wpAny_pure ?_))
  exact wpAny_pure (h _)
theorem check_set_init1 {M : Model} {self v : Value} {Q : Unit → Shared → Prop} (hT : s.TypeIs self "set") (hQ : Q () s) :
    wpAny M A (checkBuiltinCall "set.__init__" ⟨[self, v], []⟩) Q E s := by
  simp only [checkBuiltinCall, kind_set_init, split_set_init, sig_set_init]
  refine wpAny_bind (wpAny_isInstance hT sub_set_self ?_)
  simp only [Bool.not_true, Bool.false_eq_true, if_false]
  unfold Bind.checkArgs
  dsimp only
  refine wpAny_bind (m := Bind.printed "set" true _ _) (PyProof.Rows.printed_name (by decide) ?_)
  refine wpAny_bind (m := Bind.printed "*" false _ _) (PyProof.Rows.printed_star (self := self) rfl hT fun short => ?_)
  have hrn : (Manifest.Receiver.self == Manifest.Receiver.none) = false := by decide
  have hn : (if (Manifest.Receiver.self == Manifest.Receiver.none) = true then [self, v].length else [self, v].length - 1) = 1 := by simp [hrn]
  rw [hn]
  simp only [List.map_nil]
  have hc : Bind.check ⟨.positional, "set", "*", .self, [⟨"iterable", .posOnly, false⟩]⟩ "set" short 1 [] = pure () := by
    simp [Bind.check, Bind.checkCount, Bind.isPositional]
    exact fun z => absurd z (by decide)
  rw [hc]
  exact wpAny_pure hQ
set_option maxHeartbeats 1000000 in
theorem call_set_1 {v : Value} {Q : Value → Shared → Prop}
    (h : ∀ led : Bool, wpAny (model prog w) A.in1.in1 (Builtin.Frozenset.updateFrom "set.__init__" s.heap.objs.size v) (fun _ s₂ => Q (.ref s.heap.objs.size) s₂) E { s with heap := s.heap.push { cls := .type "set", dict := none, data := .set #[] 0 (.fresh 0 0 led) } }) :
    wpAny (model prog w) A (call (.type "set") [v]) Q E s := by
  obtain ⟨c, tl, hmro⟩ := F.called_set.mro
  have hmade := F.called_set.made
  have hsub := F.called_set.sub
  refine wpAny_call (codeAny_of_tree ?_)
  show wpAny _ _ (callAny (.type "set") _) _ _ _
  refine wpAny_pure ⟨Code.quiet_builtin _ (by decide +kernel), codeAny_builtin F.entry_type_call ?_⟩
  rw [Around.under_plain (weight_type_call_type "set" [v] []) rfl]
  have h1 := F.called_set.notType
  have h2 := F.called_set.canCreate
  have hct := typeCall_set_1 v
  repeat (any_goals (first | assumption | wp_step))
  refine codeAny_mono (code_set_new1 v (E := E) (Q₁ := fun obj s₁ => ∃ led : Bool, obj = .ref s.heap.objs.size ∧ s₁ = { s with heap := s.heap.push { cls := .type "set", dict := none, data := .set #[] 0 (.fresh 0 0 led) } }) fun led => ⟨led, rfl, rfl⟩) fun r s₁ hr => ?_
  cases r with
  | error e => exact hr
  | ok fl =>
    cases fl with
    | ret obj =>
      obtain ⟨led, rfl, rfl⟩ := hr
      have hS : (s.heap.push { cls := .type "set", dict := none, data := .set #[] 0 (.fresh 0 0 led) }).get? s.heap.objs.size = some { cls := .type "set", dict := none, data := .set #[] 0 (.fresh 0 0 led) } := Heap.get?_push_size _ rfl
      have hT : Shared.TypeIs { s with heap := s.heap.push { cls := .type "set", dict := none, data := .set #[] 0 (.fresh 0 0 led) } } (.ref s.heap.objs.size) "set" := ⟨_, hS, rfl⟩
      have hli := F.called_set.init.lookup
      have hbi := F.called_set.init.bind (.ref s.heap.objs.size)
      repeat (any_goals (first | assumption | wp_step))
      refine codeAny_mono (codeAny_call_builtin (R := wants (fun r s₂ => r = .none ∧ Q (.ref s.heap.objs.size) s₂) E) F.called_set.init.plain F.entry_set_init (check_set_init1 hT ?_)) fun r₂ s₂ hr₂ => ?_
      · unfold Builtin.«set.__init__» noKeywords
        generalize Builtin.Frozenset.updateFrom "set.__init__" = U at h ⊢
        wp_walk
        exact thn (h led) fun _ s2 q => wpAny_pure ⟨rfl, q⟩
      · cases r₂ with
        | error e => exact hr₂
        | ok fl₂ =>
          cases fl₂ with
          | ret r =>
            obtain ⟨rfl, hq⟩ := hr₂
            repeat (any_goals (first | assumption | wp_step))
          | _ => exact hr₂.elim
    | _ => exact hr.elim
end
end L2

namespace L2
open PySem PySem.Spec PyProof.Rows PySem.W
theorem sub_list_set : isSubtype (.type "list") (.type "set") = pure false := by rw [isSubtype_type]; kernel_rfl
theorem sub_list_fset : isSubtype (.type "list") (.type "frozenset") = pure false := by rw [isSubtype_type]; kernel_rfl
/-- a set of n -/
noncomputable def phiS (d : Addr) (n : Nat) : Heap → Prop := fun h => ∃ es, SetS h d es ∧ es.size = n
theorem phiS.ok {P : Program} {w : World} {H : Hp} {h : Heap} {d : Addr} {n : Nat} (x : phiS d n h) : ObjOk P w H h d (.ext (phiS d n)) := by
  refine ⟨x, ?_, fun h1 h2 y k => ?_⟩
  · obtain ⟨_, ⟨o, _, _, ho, _⟩, _⟩ := x
    exact ⟨o, ho⟩
  · obtain ⟨es, ⟨o, ep, t, ho, r⟩, e⟩ := y
    exact ⟨es, ⟨o, ep, t, k o ho, r⟩, e⟩
noncomputable def SAt (H : Hp) (d : Addr) (n : Nat) : Prop := H d = some (.ext (phiS d n))
theorem SetS.new {h : Heap} {led : Bool} : SetS (h.push { cls := .type "set", dict := none, data := .set #[] 0 (.fresh 0 0 led) }) h.objs.size #[] :=
  ⟨_, 0, _, Heap.get?_push_size _ rfl, ⟨rfl, rfl, rfl⟩, rfl, ⟨rfl, rfl, .inl rfl, Nat.zero_le _⟩, (by show 0 * 5 < 7 * 3; decide)⟩
section
variable {prog : Program} {w : World} {A : Around} {E : Value → Shared → Prop} {s : Shared} {K : Type} [DecidableEq K] {knd : SKind prog w K}
theorem call_setL {p : Addr} {its : Array Value} {ks : List K} {Q : Value → Shared → Prop} (hr : knd.room A.in1.in1.in1) (hh : A.handled = none) (hp : s.heap.IsList p its) (hl : its.size = ks.length) (hnd : ks.Nodup) (hf : its.size ≤ 3998)
    (hk : ∀ (j : Nat) v k, its[j]? = some v → ks[j]? = some k → ∃ b, v = .ref b ∧ knd.is s.heap k b)
    (h : ∀ h' tk, (∀ b o, s.heap.get? b = some o → h'.get? b = some o) → phiS s.heap.objs.size ks.length h' → Q (.ref s.heap.objs.size) { s with heap := h', toks := tk }) : wpAny (model prog w) A (call (.type "set") [.ref p]) Q E s := by
  refine call_set_1 fun led => ?_
  have up : ∀ b o, s.heap.get? b = some o → (s.heap.push { cls := .type "set", dict := none, data := .set #[] 0 (.fresh 0 0 led) }).get? b = some o := fun b o e => Heap.get?_push_of_some _ e
  have hS : SetS (s.heap.push { cls := .type "set", dict := none, data := .set #[] 0 (.fresh 0 0 led) }) s.heap.objs.size #[] := SetS.new
  have hp1 : (s.heap.push { cls := .type "set", dict := none, data := .set #[] 0 (.fresh 0 0 led) }).IsList p its := hp.push _
  have hsz : (s.heap.push { cls := .type "set", dict := none, data := .set #[] 0 (.fresh 0 0 led) }).objs.size = s.heap.objs.size + 1 := Array.size_push ..
  have hpl : p < s.heap.objs.size := by
    obtain ⟨o, ho, _⟩ := hp
    exact Heap.lt_size ho
  generalize s.heap.push { cls := .type "set", dict := none, data := .set #[] 0 (.fresh 0 0 led) } = g at up hS hp1 hsz ⊢
  have hT : ({ s with heap := g } : Shared).TypeIs (.ref p) "list" := Heap.IsList.typeIs (s := { s with heap := g }) hp1
  unfold Builtin.Frozenset.updateFrom Builtin.Frozenset.isAnySet
  refine wpAny_bind ?_
  refine wpAny_bind (wpAny_isInstance hT sub_list_set ?_)
  show wpAny _ _ (isInstance (.ref p) (.type "frozenset")) _ _ _
  refine wpAny_isInstance hT sub_list_fset ?_
  simp only [Bool.false_eq_true, if_false]
  refine wpAny_bind (wpAny_typeOf hT ?_)
  rw [if_neg (by decide)]
  refine wpAny_bind (wpAny_pyIter_list (s := { s with heap := g }) hp1 ?_)
  refine wpAny_bind (wpAny_runValue ?_)
  have gd : s.heap.objs.size < g.objs.size := by omega
  refine setLoop (knd := knd) (A := A.in1.in1) (t := p) (its := its) (ks := ks) hr hh (Nat.ne_of_lt gd) (Nat.ne_of_lt (Nat.lt_trans hpl gd)) (Nat.ne_of_lt hpl) hl hnd hf its.size 0 _ #[] (by omega) (Nat.zero_le _) rfl (fun e he => by cases he)
    ⟨_, Heap.get?_push_size _ rfl, rfl, rfl⟩ (hp1.push _) ?_ (fun j v k h1 h2 => ?_) fun h' tk es' S' z' k' => ?_
  · obtain ⟨o, ep, t, ho, r⟩ := hS
    exact ⟨o, ep, t, Heap.get?_push_of_some _ ho, r⟩
  · obtain ⟨b, e, h3⟩ := hk j v k h1 h2
    exact ⟨b, e, knd.keepT h3 fun c o z _ => Heap.get?_push_of_some _ (up c o z)⟩
  · refine wpAny_pure (h h' tk (fun b o e => ?_) ⟨es', S', by omega⟩)
    have := Heap.lt_size e
    exact k' b o (Nat.ne_of_lt this) (Nat.ne_of_lt (Nat.lt_trans this gd)) (Heap.get?_push_of_some _ (up b o e))
end
noncomputable def rSetI : List V → Hp → VK → Prop := fun as H Q => ∃ (p : Addr) (xs : List V) (ks : List (List Int)), as = [.ref p] ∧ H p = some (.lst xs) ∧ IsL H (ks.map tI) xs ∧ ks.Nodup ∧ ks.length ≤ 3998 ∧ ∀ d H', Same H H' → H d = none → SAt H' d ks.length → Q (.ref d) H'
noncomputable def rLenS : List V → Hp → VK → Prop := fun as H Q => ∃ d n, as = [.ref d] ∧ SAt H d n ∧ Q (.int (n : Int)) H
section
variable {X : Cx}
theorem call_lenS : CallR X (.builtin "len") rLenS := by
  intro pins s σ H as us Q I r h
  obtain ⟨d, n, rfl, hS, q⟩ := h
  obtain ⟨u, rfl, rx⟩ := vals1 r
  cases (show u = Value.ref d from rx)
  obtain ⟨⟨es, ⟨o, ep, t, ho, hx, hd, hT, h5⟩, hn⟩, _⟩ := (show ObjOk X.prog X.w H s.heap d (.ext (phiS d n)) from I.hok d _ hS)
  have hm : t.mask ≤ 8191 := by rcases hT.mm with e | e | e | e | e | e <;> omega
  refine call_len_set ho hx hd hT.fits (by omega) ?_
  rw [hn]
  exact ⟨.int (n : Int), H, (I.tok _).tok _, ⟨_, rfl⟩, q⟩
theorem kI_nodup {ks : List (List Int)} (h : ks.Nodup) : (ks.map kI).Nodup := by
  show (ks.map kI).Pairwise (· ≠ ·)
  rw [List.pairwise_map]
  exact List.Pairwise.imp (fun h z => h (kI_inj z)) h
theorem call_setI (hc : X.calm = true) (hu : X.A.units + 8 < cLine) : CallR X (.type "set") rSetI := by
  intro pins s σ H as us Q I r h
  obtain ⟨p, xs, ks, rfl, hp, hi, hnd, hf, q⟩ := h
  obtain ⟨u, rfl, rx⟩ := vals1 r
  cases (show u = Value.ref p from rx)
  obtain ⟨hz, its, n, rv, h1⟩ := (show ObjOk X.prog X.w H s.heap p (.lst xs) from I.hok p _ hp)
  have hxl := hi.length
  rw [List.length_map] at hxl
  have hil := rv.length
  have hunit : X.A.in1.in1.in1.units = X.A.units + 3 := rfl
  refine call_setL (knd := sTup (mixKind X.prog X.w)) (its := its.toArray) (ks := ks.map kI) (show X.A.in1.in1.in1.units < cLine by omega) (I.ok.hd hc) ⟨_, h1, rfl, n, rfl⟩ (by rw [List.size_toArray, List.length_map]; omega) (kI_nodup hnd) (by rw [List.size_toArray]; omega) (fun j v k e1 e2 => ?_) fun h' tk keep ph => ?_
  · have e1 : its[j]? = some v := by simpa using e1
    rw [List.getElem?_map] at e2
    obtain ⟨k0, e3, rfl⟩ := Option.map_eq_some_iff.mp e2
    obtain ⟨x, hx, ix⟩ := hi.get (i := j) (t := tI k0) (by rw [List.getElem?_map, e3]; rfl)
    obtain ⟨u, hu', ru⟩ := rv.get hx
    rw [hu'] at e1
    cases e1
    obtain ⟨b, zz, rfl, hb, hz'⟩ := id ix
    cases (show v = Value.ref b from ru)
    rw [IsL.ints.mp hz', ← kI_kV] at hb
    exact ⟨b, rfl, key_of I.hok hb⟩
  · have hnone := I.hok.fresh (Nat.le_refl s.heap.objs.size)
    have ph : phiS s.heap.objs.size ks.length h' := by rw [List.length_map] at ph; exact ph
    exact ⟨.ref s.heap.objs.size, _, I.laid (a := s.heap.objs.size) (o := .ext (phiS s.heap.objs.size ks.length)) (t' := tk) keep (Nat.le_refl _) ph.ok, rfl, q _ _ (Same.new hnone _) hnone upd_same⟩
end
end L2

namespace My
open PySem PySem.Spec PyProof.Rows L2
noncomputable def top (i : Nat) : Stmt := PySem.Challenge.pw_meetwall_k54_all_ever_come_through.main.body.getD i (.Pass ⟨0, 0, 0, 0⟩)
abbrev s_is_whole : Stmt := top 4
abbrev s_is_within : Stmt := top 5
abbrev s_is_tuple_within : Stmt := top 6
end My
namespace My
open PySem PySem.Spec PyProof.Rows L2
theorem bt_isi : bootBuiltins "isinstance" = some (.builtin "isinstance") := by decide +kernel
theorem bt_len : bootBuiltins "len" = some (.builtin "len") := by decide +kernel
theorem bt_all : bootBuiltins "all" = some (.builtin "all") := by decide +kernel
theorem bt_sum : bootBuiltins "sum" = some (.builtin "sum") := by decide +kernel
theorem bt_int : bootBuiltins "int" = some (.type "int") := by decide +kernel
theorem bt_bool : bootBuiltins "bool" = some (.type "bool") := by decide +kernel
theorem bt_tuple : bootBuiltins "tuple" = some (.type "tuple") := by decide +kernel
theorem bt_set : bootBuiltins "set" = some (.type "set") := by decide +kernel
theorem bt_dict : bootBuiltins "dict" = some (.type "dict") := by decide +kernel
theorem bt_list : bootBuiltins "list" = some (.type "list") := by decide +kernel

noncomputable def Ok (P : Program) (w : World) (K : PySem.W.Frag) (mg : Str → Option Value) (base : Heap) (x : Str) (k : Nat) (ps : List Str) (sp : Sp) : Prop :=
  ∃ f fd, FnOk P w K mg base CX0 k f fd ps sp ∧ Binds K fd ps [] ∧ PySem.W.keepIn K (.ref f) = true ∧ mg x = some (.ref f)
theorem Ok.mono {P : Program} {w : World} {K : PySem.W.Frag} {mg : Str → Option Value} {base : Heap} {x : Str} {j k : Nat} {ps : List Str} {sp : Sp} (h : Ok P w K mg base x j ps sp) (hk : j ≤ k) : Ok P w K mg base x k ps sp := by
  obtain ⟨f, fd, F, r⟩ := h
  exact ⟨f, fd, F.mono hk, r⟩
theorem pe_fn {X : Cx} {x : Str} {k : Nat} {ps : List Str} {sp : Sp} {p pos : Pos} {e : Expr} {es : List Expr} {t : TA} (h : Ok X.prog X.w X.K X.mg X.base x k ps sp) (hr : Room k X.A) (ha : PA X (e :: es) t) (hg : Gl X x := by rfl)
    (hdb : (x == ("__debug__" : Str)) = false := by decide) (he : starEach (e :: es) X.env = (false, eval e X.env) :: starEach es X.env := by rfl) (hpl : (backTo pos (starEach es X.env)).any (·.1) = false := by rfl) :
    PE X (.Call (.Name x p) (e :: es) [] pos) (tCall sp [] E0 t) := by
  obtain ⟨f, fd, F, hb, hk, hm⟩ := h
  exact pe_call F hr hg hm hk hb .nil pass0 ha hdb he hpl
noncomputable def Def (K : PySem.W.Frag) (mg : Str → Option Value) (x : Str) (st : Stmt) : Prop := ∃ f fd, Fun K x x st f fd ∧ mg x = some (.ref f)
theorem pe_cst {X : Cx} {x : Str} {i : Int} {pos : Pos} (h : ∃ t, X.mg x = some (.int i t)) (hg : Gl X x := by rfl) (hd : (x == ("__debug__" : Str)) = false := by decide) : PE X (.Name x pos) (tC (.int i)) := by
  obtain ⟨t, h⟩ := h
  exact pe_glob hg h ⟨t, rfl⟩ hd
structure Txt (K : PySem.W.Frag) (mg : Str → Option Value) : Prop where
  AT : ∃ t, mg "MOST_AT_ONCE" = some (.int 5 t)
  CN : ∃ t, mg "MOST_COUNTS" = some (.int 5 t)
  WN : ∃ t, mg "MOST_WANTED" = some (.int 4 t)
  MS : ∃ t, mg "MOST_STANDS" = some (.int 3125 t)
  isi : mg "isinstance" = none
  int : mg "int" = none
  bool : mg "bool" = none
  str : mg "str" = none
  tuple : mg "tuple" = none
  list : mg "list" = none
  len : mg "len" = none
  all : mg "all" = none
  sum : mg "sum" = none
  range : mg "range" = none
  enumerate : mg "enumerate" = none
  sorted : mg "sorted" = none
  any : mg "any" = none
  dict : mg "dict" = none
  set : mg "set" = none
/-! promises: truths told of trees; nothing that stood is changed -/
noncomputable def spB1 (A : T → Prop) (f : T → Bool) : Sp := fun vs H Q _ => ∃ t v, vs = [v] ∧ Is H t v ∧ A t ∧ ∀ H', Same H H' → Q (.bl (f t)) H'
section
variable {X : Cx} {e : Expr} {te : TE} {p1 p2 pos : Pos}
theorem pe_isi {n : Str} {T : String} (h1 : X.mg "isinstance" = none) (h2 : X.mg n = none) (hb : bootBuiltins n = some (.type T)) (he : PE X e te) (g1 : Gl X "isinstance" := by rfl) (g2 : Gl X n := by rfl) (hn : n ≠ "__name__" := by decide) (hd : (n == ("__debug__" : Str)) = false := by decide)
    (hs : starEach [e, .Name n p2] X.env = (false, eval e X.env) :: starEach [.Name n p2] X.env := by rfl) (hp : (backTo pos (starEach [.Name n p2] X.env)).any (·.1) = false := by rfl) (hs2 : starEach [.Name n p2] X.env = (false, eval (.Name n p2) X.env) :: starEach [] X.env := by rfl) :
    PE X (.Call (.Name "isinstance" p1) [e, .Name n p2] [] pos) (tCB (rIsi X.K) (tCons te (tCons (tC (.ty T)) tNil))) :=
  pe_callB call_isi g1 h1 bt_isi (pa_cons he (pa_cons (pe_bltn g2 h2 hb rfl hn hd) pa_nil hs2) hs) (he := hs) (hpl := hp)
end
/-! ### is_whole -/
noncomputable def mWhole : T → Bool | .int _ => true | _ => false
section
variable {P : Program} {w : World} {K : PySem.W.Frag} {mg : Str → Option Value} {base : Heap}
theorem sc1 : FnScope ["thing"] ["thing"] (defScope s_is_whole) := ⟨rfl, rfl, rfl, by decide +kernel, rfl, by decide +kernel, by decide +kernel⟩
theorem ok_is_whole (D : Def K mg "is_whole" s_is_whole) (T : Txt K mg) : Ok P w K mg base "is_whole" 1 ["thing"] (spB1 (fun _ => True) mWhole) := by
  obtain ⟨f, fd, F, hm⟩ := D
  refine ⟨f, fd, ?_, F.binds fun _ _ _ _ _ _ us hl => (match us, hl with | [_], _ => rfl), F.kp, hm⟩
  refine F.ok sc1 (fun vs H Q E h => ?_) (fun cdv A outer s H vs Q E hr h => ?_)
  · obtain ⟨t, v, rfl, _⟩ := h
    rfl
  · obtain ⟨t, v, rfl, ht, _, k⟩ := h
    refine ⟨_, pss_one (ps_ret (pe_and (pe_isi T.isi T.int bt_int (pv 0)) (pe_one (pe_not (pe_isi T.isi T.bool bt_bool (pv 0)))))), ?_⟩
    refine ⟨_, rfl, v, "int", _, _, rfl, ht.ty, kit_int K t, _, rfl, ?_⟩
    refine ite2 (fun c => ?_) (fun c => ?_)
    · refine ⟨_, rfl, v, "bool", _, _, rfl, ht.ty, kit_bool K t, _, rfl, ?_⟩
      have e : (!iBl t) = mWhole t := by cases t <;> first | rfl | (exact absurd c (by simp [iInt]))
      rw [e]
      exact k H (Same.refl H)
    · have e : false = mWhole t := by cases t <;> first | rfl | (exact absurd rfl c)
      rw [e]
      exact k H (Same.refl H)
end
noncomputable def mWithin (t : T) (lo hi : Int) : Bool := match t with | .int i => decide (lo ≤ i) && decide (i ≤ hi) | _ => false
noncomputable def mTupW (t : T) (lo hi : Int) : Bool := match t with | .tup ts => decide (lo ≤ (ts.length : Int)) && decide ((ts.length : Int) ≤ hi) | _ => false
theorem Is.at {K : PySem.W.Frag} {H : Hp} {ts : List T} {v : V} {i : Nat} {t : T} (h : Is H (.tup ts) v) (e : ts[i]? = some t) : ∃ a xs u, v = .ref a ∧ SqT K H a xs ∧ atI xs ((i : Nat) : Int) = some u ∧ Is H t u := by
  obtain ⟨a, xs, rfl, ha, hl⟩ := h
  obtain ⟨u, e1, e2⟩ := hl.get e
  exact ⟨a, xs, u, rfl, SqT.of ha, atI_nat e1, e2⟩
noncomputable def spWi : Sp := fun vs H Q _ => ∃ t v lo hi, vs = [v, .int lo, .int hi] ∧ Is H t v ∧ ∀ H', Same H H' → Q (.bl (mWithin t lo hi)) H'
noncomputable def spTw : Sp := fun vs H Q _ => ∃ t v lo hi, vs = [v, .int lo, .int hi] ∧ Is H t v ∧ ∀ H', Same H H' → Q (.bl (mTupW t lo hi)) H'
section
variable {P : Program} {w : World} {K : PySem.W.Frag} {mg : Str → Option Value} {base : Heap}
theorem mkOk {x : Str} {st : Stmt} {N ps : List Str} {k : Nat} {sp : Sp} (D : Def K mg x st) (S : FnScope N ps (defScope st))
    (hb : ∀ (kV doc pm : Value) (an : Option Addr) (cdv ct : Value) (us : List Value), us.length = ps.length → bindArgs (PySem.W.fnOf x x (defArgs st) (defBody st) (defScope st) .none kV doc pm an cdv ct) ⟨us, []⟩ = pure (ps.zip us))
    (len : ∀ vs H Q E, sp vs H Q E → vs.length = ps.length)
    (hbody : ∀ (f : Addr) (cdv : Value) (A : Around) (outer : List Env) (s : Shared) (H : Hp) (vs : List V) (Q : VK) (E : XK), Room k (A.deeper (envOfC x (defScope st) s.heap.objs.size f cdv)) → sp vs H Q E →
      ∃ t, PSs (cxOf CX0 P w K mg base N x (defScope st) f cdv A outer s H E).nox (defBody st) t ∧ t { nx := fun _ H' => Q .non H', rt := Q } (start N vs) H) : Ok P w K mg base x (k + 1) ps sp := by
  obtain ⟨f, fd, F, hm⟩ := D
  exact ⟨f, fd, F.ok S len (fun cdv A outer s H vs Q E hr h => hbody f cdv A outer s H vs Q E hr h), F.binds hb, F.kp, hm⟩
theorem sc_within : FnScope ["thing", "least", "most"] ["thing", "least", "most"] (defScope s_is_within) := ⟨rfl, rfl, rfl, by decide +kernel, rfl, by decide +kernel, by decide +kernel⟩
theorem ok_is_within (D : Def K mg "is_within" s_is_within) (T : Txt K mg) (o1 : Ok P w K mg base "is_whole" 1 ["thing"] (spB1 (fun _ => True) mWhole)) : Ok P w K mg base "is_within" 2 ["thing", "least", "most"] spWi := by
  refine mkOk D sc_within (fun _ _ _ _ _ _ us hl => (match us, hl with | [_, _, _], _ => rfl)) (fun vs H Q E ⟨t, v, lo, hi, e, _⟩ => by rw [e]; rfl) fun f cdv A outer s H vs Q E hr h => ?_
  obtain ⟨t, v, lo, hi, rfl, ht, k⟩ := h
  refine ⟨_, pss_one (ps_ret (pe_and (pe_fn o1 hr (pa_cons (pv 0) pa_nil)) (pe_one (pe_chain op_le op_le (pv 1) (pv 0) (pv 2))))), ?_⟩
  refine ⟨_, rfl, t, v, rfl, ht, trivial, fun H1 s1 => ⟨_, rfl, ?_⟩⟩
  cases t with
  | int i =>
    cases (show v = .int i from ht)
    refine iteT ?_
    refine ⟨_, rfl, _, rfl, lo, i, rfl, rfl, _, rfl, ?_⟩
    by_cases c : lo ≤ i
    · rw [decide_eq_true c]
      refine iteT ⟨_, rfl, i, hi, rfl, rfl, ?_⟩
      have kk : Q (.bl (decide (lo ≤ i) && decide (i ≤ hi))) H1 := k H1 s1
      rw [decide_eq_true c, Bool.true_and] at kk
      exact kk
    · rw [decide_eq_false c]
      refine iteF ?_
      have kk : Q (.bl (decide (lo ≤ i) && decide (i ≤ hi))) H1 := k H1 s1
      rw [decide_eq_false c, Bool.false_and] at kk
      exact kk
  | _ => exact iteF (k H1 s1)
theorem sc_tw : FnScope ["thing", "least", "most"] ["thing", "least", "most"] (defScope s_is_tuple_within) := ⟨rfl, rfl, rfl, by decide +kernel, rfl, by decide +kernel, by decide +kernel⟩
theorem ok_is_tuple_within (D : Def K mg "is_tuple_within" s_is_tuple_within) (T : Txt K mg) : Ok P w K mg base "is_tuple_within" 1 ["thing", "least", "most"] spTw := by
  refine mkOk D sc_tw (fun _ _ _ _ _ _ us hl => (match us, hl with | [_, _, _], _ => rfl)) (fun vs H Q E ⟨t, v, lo, hi, e, _⟩ => by rw [e]; rfl) fun f cdv A outer s H vs Q E hr h => ?_
  obtain ⟨t, v, lo, hi, rfl, ht, k⟩ := h
  refine ⟨_, pss_one (ps_ret (pe_and (pe_isi T.isi T.tuple bt_tuple (pv 0)) (pe_one (pe_chain op_le op_le (pv 1) (pe_callB call_len_seq rfl T.len bt_len (pa_cons (pv 0) pa_nil)) (pv 2))))), ?_⟩
  refine ⟨_, rfl, v, "tuple", _, _, rfl, ht.ty, kit_tuple K t, _, rfl, ?_⟩
  cases t with
  | tup ts =>
    refine iteT ?_
    obtain ⟨a, xs, rfl, ha, hl⟩ := ht
    have e := hl.length
    refine ⟨_, rfl, _, rfl, a, xs, rfl, .inr (SqT.of ha), lo, _, rfl, rfl, _, rfl, ?_⟩
    have kk : Q (.bl (decide (lo ≤ (ts.length : Int)) && decide ((ts.length : Int) ≤ hi))) H := k H (Same.refl H)
    rw [← e] at kk
    by_cases c : lo ≤ (xs.length : Int)
    · rw [decide_eq_true c]
      rw [decide_eq_true c, Bool.true_and] at kk
      exact iteT ⟨_, rfl, _, hi, rfl, rfl, kk⟩
    · rw [decide_eq_false c]
      rw [decide_eq_false c, Bool.false_and] at kk
      exact iteF kk
  | _ => exact iteF (k H (Same.refl H))
end
end My

namespace My
open PySem PySem.Spec PyProof.Rows L2
abbrev s_mixed : Stmt := top 31
abbrev s_pick : Stmt := top 32
noncomputable def spSp : Sp := fun vs H Q _ => ∃ c p : Int, vs = [.int c, .int p] ∧ 0 ≤ p ∧ ∀ r, 0 ≤ r → Q (.int r) H
noncomputable def But (a : Addr) (H H' : Hp) : Prop := ∀ b o, b ≠ a → H b = some o → H' b = some o
theorem But.refl (a : Addr) (H : Hp) : But a H H := fun _ _ _ e => e
theorem But.trans {a : Addr} {H H1 H2 : Hp} (x : But a H H1) (y : But a H1 H2) : But a H H2 := fun b o n e => y b o n (x b o n e)
theorem _root_.L2.Same.but {a : Addr} {H H' : Hp} (s : Same H H') : But a H H' := fun b o _ e => s b o e
theorem But.upd {a : Addr} {H : Hp} {o : HO} : But a H (upd H a o) := fun b u n e => by rw [upd_ne n]; exact e
theorem But.seq {K : PySem.W.Frag} {a s : Addr} {H H' : Hp} {xs : List V} (x : But a H H') (n : s ≠ a) (h : SqL K H s xs) : SqL K H' s xs := by
  rcases h with (h | ⟨o, h⟩) | h
  · exact .inl (.inl (x _ _ n h))
  · exact .inl (.inr ⟨o, x _ _ n h⟩)
  · exact .inr h
structure Tape (K : PySem.W.Frag) (H : Hp) (a s : Addr) (ns : List Int) : Prop where
  at' : ∃ p r : Int, H a = some (.lst [.ref s, .int p, .int r]) ∧ 0 ≤ p ∧ 0 ≤ r
  seq : SqL K H s (ns.map V.int)
  ne : s ≠ a
  len : ns.length ≤ 63
theorem Tape.same {K : PySem.W.Frag} {H H' : Hp} {a s : Addr} {ns : List Int} (t : Tape K H a s ns) (h : Same H H') : Tape K H' a s ns := by
  obtain ⟨⟨p, r, e, h1, h2⟩, q, n, l⟩ := t
  exact ⟨⟨p, r, h _ _ e, h1, h2⟩, h.seq q, n, l⟩
theorem Tape.tups {K : PySem.W.Frag} {H H' : Hp} {a s : Addr} {ns : List Int} (t : Tape K H a s ns) (b : But a H H') : Tups H H' := fun c xs e => by
  obtain ⟨⟨p, r, ea, _⟩, _⟩ := t
  exact b c _ (ne_of e ea (by intro z; cases z)) e
theorem log_small {j : Int} (h0 : 0 < j) (h : j < 2 ^ 70) : j.natAbs.log2 < 9000 := by
  have h1 : j.natAbs < 2 ^ 70 := by omega
  have h2 : j.natAbs ≠ 0 := by omega
  have h3 : j.natAbs.log2 < 70 := (Nat.log2_lt h2).mpr h1
  omega
theorem op_fdivW {X : Cx} : OpR X (binaryOp .FloorDiv) (rI (fun _ j => 0 < j ∧ j < 2 ^ 70) fun i j => .int (i / j)) := opI fun i j _ _ _ _ _ hc q => by
  have h1 : (0 : Int) < j := hc.1
  exact floordiv_int (by omega) (by rw [Int.fdiv_eq_ediv_of_nonneg i (by omega)]; exact q) (.inl (PyProof.noPylong_of_log2 (log_small hc.1 hc.2)))
noncomputable def spPk (K : PySem.W.Frag) : Sp := fun vs H Q _ => ∃ (a s : Addr) (ns : List Int) (many : Int), vs = [.ref a, .int many] ∧ Tape K H a s ns ∧ 0 < many ∧ many < 2 ^ 70 ∧ ∀ d H', 0 ≤ d → d < many → But a H H' → Tape K H' a s ns → Q (.int d) H'
section
variable {P : Program} {w : World} {K : PySem.W.Frag} {mg : Str → Option Value} {base : Heap}
theorem cm_r {i j : Int} (h : -(2 ^ 64) < j ∧ j < 2 ^ 64) : CMul i j := .inr h
theorem cm_l {i j : Int} (h : -(2 ^ 64) < i ∧ i < 2 ^ 64) : CMul i j := .inl h
theorem sc_mixed : FnScope ["cell", "place", "one", "two", "more"] ["cell", "place"] (defScope s_mixed) := ⟨rfl, rfl, rfl, by decide +kernel, rfl, by decide +kernel, by decide +kernel⟩
theorem ok_mixed (D : Def K mg "_law_e_mixed" s_mixed) : Ok P w K mg base "_law_e_mixed" 1 ["cell", "place"] spSp := by
  refine mkOk D sc_mixed (fun _ _ _ _ _ _ us hl => (match us, hl with | [_, _], _ => rfl)) (fun vs H Q E ⟨_, _, e, _⟩ => by rw [e]; rfl) fun f cdv A outer s H vs Q E hr h => ?_
  obtain ⟨c, p, rfl, hp, k⟩ := h
  have nd := sc_mixed.nd
  refine ⟨_, pss_cons (ps_if (pt_cmpR op_ge (pv 0) (pe_op op_pow pe_int pe_int) (nomark _)) (pss_one (ps_ret (pv 0))) pss_nil)
    (pss_cons (ps_set (i := 2) nd rfl (Or.inl rfl) (pe_op op_mod (pe_op op_add (pe_op op_add (pe_op op_mul (pe_op op_mod (pv 0) pe_int) pe_int) (pe_op op_mul (pv 1) pe_int)) pe_int) pe_int))
    (pss_cons (ps_set (i := 3) nd rfl (Or.inl rfl) (pe_op op_mod (pe_op op_add (pe_op op_add (pe_op op_add (pe_op op_mul (pv 2) (pv 2)) (pe_op op_mul pe_int (pv 2))) (pe_op op_mul pe_int (pv 1))) pe_int) pe_int))
    (pss_cons (ps_set (i := 4) nd rfl (Or.inl rfl) (pe_op op_mod (pe_op op_add (pe_op op_add (pe_op op_mul (pv 3) (pv 3)) (pe_op op_mul pe_int (pv 1))) (pv 2)) pe_int))
    (pss_one (ps_ret (pe_op op_add (pe_op op_mul (pv 3) pe_int) (pv 4))))))), ?_⟩
  refine ⟨_, rfl, 10, 18, rfl, rfl, ⟨by decide, by decide, by decide⟩, _, _, rfl, rfl, _, rfl, ?_⟩
  refine ite2 (fun d => ?_) (fun _ => ?_)
  · have d := of_decide_eq_true d
    refine ⟨_, rfl, k c ?_⟩
    have : (0 : Int) ≤ (10 : Int) ^ (18 : Int).toNat := by decide
    omega
  · refine ⟨_, rfl, _, _, rfl, rfl, (by show (0 : Int) < 1000000009; decide), _, _, rfl, rfl, cm_r (by decide), _, rfl, _, _, rfl, rfl, cm_r (by decide), _, _, rfl, rfl, _, _, rfl, rfl, _, _, rfl, rfl, (by show (0 : Int) < 1999999973; decide), ?_⟩
    have m1 := Int.emod_nonneg (c % 1000000009 * 75353 + p * 4099 + 17) (show (1999999973 : Int) ≠ 0 by decide)
    have m2 := Int.emod_lt_of_pos (c % 1000000009 * 75353 + p * 4099 + 17) (show (0 : Int) < 1999999973 by decide)
    generalize (c % 1000000009 * 75353 + p * 4099 + 17) % 1999999973 = x1 at m1 m2 ⊢
    refine ⟨_, rfl, _, rfl, _, _, rfl, rfl, cm_l (by omega), _, rfl, _, _, rfl, rfl, cm_l (by decide), _, _, rfl, rfl, _, rfl, _, _, rfl, rfl, cm_l (by decide), _, _, rfl, rfl, _, _, rfl, rfl, _, _, rfl, rfl, (by show (0 : Int) < 2147483549; decide), ?_⟩
    have m3 := Int.emod_nonneg (x1 * x1 + 8191 * x1 + 3 * p + 1) (show (2147483549 : Int) ≠ 0 by decide)
    have m4 := Int.emod_lt_of_pos (x1 * x1 + 8191 * x1 + 3 * p + 1) (show (0 : Int) < 2147483549 by decide)
    generalize (x1 * x1 + 8191 * x1 + 3 * p + 1) % 2147483549 = x2 at m3 m4 ⊢
    refine ⟨_, rfl, _, rfl, _, _, rfl, rfl, cm_l (by omega), _, rfl, _, _, rfl, rfl, cm_l (by decide), _, _, rfl, rfl, _, rfl, _, _, rfl, rfl, _, _, rfl, rfl, (by show (0 : Int) < 2147483497; decide), ?_⟩
    have m5 := Int.emod_nonneg (x2 * x2 + 127 * p + x1) (show (2147483497 : Int) ≠ 0 by decide)
    generalize (x2 * x2 + 127 * p + x1) % 2147483497 = x3 at m5 ⊢
    exact ⟨_, rfl, _, _, rfl, rfl, cm_r (by decide), _, rfl, _, _, rfl, rfl, k _ (by omega)⟩
theorem sc_pick : FnScope ["deck", "many", "place", "cell", "picked"] ["deck", "many"] (defScope s_pick) := ⟨rfl, rfl, rfl, by decide +kernel, rfl, by decide +kernel, by decide +kernel⟩
theorem ok_pick (D : Def K mg "_law_e_pick" s_pick) (T : Txt K mg) (o1 : Ok P w K mg base "_law_e_mixed" 1 ["cell", "place"] spSp) : Ok P w K mg base "_law_e_pick" 2 ["deck", "many"] (spPk K) := by
  refine mkOk D sc_pick (fun _ _ _ _ _ _ us hl => (match us, hl with | [_, _], _ => rfl)) (fun vs H Q E ⟨_, _, _, _, e, _⟩ => by rw [e]; rfl) fun f cdv A outer sh H vs Q E hr h => ?_
  obtain ⟨a, s, ns, many, rfl, hT, hm0, hm1, k⟩ := h
  obtain ⟨p, r, ha, hp0, hr0⟩ := hT.at'
  have nd := sc_pick.nd
  refine ⟨_, pss_cons (ps_if (pt_cmpR op_lt (pe_ix ix_list (pv 0) pe_int (fun _ _ => rfl)) (pv 1) (nomark _))
      (pss_cons (ps_set (i := 2) nd rfl (Or.inl rfl) (pe_ix ix_list (pv 0) pe_int (fun _ _ => rfl)))
      (pss_cons (ps_set (i := 3) nd rfl (Or.inl rfl) (pe_op op_mul pe_int (pv 2)))
      (pss_cons (ps_if (pt_cmpR op_lt (pv 2) (pe_callB call_len_seq (by rfl) T.len bt_len (pa_cons (pe_ix ix_list (pv 0) pe_int (fun _ _ => rfl)) pa_nil)) (nomark _))
          (pss_one (ps_set (i := 3) nd rfl (Or.inl rfl) (pe_ix ix_list (pe_ix ix_list (pv 0) pe_int (fun _ _ => rfl)) (pv 2) (fun _ _ => rfl))))
          (pss_one (ps_if (pt_cmpR op_gt (pe_callB call_len_seq (by rfl) T.len bt_len (pa_cons (pe_ix ix_list (pv 0) pe_int (fun _ _ => rfl)) pa_nil)) pe_int (nomark _))
            (pss_one (ps_set (i := 3) nd rfl (Or.inl rfl) (pe_op op_add (pe_op op_mod (pe_ix ix_list (pe_ix ix_list (pv 0) pe_int (fun _ _ => rfl)) (pe_op op_mod (pe_op op_mul (pv 2) pe_int) (pe_callB call_len_seq (by rfl) T.len bt_len (pa_cons (pe_ix ix_list (pv 0) pe_int (fun _ _ => rfl)) pa_nil))) (fun _ _ => rfl)) pe_int) (pe_op op_mul (pv 2) pe_int)))) pss_nil)))
      (pss_cons (ps_asg (pe_op op_add (pv 2) pe_int) (pg_sub (pv 0) pe_int set_list))
      (pss_one (ps_asg (pe_fn o1 hr (pa_cons (pv 3) (pa_cons (pv 2) pa_nil))) (pg_sub (pv 0) pe_int set_list))))))) pss_nil)
    (pss_cons (ps_set (i := 4) nd rfl (Or.inl rfl) (pe_op op_mod (pe_ix ix_list (pv 0) pe_int (fun _ _ => rfl)) (pv 1)))
    (pss_cons (ps_asg (pe_op op_fdivW (pe_ix ix_list (pv 0) pe_int (fun _ _ => rfl)) (pv 1)) (pg_sub (pv 0) pe_int set_list))
    (pss_one (ps_ret (pv 4))))), ?_⟩
  refine ⟨_, rfl, a, _, _, _, rfl, rfl, SqL.of ha, rfl, _, rfl, _, _, rfl, rfl, _, rfl, ?_⟩
  refine ite2 (fun _ => ?_) (fun _ => ?_)
  · have hl : (ns.map V.int).length = ns.length := List.length_map _
    refine ⟨_, rfl, a, _, _, _, rfl, rfl, SqL.of ha, rfl, _, rfl, _, _, rfl, rfl, cm_l (by decide), ?_⟩
    refine ⟨_, rfl, _, rfl, a, _, _, _, rfl, rfl, SqL.of ha, rfl, s, _, rfl, .inl hT.seq, _, _, rfl, rfl, _, rfl, ?_⟩
    refine ite2 (fun c1 => ?_) (fun c1 => ?_)
    · have c1 := of_decide_eq_true c1
      rw [hl] at c1
      have hi : p.toNat < ns.length := by omega
      have ep : p = ((p.toNat : Nat) : Int) := by omega
      have hat : atI (ns.map V.int) p = some (.int ns[p.toNat]) := by
        have q : atI (ns.map V.int) ((p.toNat : Nat) : Int) = some (.int ns[p.toNat]) := atI_nat (by rw [List.getElem?_map, List.getElem?_eq_getElem hi]; rfl)
        rw [← ep] at q
        exact q
      refine ⟨_, rfl, a, _, _, _, rfl, rfl, SqL.of ha, rfl, _, rfl, s, _, _, _, rfl, rfl, hT.seq, hat, ?_⟩
      refine ⟨_, rfl, _, _, rfl, rfl, _, rfl, a, _, _, _, rfl, rfl, ha, rfl, ?_⟩
      refine ⟨_, rfl, _, rfl, _, p, rfl, hp0, fun r2 hr2 => ⟨_, rfl, a, _, _, _, rfl, rfl, upd_same, rfl, ?_⟩⟩
      have e2 : (upd (upd H a (.lst (([.ref s, .int p, .int r] : List V).set 1 (.int (p + 1))))) a (.lst ((([.ref s, .int p, .int r] : List V).set 1 (.int (p + 1))).set 2 (.int r2)))) a = some (.lst [.ref s, .int (p + 1), .int r2]) := upd_same
      refine ⟨_, rfl, a, _, _, _, rfl, rfl, SqL.of e2, rfl, _, rfl, _, _, rfl, rfl, hm0, ?_⟩
      refine ⟨_, rfl, a, _, _, _, rfl, rfl, SqL.of e2, rfl, _, rfl, _, _, rfl, rfl, ⟨hm0, hm1⟩, _, rfl, a, _, _, _, rfl, rfl, e2, rfl, ?_⟩
      refine ⟨_, rfl, k _ _ (Int.emod_nonneg _ (by omega)) (Int.emod_lt_of_pos _ hm0) ((But.refl a H).trans (But.upd.trans (But.upd.trans But.upd))) ⟨⟨_, _, upd_same, (by omega), Int.ediv_nonneg hr2 (by omega)⟩, But.seq ((But.refl a H).trans (But.upd.trans (But.upd.trans But.upd))) hT.ne hT.seq, hT.ne, hT.len⟩⟩
    · refine ⟨_, rfl, a, _, _, _, rfl, rfl, SqL.of ha, rfl, s, _, rfl, .inl hT.seq, _, _, rfl, rfl, _, rfl, ?_⟩
      refine ite2 (fun c2 => ?_) (fun c2 => ?_)
      · have c2 := of_decide_eq_true c2
        rw [hl] at c2
        have hpos : (0 : Int) < (ns.length : Int) := c2
        have hj1 := Int.emod_nonneg (p * 11) (show (ns.length : Int) ≠ 0 by omega)
        have hj2 := Int.emod_lt_of_pos (p * 11) hpos
        have hi : (p * 11 % (ns.length : Int)).toNat < ns.length := by omega
        have ep : p * 11 % (ns.length : Int) = (((p * 11 % (ns.length : Int)).toNat : Nat) : Int) := by omega
        have hat : atI (ns.map V.int) (p * 11 % (ns.length : Int)) = some (.int ns[(p * 11 % (ns.length : Int)).toNat]) := by
          have q : atI (ns.map V.int) (((p * 11 % (ns.length : Int)).toNat : Nat) : Int) = some (.int ns[(p * 11 % (ns.length : Int)).toNat]) := atI_nat (by rw [List.getElem?_map, List.getElem?_eq_getElem hi]; rfl)
          rw [← ep] at q
          exact q
        refine ⟨_, rfl, a, _, _, _, rfl, rfl, SqL.of ha, rfl, _, rfl, _, _, rfl, rfl, cm_r (by decide), _, rfl, a, _, _, _, rfl, rfl, SqL.of ha, rfl, s, _, rfl, .inl hT.seq, _, _, rfl, rfl, ?_, s, _, _, _, rfl, rfl, hT.seq, (by rw [hl]; exact hat), _, _, rfl, rfl, (by show (0 : Int) < 999999937; decide), _, rfl, _, _, rfl, rfl, cm_r (by decide), _, _, rfl, rfl, ?_⟩
        · show (0 : Int) < (((ns.map V.int).length : Nat) : Int)
          rw [hl]; exact hpos
        refine ⟨_, rfl, _, _, rfl, rfl, _, rfl, a, _, _, _, rfl, rfl, ha, rfl, ?_⟩
        refine ⟨_, rfl, _, rfl, _, p, rfl, hp0, fun r2 hr2 => ⟨_, rfl, a, _, _, _, rfl, rfl, upd_same, rfl, ?_⟩⟩
        have e2 : (upd (upd H a (.lst (([.ref s, .int p, .int r] : List V).set 1 (.int (p + 1))))) a (.lst ((([.ref s, .int p, .int r] : List V).set 1 (.int (p + 1))).set 2 (.int r2)))) a = some (.lst [.ref s, .int (p + 1), .int r2]) := upd_same
        refine ⟨_, rfl, a, _, _, _, rfl, rfl, SqL.of e2, rfl, _, rfl, _, _, rfl, rfl, hm0, ?_⟩
        refine ⟨_, rfl, a, _, _, _, rfl, rfl, SqL.of e2, rfl, _, rfl, _, _, rfl, rfl, ⟨hm0, hm1⟩, _, rfl, a, _, _, _, rfl, rfl, e2, rfl, ?_⟩
        refine ⟨_, rfl, k _ _ (Int.emod_nonneg _ (by omega)) (Int.emod_lt_of_pos _ hm0) ((But.refl a H).trans (But.upd.trans (But.upd.trans But.upd))) ⟨⟨_, _, upd_same, (by omega), Int.ediv_nonneg hr2 (by omega)⟩, But.seq ((But.refl a H).trans (But.upd.trans (But.upd.trans But.upd))) hT.ne hT.seq, hT.ne, hT.len⟩⟩
      · skip
        refine ⟨_, rfl, _, _, rfl, rfl, _, rfl, a, _, _, _, rfl, rfl, ha, rfl, ?_⟩
        refine ⟨_, rfl, _, rfl, _, p, rfl, hp0, fun r2 hr2 => ⟨_, rfl, a, _, _, _, rfl, rfl, upd_same, rfl, ?_⟩⟩
        have e2 : (upd (upd H a (.lst (([.ref s, .int p, .int r] : List V).set 1 (.int (p + 1))))) a (.lst ((([.ref s, .int p, .int r] : List V).set 1 (.int (p + 1))).set 2 (.int r2)))) a = some (.lst [.ref s, .int (p + 1), .int r2]) := upd_same
        refine ⟨_, rfl, a, _, _, _, rfl, rfl, SqL.of e2, rfl, _, rfl, _, _, rfl, rfl, hm0, ?_⟩
        refine ⟨_, rfl, a, _, _, _, rfl, rfl, SqL.of e2, rfl, _, rfl, _, _, rfl, rfl, ⟨hm0, hm1⟩, _, rfl, a, _, _, _, rfl, rfl, e2, rfl, ?_⟩
        refine ⟨_, rfl, k _ _ (Int.emod_nonneg _ (by omega)) (Int.emod_lt_of_pos _ hm0) ((But.refl a H).trans (But.upd.trans (But.upd.trans But.upd))) ⟨⟨_, _, upd_same, (by omega), Int.ediv_nonneg hr2 (by omega)⟩, But.seq ((But.refl a H).trans (But.upd.trans (But.upd.trans But.upd))) hT.ne hT.seq, hT.ne, hT.len⟩⟩
  · refine ⟨_, rfl, a, _, _, _, rfl, rfl, SqL.of ha, rfl, _, rfl, _, _, rfl, rfl, hm0, ?_⟩
    refine ⟨_, rfl, a, _, _, _, rfl, rfl, SqL.of ha, rfl, _, rfl, _, _, rfl, rfl, ⟨hm0, hm1⟩, _, rfl, a, _, _, _, rfl, rfl, ha, rfl, ?_⟩
    refine ⟨_, rfl, k _ _ (Int.emod_nonneg _ (by omega)) (Int.emod_lt_of_pos _ hm0) But.upd ⟨⟨_, _, upd_same, hp0, Int.ediv_nonneg hr0 (by omega)⟩, But.seq But.upd hT.ne hT.seq, hT.ne, hT.len⟩⟩
end
theorem lcScope {X : Cx} {own : List Str} {cap : List Nat} {scope : Scope} (sc : Scope) (hsc : X.env.scope = sc) (h1 : scope.kind = .function) (h2 : ∀ x ∈ scope.names, x.2 = .free → sc.names.lookup x.1 = some .cell ∨ sc.names.lookup x.1 = some .free)
    (h3 : ∀ x ∈ scope.names, x.2 ≠ .cell) (h4 : ∀ x ∈ scope.names, x.2 = .local → scope.names.lookup x.1 = some .local) (h5 : CapOk X scope cap) : LcScope X own cap scope := by
  subst hsc
  exact ⟨h1, h2, h3, h4, h5⟩
theorem gIf0 {i : Nat} {v : V} {σ : L2.St} {H : Hp} {A B : L2.St → Hp → Prop} (h : A (σ.set i (some v)) H) : gName i v σ H (fun σ2 H2 => tIf0 σ2 H2 fun b H3 => if b = true then A σ2 H3 else B σ2 H3) := by
  show if true = true then A (σ.set i (some v)) H else B (σ.set i (some v)) H
  exact iteT h
theorem noLoc {o : Option NameKind} (h : o = some .cell) : o ≠ some .local := fun z => by rw [h] at z; cases z
theorem Tape.at2 {K : PySem.W.Frag} {H H' : Hp} {a s : Addr} {ns : List Int} (t : Tape K H a s ns) (b : But a H H') (h : ∃ p r : Int, H' a = some (.lst [.ref s, .int p, .int r]) ∧ 0 ≤ p ∧ 0 ≤ r) : Tape K H' a s ns := ⟨h, b.seq t.ne t.seq, t.ne, t.len⟩
noncomputable def TpAt (H : Hp) (a s : Addr) : Prop := ∃ p r : Int, H a = some (.lst [.ref s, .int p, .int r]) ∧ 0 ≤ p ∧ 0 ≤ r
theorem with_nx {t : TS} {D : Ends} {σ : L2.St} {H : Hp} (R : L2.St → Hp → Prop) (hR : ∀ σ' H', R σ' H' → D.nx σ' H') (g : (∀ σ' H', R σ' H' → D.nx σ' H') → t D σ H) : t D σ H := g hR
end My

namespace My
open PySem PySem.Spec PyProof.Rows L2
abbrev s_meeting : Stmt := top 33
noncomputable def eCs (cs : List Int) : T := .tup (cs.map T.int)
noncomputable def eMt (k : Int) (cs : List Int) : T := .tup [.int k, eCs cs]
theorem isInts {H : Hp} : ∀ (cs : List Int), IsL H (cs.map T.int) (cs.map V.int)
  | [] => rfl
  | c :: cs => ⟨_, _, rfl, rfl, isInts cs⟩
theorem froInts : ∀ (cs : List Int), FroL (cs.map T.int)
  | [] => trivial
  | c :: cs => ⟨trivial, froInts cs⟩
structure Cnt (k : Int) (cs : List Int) : Prop where
  k1 : 1 ≤ k
  k5 : k ≤ 5
  n1 : 1 ≤ cs.length
  n5 : cs.length ≤ 5
  each : ∀ c ∈ cs, 0 ≤ c ∧ c ≤ 4
noncomputable def spMt (K : PySem.W.Frag) : Sp := fun vs H Q _ => ∃ (a s : Addr) (ns : List Int) (g : Bool), vs = [.ref a, .bl g] ∧ Tape K H a s ns ∧ ∀ k cs v H', Cnt k cs → But a H H' → Tape K H' a s ns → Is H' (eMt k cs) v → Q v H'
theorem five {j : Int} (h0 : 0 ≤ j) (h1 : j < 5) : ∃ m : Int, atI ([.int 4, .int 4, .int 4, .int 2, .int 1] : List V) j = some (.int m) ∧ 1 ≤ m ∧ m ≤ 4 := by
  have : j = 0 ∨ j = 1 ∨ j = 2 ∨ j = 3 ∨ j = 4 := by omega
  rcases this with rfl | rfl | rfl | rfl | rfl
  · exact ⟨4, rfl, by decide, by decide⟩
  · exact ⟨4, rfl, by decide, by decide⟩
  · exact ⟨4, rfl, by decide, by decide⟩
  · exact ⟨2, rfl, by decide, by decide⟩
  · exact ⟨1, rfl, by decide, by decide⟩
section
variable {P : Program} {w : World} {K : PySem.W.Frag} {mg : Str → Option Value} {base : Heap}
theorem sc_meeting : FnScope ["deck", "great", "many", "most", "counts"] ["deck", "great"] (defScope s_meeting) := ⟨rfl, rfl, rfl, by decide +kernel, rfl, by decide +kernel, by decide +kernel⟩
theorem ok_meeting (D : Def K mg "_law_e_meeting" s_meeting) (T : Txt K mg) (o1 : Ok P w K mg base "_law_e_pick" 2 ["deck", "many"] (spPk K)) : Ok P w K mg base "_law_e_meeting" 3 ["deck", "great"] (spMt K) := by
  refine mkOk D sc_meeting (fun _ _ _ _ _ _ us hl => (match us, hl with | [_, _], _ => rfl)) (fun vs H Q E ⟨_, _, _, _, e, _⟩ => by rw [e]; rfl) fun f cdv A outer sh H vs Q E hr h => ?_
  obtain ⟨a, s, ns, g, rfl, hT, k⟩ := h
  have nd := sc_meeting.nd
  refine ⟨_, pss_cons (ps_set (i := 2) nd rfl (Or.inl rfl) (pe_op op_add pe_int (pe_fn o1 hr (pa_cons (pv 0) (pa_cons pe_int pa_nil)))))
    (pss_cons (ps_set (i := 3) nd rfl (Or.inr rfl) pe_int)
    (pss_cons (ps_if (pt_not (pt_val (pv 1))) (pss_one (ps_set (i := 3) nd rfl (Or.inr rfl) (pe_ix ix_list (pe_lst (pa_cons pe_int (pa_cons pe_int (pa_cons pe_int (pa_cons pe_int (pa_cons pe_int pa_nil)))))) (pe_op op_sub (pv 2) pe_int) (fun _ _ => rfl)))) pss_nil)
    (pss_cons (ps_set (i := 4) nd rfl (Or.inr rfl) (pe_lc (own := ["hand"]) (cap := [0, 3]) rfl (lcScope (defScope s_meeting) rfl rfl (by decide +kernel) (by decide +kernel) (by decide +kernel) ⟨⟨_, rfl, .inl rfl, noLoc rfl⟩, ⟨_, rfl, .inl rfl, noLoc rfl⟩, trivial⟩)
        (pi_range1 rfl T.range (pa_cons (pv 2) pa_nil))
        (fun _ _ _ _ => pg_name (i := 0) (by show (["hand", "deck", "most"] : List Str).Nodup; decide +kernel) rfl (Or.inl rfl)) (fun _ _ _ _ => pif_nil)
        (fun _ _ _ _ => pe_fn o1 hr (pa_cons (pv 1) (pa_cons (pe_op op_add (pv 2) pe_int) pa_nil)))) (hs := by with_unfolding_all rfl))
    (pss_cons (ps_if (pt_cmpR op_eq (pe_fn o1 hr (pa_cons (pv 0) (pa_cons pe_int pa_nil))) pe_int (nomark _))
      (pss_one (ps_set (i := 4) nd rfl (Or.inr rfl) (pe_lc (own := ["hand"]) (cap := [4]) rfl (lcScope (defScope s_meeting) rfl rfl (by decide +kernel) (by decide +kernel) (by decide +kernel) ⟨⟨_, rfl, .inl rfl, noLoc rfl⟩, trivial⟩)
        (pi_range1 rfl T.range (pa_cons (pv 2) pa_nil))
        (fun _ _ _ _ => pg_name (i := 0) (by show (["hand", "counts"] : List Str).Nodup; decide +kernel) rfl (Or.inl rfl)) (fun _ _ _ _ => pif_nil)
        (fun _ _ _ _ => pe_ix (r := rIxL K) ix_list (pv 1) pe_int (fun _ _ => rfl))) (hs := by with_unfolding_all rfl))) pss_nil)
    (pss_one (ps_ret (pe_tup (pa_cons (pe_op op_add pe_int (pe_fn o1 hr (pa_cons (pv 0) (pa_cons pe_int pa_nil)))) (pa_cons (pe_callTy call_tuple_of rfl T.tuple bt_tuple (pa_cons (pv 4) pa_nil)) pa_nil))))))))), ?_⟩
  refine ⟨_, rfl, a, s, ns, 5, rfl, hT, by decide, by decide, fun d1 H1 x1 y1 b1 t1 => ⟨1, d1, rfl, rfl, ?_⟩⟩
  dsimp only [gName, tSeq, tAsg, tC, tNext]
  refine with_nx (t := tIfS _ _ _) (fun σ' H' => ∃ m : Int, σ' = [some (.ref a), some (.bl g), some (.int (1 + d1)), some (.int m), none] ∧ 1 ≤ m ∧ m ≤ 4 ∧ Same H1 H') ?_ (fun fin => ?_)
  rotate_left
  · refine ⟨_, rfl, g, rfl, ?_⟩
    refine ite2 (fun c => ?_) (fun c => ?_)
    · refine ⟨(by show 5 ≤ sizeLine; decide), fun p5 hp5 => ?_⟩
      obtain ⟨m, hat, h1, h4⟩ := five (j := 1 + d1 - 1) (by omega) (by omega)
      exact ⟨_, rfl, _, _, rfl, rfl, p5, _, _, _, rfl, rfl, SqL.of upd_same, hat, fin _ _ ⟨m, rfl, h1, h4, Same.new hp5 _⟩⟩
    · exact fin _ _ ⟨4, rfl, by decide, by decide, Same.refl H1⟩
  rintro σ' H2 ⟨m, rfl, hm1, hm4, s2⟩
  have t2 := t1.same s2
  have b2 : But a H H2 := b1.trans s2.but
  refine ⟨_, rfl, 1 + d1, rfl, (by omega), (by omega), ?_⟩
  refine lc_range (lo := 0) (n := (1 + d1).toNat) (fun j ys H' => ∃ cs : List Int, ys = cs.map V.int ∧ cs.length = j ∧ (∀ c ∈ cs, 0 ≤ c ∧ c ≤ 4) ∧ But a H2 H' ∧ TpAt H' a s) ⟨[], rfl, rfl, (fun c hc => by cases hc), But.refl a H2, t2.at'⟩
    (fun j ys H' hj ⟨cs, h1, h2, _⟩ => by rw [h1, List.length_map]; exact small_le (by omega)) ?_ ?_
  · rintro j ys H3 hj ⟨cs, rfl, h2, h3, h4, h5⟩
    refine gIf0 ?_
    refine ⟨_, rfl, _, rfl, _, _, rfl, rfl, a, s, ns, m + 1, rfl, t2.at2 h4 h5, by omega, by omega, fun d H4 x4 y4 b4 t4 => ?_⟩
    refine ⟨cs ++ [d], by rw [List.map_append]; rfl, by rw [List.length_append, List.length_singleton, h2], fun c hc => ?_, h4.trans b4, t4.at'⟩
    rcases List.mem_append.mp hc with z | z
    · exact h3 c z
    · rw [List.mem_singleton.mp z]; omega
  rintro ys H3 ⟨cs, rfl, h2, h3, h4, h5⟩ p hp
  have t3 := t2.at2 h4 h5
  have s4 := Same.new hp (.lst (cs.map V.int))
  have hp4 : upd H3 p (.lst (cs.map V.int)) p = some (.lst (cs.map V.int)) := upd_same
  generalize upd H3 p (.lst (cs.map V.int)) = H4 at s4 hp4 ⊢
  have t4 := t3.same s4
  have b4 : But a H H4 := b2.trans (h4.trans s4.but)
  have hpa : p ≠ a := by
    obtain ⟨p3, r3, ha3, _, _⟩ := t3.at'
    exact fun z => by rw [z, ha3] at hp; cases hp
  dsimp only [gName, tSeq, tAsg, tC, tNext]
  refine with_nx (t := tIfS _ _ _) (fun σ' H' => ∃ (q : Addr) (cs : List Int), σ' = [some (.ref a), some (.bl g), some (.int (1 + d1)), some (.int m), some (.ref q)] ∧ q ≠ a ∧ H' q = some (.lst (cs.map V.int)) ∧ cs.length = (1 + d1).toNat ∧ (∀ c ∈ cs, 0 ≤ c ∧ c ≤ 4) ∧ But a H H' ∧ Tape K H' a s ns) ?_ (fun fin => ?_)
  rotate_left
  · refine ⟨_, rfl, a, s, ns, 3, rfl, t4, by decide, by decide, fun d5 H5 x5 y5 b5 t5 => ⟨rfl, _, rfl, ?_⟩⟩
    have hp5 := b5 _ _ hpa hp4
    refine ite2 (fun c => ?_) (fun c => ?_)
    · refine ⟨_, rfl, 1 + d1, rfl, (by omega), (by omega), ?_⟩
      cases cs with
      | nil => exact absurd h2 (by show (0 : Nat) ≠ _; omega)
      | cons c0 cs' =>
        refine lc_range (lo := 0) (n := (1 + d1).toNat) (fun j ys H' => H' = H5 ∧ ys = (List.replicate j c0).map V.int) ⟨rfl, rfl⟩ (fun j ys H' hj ⟨_, e⟩ => by rw [e, List.length_map, List.length_replicate]; exact small_le (by omega)) ?_ ?_
        · rintro j ys H6 hj ⟨rfl, rfl⟩
          refine gIf0 ?_
          exact ⟨_, rfl, p, _, _, _, rfl, rfl, SqL.of hp5, (show atI _ ((0 : Nat) : Int) = _ from atI_nat rfl), rfl, by rw [List.replicate_succ', List.map_append]; rfl⟩
        · rintro ys H6 ⟨rfl, rfl⟩ q hq
          have s7 := Same.new hq (.lst ((List.replicate (1 + d1).toNat c0).map V.int))
          refine fin _ _ ⟨q, List.replicate (1 + d1).toNat c0, rfl, ?_, upd_same, List.length_replicate, fun c hc => ?_, b4.trans (b5.trans s7.but), t5.same s7⟩
          · obtain ⟨p3, r3, ha3, _, _⟩ := t5.at'
            exact fun z => by rw [z, ha3] at hq; cases hq
          · rw [(List.mem_replicate.mp hc).2]
            exact h3 c0 List.mem_cons_self
    · exact fin _ _ ⟨p, cs, rfl, hpa, hp5, h2, h3, b4.trans b5, t5⟩
  rintro σ' H5 ⟨q, cs', rfl, hqa, hq5, hl, hc, b5, t5⟩
  refine ⟨_, rfl, a, s, ns, 5, rfl, t5, by decide, by decide, fun d6 H6 x6 y6 b6 t6 => ⟨1, d6, rfl, rfl, ?_⟩⟩
  have hq6 := b6 _ _ hqa hq5
  refine ⟨_, rfl, q, _, rfl, .inl ⟨SqL.of hq6, fun l hl7 => ?_⟩⟩
  have s7 := Same.new hl7 (.tup (cs'.map V.int))
  have i7 : Is (upd H6 l (.tup (cs'.map V.int))) (eCs cs') (.ref l) := Is.newTup hl7 (isInts cs')
  generalize upd H6 l (.tup (cs'.map V.int)) = H7 at s7 i7 ⊢
  refine ⟨(by show 2 ≤ sizeLine; decide), fun l8 hl8 => ?_⟩
  have s8 := Same.new hl8 (.tup [.int (1 + d6), .ref l])
  refine k (1 + d6) cs' _ _ ⟨by omega, by omega, by omega, by omega, hc⟩ (b5.trans (b6.trans (s7.trans s8).but)) (t6.same (s7.trans s8)) (Is.newTup hl8 (IsL.two rfl i7))
end
end My

namespace My
open PySem PySem.Spec PyProof.Rows L2
abbrev s_are_wanted : Stmt := top 16
abbrev s_is_counted : Stmt := top 17
noncomputable def mWant (t : T) : Bool := match t with | .tup ts => ts.all fun d => mWithin d 0 4 | _ => false
noncomputable def mCounted (t : T) : Bool := match t with | .tup [k, c] => mWithin k 1 5 && (mTupW c 1 5 && mWant c) | _ => false
theorem tup2 {t : T} (h : mTupW t 2 2 = true) : ∃ x y, t = .tup [x, y] := by
  cases t with
  | tup ts =>
    have h : (decide ((2 : Int) ≤ (ts.length : Int)) && decide ((ts.length : Int) ≤ 2)) = true := h
    simp only [Bool.and_eq_true, decide_eq_true_eq] at h
    have : ts.length = 2 := by omega
    match ts, this with
    | [x, y], _ => exact ⟨x, y, rfl⟩
  | _ => cases h
theorem tup2' {x y : T} : mTupW (.tup [x, y]) 2 2 = true := by simp [mTupW]
noncomputable def ShortT (t : T) : Prop := ∃ ts, t = .tup ts ∧ ts.length ≤ 1000
section
variable {P : Program} {w : World} {K : PySem.W.Frag} {mg : Str → Option Value} {base : Heap}
theorem sc_wanted : FnScope ["counts"] ["counts"] (defScope s_are_wanted) := ⟨rfl, rfl, rfl, by decide +kernel, rfl, by decide +kernel, by decide +kernel⟩
theorem ok_are_wanted (D : Def K mg "are_wanted" s_are_wanted) (T : Txt K mg) (o1 : Ok P w K mg base "is_within" 2 ["thing", "least", "most"] spWi) : Ok P w K mg base "are_wanted" 3 ["counts"] (spB1 ShortT mWant) := by
  refine mkOk D sc_wanted (fun _ _ _ _ _ _ us hl => (match us, hl with | [_], _ => rfl)) (fun vs H Q E ⟨t, v, e, _⟩ => by rw [e]; rfl) fun f cdv A outer s H vs Q E hr h => ?_
  obtain ⟨t, v, rfl, ht, ⟨ts, rfl, hlen⟩, k⟩ := h
  refine ⟨_, pss_one (ps_ret (pe_callB (call_all rfl) rfl T.all bt_all (pa_cons (pe_lc (own := ["count"]) (cap := []) rfl (lcScope (defScope s_are_wanted) rfl rfl (by decide +kernel) (by decide +kernel) (by decide +kernel) trivial) (pi_tup (pv 0))
      (fun _ _ _ _ => pg_name (i := 0) (by show (["count"] : List Str).Nodup; decide +kernel) rfl (Or.inl rfl)) (fun _ _ _ _ => pif_nil)
      (fun _ _ _ _ => pe_fn o1 hr (pa_cons (pv 0) (pa_cons pe_int (pa_cons (pe_cst T.WN) pa_nil))))) pa_nil))), ?_⟩
  obtain ⟨a, xs, rfl, ha, hl⟩ := ht
  have hxl := hl.length
  refine ⟨_, rfl, a, rfl, ⟨xs, SqT.of ha⟩, ?_⟩
  refine lc_tup (xs := xs) (fun i ys H' => Same H H' ∧ ys = (ts.take i).map fun d => V.bl (mWithin d 0 4)) ⟨Same.refl H, rfl⟩ (fun i ys H' hi ⟨s2, e⟩ => ⟨SqT.of (s2 _ _ ha), by rw [e, List.length_map, List.length_take]; exact small_le (by omega)⟩) ?_ ?_
  · rintro i x ys H' hx ⟨s2, rfl⟩
    refine gIf0 ?_
    obtain ⟨d, hd, hxd⟩ := hl.get' hx
    refine ⟨_, rfl, d, x, 0, 4, rfl, hxd.mono s2, fun H3 s3 => ⟨s2.trans s3, ?_⟩⟩
    rw [List.take_add_one, hd, List.map_append]
    rfl
  · rintro ys H' ⟨s2, rfl⟩ p hp
    refine ⟨p, ts.map fun d => mWithin d 0 4, rfl, SqL.of ?_, ?_⟩
    · rw [upd_same, List.map_map, hxl, List.take_length]
      rfl
    · have e : (ts.map fun d => mWithin d 0 4).all id = mWant (.tup ts) := by rw [List.all_map]; rfl
      rw [e]
      exact k _ (s2.trans (Same.new hp _))
theorem sc_counted : FnScope ["thing"] ["thing"] (defScope s_is_counted) := ⟨rfl, rfl, rfl, by decide +kernel, rfl, by decide +kernel, by decide +kernel⟩
theorem ok_is_counted (D : Def K mg "is_counted" s_is_counted) (T : Txt K mg) (o1 : Ok P w K mg base "is_tuple_within" 1 ["thing", "least", "most"] spTw) (o2 : Ok P w K mg base "is_within" 2 ["thing", "least", "most"] spWi)
    (o3 : Ok P w K mg base "are_wanted" 3 ["counts"] (spB1 ShortT mWant)) : Ok P w K mg base "is_counted" 4 ["thing"] (spB1 (fun _ => True) mCounted) := by
  refine mkOk D sc_counted (fun _ _ _ _ _ _ us hl => (match us, hl with | [_], _ => rfl)) (fun vs H Q E ⟨t, v, e, _⟩ => by rw [e]; rfl) fun f cdv A outer s H vs Q E hr h => ?_
  obtain ⟨t, v, rfl, ht, _, k⟩ := h
  have r1 := hr.mono (show 1 ≤ 3 by decide)
  have r2 := hr.mono (show 2 ≤ 3 by decide)
  refine ⟨_, pss_cons (ps_if (PW.pt (pw_or (pt_not (pt_val (pe_fn o1 r1 (pa_cons (pv 0) (pa_cons pe_int (pa_cons pe_int pa_nil)))))) (pw_or1 (pt_not (pt_val (pe_fn o2 r2 (pa_cons (pe_ix ix_tup (pv 0) pe_int (fun _ _ => rfl)) (pa_cons pe_int (pa_cons (pe_cst T.AT) pa_nil)))))))))
      (pss_one (ps_ret pe_bl)) pss_nil)
    (pss_one (ps_ret (pe_and (pe_fn o1 r1 (pa_cons (pe_ix ix_tup (pv 0) pe_int (fun _ _ => rfl)) (pa_cons pe_int (pa_cons (pe_cst T.CN) pa_nil)))) (pe_one (pe_fn o3 hr (pa_cons (pe_ix ix_tup (pv 0) pe_int (fun _ _ => rfl)) pa_nil)))))), ?_⟩
  refine ⟨_, rfl, t, v, 2, 2, rfl, ht, fun H1 s1 => ⟨_, rfl, ?_⟩⟩
  cases c : mTupW t 2 2 with
  | false =>
    refine iteT (iteT ?_)
    have e : mCounted t = false := by
      unfold mCounted
      split
      · rw [tup2'] at c; cases c
      · rfl
    have kk := k H1 s1
    rw [e] at kk
    exact kk
  | true =>
    obtain ⟨x, y, rfl⟩ := tup2 c
    refine iteF ?_
    obtain ⟨a, xs, u0, rfl, sq, e0, i0⟩ := Is.at (K := K) (i := 0) (t := x) (ht.mono s1) rfl
    refine ⟨_, rfl, a, xs, _, _, rfl, rfl, sq, e0, x, u0, 1, 5, rfl, i0, fun H2 s2 => ⟨_, rfl, ?_⟩⟩
    have kk : ∀ H', Same H H' → Q (.bl (mWithin x 1 5 && (mTupW y 1 5 && mWant y))) H' := k
    cases c1 : mWithin x 1 5 with
    | false =>
      rw [c1] at kk
      exact iteT (kk H2 (s1.trans s2))
    | true =>
      rw [c1] at kk
      refine iteF ?_
      obtain ⟨a', xs', u1, e', sq', e1, i1⟩ := Is.at (K := K) (i := 1) (t := y) (ht.mono (s1.trans s2)) rfl
      cases e'
      refine ⟨_, rfl, a, xs', _, _, rfl, rfl, sq', e1, y, u1, 1, 5, rfl, i1, fun H3 s3 => ⟨_, rfl, ?_⟩⟩
      cases c2 : mTupW y 1 5 with
      | false =>
        rw [c2] at kk
        exact iteF (kk H3 (s1.trans (s2.trans s3)))
      | true =>
        rw [c2] at kk
        refine iteT ?_
        obtain ⟨a'', xs'', u2, e'', sq'', e2, i2⟩ := Is.at (K := K) (i := 1) (t := y) (ht.mono (s1.trans (s2.trans s3))) rfl
        cases e''
        refine ⟨_, rfl, a, xs'', _, _, rfl, rfl, sq'', e2, y, u2, rfl, i2, ?_, fun H4 s4 => kk H4 (s1.trans (s2.trans (s3.trans s4)))⟩
        cases y with
        | tup ts =>
          have c : (decide ((1 : Int) ≤ (ts.length : Int)) && decide ((ts.length : Int) ≤ 5)) = true := c2
          simp only [Bool.and_eq_true, decide_eq_true_eq] at c
          exact ⟨ts, rfl, by omega⟩
        | _ => cases c2
end
end My

namespace My
/-! ### counted meetings, as they are: hands that want, groups, what is left -/
/-- the hands below i that want -/
noncomputable def wsI (cs : List Int) (i : Nat) : List Int := ((List.range i).filter fun j => decide (cs.getD j 0 > 0)).map fun (j : Nat) => (j : Int)
noncomputable def ws (cs : List Int) : List Int := wsI cs cs.length
noncomputable def stepL (found : List (List Int)) (h : Int) : List (List Int) := found ++ found.map (· ++ [h])
noncomputable def stepP (k : Int) (found : List (List Int)) (h : Int) : List (List Int) := found ++ (found.filter fun g => decide ((g.length : Int) < k)).map (· ++ [h])
noncomputable def gL (k : Int) (cs : List Int) : List (List Int) := ((ws cs).foldl stepL [[]]).filter fun g => decide ((g.length : Int) = k)
noncomputable def gP (k : Int) (cs : List Int) : List (List Int) := ((ws cs).foldl (stepP k) [[]]).filter fun g => decide ((g.length : Int) = k)
noncomputable def mMet (cs g : List Int) : List Int := (List.range cs.length).map fun (j : Nat) => if (j : Int) ∈ g then cs.getD j 0 - 1 else cs.getD j 0
noncomputable def mLeft (k : Int) (cs : List Int) : List (List Int) → Option (List Int)
  | [] => some cs
  | g :: r => if g ∈ gP k cs then mLeft k (mMet cs g) r else none
theorem wsI_succ (cs : List Int) (i : Nat) : wsI cs (i + 1) = if cs.getD i 0 > 0 then wsI cs i ++ [(i : Int)] else wsI cs i := by
  unfold wsI
  rw [List.range_succ, List.filter_append, List.map_append]
  by_cases c : cs.getD i 0 > 0
  · have e : [i].filter (fun j => decide (cs.getD j 0 > 0)) = [i] := by rw [List.filter_cons, if_pos (decide_eq_true c)]; rfl
    rw [if_pos c, e]; rfl
  · have e : [i].filter (fun j => decide (cs.getD j 0 > 0)) = [] := by rw [List.filter_cons, if_neg (fun z => c (of_decide_eq_true z))]; rfl
    rw [if_neg c, e]; exact List.append_nil _
theorem mem_stepL {found : List (List Int)} {h : Int} {g : List Int} : g ∈ stepL found h ↔ g ∈ found ∨ ∃ r ∈ found, g = r ++ [h] := by
  unfold stepL
  rw [List.mem_append, List.mem_map]
  constructor
  · rintro (h | ⟨r, h1, h2⟩)
    · exact .inl h
    · exact .inr ⟨r, h1, h2.symm⟩
  · rintro (h | ⟨r, h1, h2⟩)
    · exact .inl h
    · exact .inr ⟨r, h1, h2.symm⟩
theorem mem_stepP {k : Int} {found : List (List Int)} {h : Int} {g : List Int} : g ∈ stepP k found h ↔ g ∈ found ∨ ∃ r ∈ found, (r.length : Int) < k ∧ g = r ++ [h] := by
  unfold stepP
  rw [List.mem_append, List.mem_map]
  constructor
  · rintro (h | ⟨r, h1, h2⟩)
    · exact .inl h
    · obtain ⟨h3, h4⟩ := List.mem_filter.mp h1
      exact .inr ⟨r, h3, of_decide_eq_true h4, h2.symm⟩
  · rintro (h | ⟨r, h1, h2, h3⟩)
    · exact .inl h
    · exact .inr ⟨r, List.mem_filter.mpr ⟨h1, decide_eq_true h2⟩, h3.symm⟩
theorem sub_snoc {l : List Int} {h : Int} {g : List Int} : g.Sublist (l ++ [h]) ↔ g.Sublist l ∨ ∃ r, r.Sublist l ∧ g = r ++ [h] := by
  rw [List.sublist_append_iff]
  constructor
  · rintro ⟨a, b, rfl, h1, h2⟩
    cases h2 with
    | cons _ h2 => cases h2; exact .inl (by simpa using h1)
    | cons_cons _ h2 => cases h2; exact .inr ⟨a, h1, rfl⟩
  · rintro (h1 | ⟨r, h1, rfl⟩)
    · exact ⟨g, [], by simp, h1, List.nil_sublist _⟩
    · exact ⟨r, [h], rfl, h1, List.Sublist.refl _⟩
theorem mem_foldL : ∀ (n : Nat) (l : List Int), l.length = n → ∀ {g : List Int}, g ∈ l.foldl stepL [[]] ↔ g.Sublist l := by
  intro n
  induction n with
  | zero =>
    intro l hl g
    have : l = [] := List.length_eq_zero_iff.mp hl
    subst this
    simp
  | succ n ih =>
    intro l hl g
    rcases List.eq_nil_or_concat l with rfl | ⟨l', h, e⟩
    · cases hl
    · rw [List.concat_eq_append] at e
      subst e
      have hl' : l'.length = n := by simpa using hl
      rw [List.foldl_append, List.foldl_cons, List.foldl_nil, mem_stepL, ih l' hl', sub_snoc]
      constructor
      · rintro (a | ⟨r, h1, h2⟩)
        · exact .inl a
        · exact .inr ⟨r, (ih l' hl').mp h1, h2⟩
      · rintro (a | ⟨r, h1, h2⟩)
        · exact .inl a
        · exact .inr ⟨r, (ih l' hl').mpr h1, h2⟩
theorem mem_foldP (k : Int) (hk : 0 ≤ k) : ∀ (n : Nat) (l : List Int), l.length = n → ∀ {g : List Int}, g ∈ l.foldl (stepP k) [[]] ↔ g.Sublist l ∧ (g.length : Int) ≤ k := by
  intro n
  induction n with
  | zero =>
    intro l hl g
    have : l = [] := List.length_eq_zero_iff.mp hl
    subst this
    constructor
    · intro h
      have : g = [] := by simpa using h
      subst this
      exact ⟨List.Sublist.refl _, by simpa using hk⟩
    · rintro ⟨h, _⟩
      have : g = [] := by simpa using h
      subst this
      simp
  | succ n ih =>
    intro l hl g
    rcases List.eq_nil_or_concat l with rfl | ⟨l', h, e⟩
    · cases hl
    · rw [List.concat_eq_append] at e
      subst e
      have hl' : l'.length = n := by simpa using hl
      rw [List.foldl_append, List.foldl_cons, List.foldl_nil, mem_stepP, ih l' hl', sub_snoc]
      constructor
      · rintro (⟨a, b⟩ | ⟨r, h1, h2, rfl⟩)
        · exact ⟨.inl a, b⟩
        · obtain ⟨h3, h4⟩ := (ih l' hl').mp h1
          refine ⟨.inr ⟨r, h3, rfl⟩, ?_⟩
          rw [List.length_append, List.length_singleton]
          omega
      · rintro ⟨a | ⟨r, h1, rfl⟩, b⟩
        · exact .inl ⟨a, b⟩
        · rw [List.length_append, List.length_singleton] at b
          exact .inr ⟨r, (ih l' hl').mpr ⟨h1, by omega⟩, by omega, rfl⟩
theorem mem_gL {k : Int} {cs g : List Int} : g ∈ gL k cs ↔ g.Sublist (ws cs) ∧ (g.length : Int) = k := by
  unfold gL
  rw [List.mem_filter, mem_foldL _ _ rfl, decide_eq_true_eq]
theorem mem_gP {k : Int} (hk : 0 ≤ k) {cs g : List Int} : g ∈ gP k cs ↔ g.Sublist (ws cs) ∧ (g.length : Int) = k := by
  unfold gP
  rw [List.mem_filter, mem_foldP k hk _ _ rfl, decide_eq_true_eq]
  constructor
  · rintro ⟨⟨a, _⟩, b⟩; exact ⟨a, b⟩
  · rintro ⟨a, b⟩; exact ⟨⟨a, by omega⟩, b⟩
theorem len_foldL (l : List Int) : (l.foldl stepL [[]]).length = 2 ^ l.length := by
  have : ∀ (f : List (List Int)), (l.foldl stepL f).length = f.length * 2 ^ l.length := by
    induction l with
    | nil => intro f; simp
    | cons h l ih =>
      intro f
      rw [List.foldl_cons, ih]
      unfold stepL
      rw [List.length_append, List.length_map, List.length_cons, Nat.pow_succ]
      have : f.length + f.length = f.length * 2 := by omega
      rw [this, Nat.mul_assoc, Nat.mul_comm 2]
  rw [this]; simp
theorem len_foldP (k : Int) (l : List Int) : (l.foldl (stepP k) [[]]).length ≤ 2 ^ l.length := by
  have : ∀ (f : List (List Int)), (l.foldl (stepP k) f).length ≤ f.length * 2 ^ l.length := by
    induction l with
    | nil => intro f; simp
    | cons h l ih =>
      intro f
      rw [List.foldl_cons]
      refine Nat.le_trans (ih _) ?_
      unfold stepP
      rw [List.length_append, List.length_map, List.length_cons, Nat.pow_succ]
      have h1 := List.length_filter_le (fun g => decide ((g.length : Int) < k)) f
      have h2 : f.length * (2 ^ l.length * 2) = (f.length * 2) * 2 ^ l.length := by rw [Nat.mul_comm (2 ^ l.length), ← Nat.mul_assoc]
      rw [h2]
      exact Nat.mul_le_mul_right _ (by omega)
  have := this [[]]
  simpa using this
theorem memP_len (k : Int) : ∀ (l : List Int) (f : List (List Int)) (n : Nat), (∀ g ∈ f, g.length ≤ n) → ∀ g ∈ l.foldl (stepP k) f, g.length ≤ n + l.length
  | [], f, n, h, g, hg => h g hg
  | a :: l, f, n, h, g, hg => by
    have := memP_len k l (stepP k f a) (n + 1) (fun g' hg' => by
      rcases mem_stepP.mp hg' with z | ⟨r, h1, _, rfl⟩
      · exact Nat.le_succ_of_le (h g' z)
      · rw [List.length_append, List.length_singleton]
        exact Nat.succ_le_succ (h r h1)) g hg
    rw [List.length_cons]
    omega
theorem memL_len : ∀ (l : List Int) (f : List (List Int)) (n : Nat), (∀ g ∈ f, g.length ≤ n) → ∀ g ∈ l.foldl stepL f, g.length ≤ n + l.length
  | [], f, n, h, g, hg => h g hg
  | a :: l, f, n, h, g, hg => by
    have := memL_len l (stepL f a) (n + 1) (fun g' hg' => by
      rcases mem_stepL.mp hg' with z | ⟨r, h1, rfl⟩
      · exact Nat.le_succ_of_le (h g' z)
      · rw [List.length_append, List.length_singleton]
        exact Nat.succ_le_succ (h r h1)) g hg
    rw [List.length_cons]
    omega
theorem wsI_len (cs : List Int) (i : Nat) : (wsI cs i).length ≤ i := by
  unfold wsI
  rw [List.length_map]
  refine Nat.le_trans (List.length_filter_le _ _) ?_
  rw [List.length_range]
  exact Nat.le_refl _
theorem pow5 {n : Nat} (h : n ≤ 5) : 2 ^ n ≤ 32 := by
  have : n = 0 ∨ n = 1 ∨ n = 2 ∨ n = 3 ∨ n = 4 ∨ n = 5 := by omega
  rcases this with rfl | rfl | rfl | rfl | rfl | rfl <;> decide
theorem mem_wsI {cs : List Int} {i : Nat} {h : Int} : h ∈ wsI cs i ↔ ∃ j : Nat, h = (j : Int) ∧ j < i ∧ cs.getD j 0 > 0 := by
  unfold wsI
  rw [List.mem_map]
  constructor
  · rintro ⟨j, hj, rfl⟩
    obtain ⟨h1, h2⟩ := List.mem_filter.mp hj
    exact ⟨j, rfl, List.mem_range.mp h1, of_decide_eq_true h2⟩
  · rintro ⟨j, rfl, h1, h2⟩
    exact ⟨j, List.mem_filter.mpr ⟨List.mem_range.mpr h1, decide_eq_true h2⟩, rfl⟩
theorem ws_nodup (cs : List Int) : (ws cs).Nodup := by
  unfold ws wsI
  refine List.Pairwise.map (R := fun a b : Nat => a ≠ b) _ (fun a b (h : a ≠ b) (z : (a : Int) = (b : Int)) => h (by omega)) ?_
  exact (List.nodup_range).sublist List.filter_sublist
/-- what is right of a group -/
structure Gp (cs g : List Int) : Prop where
  nd : g.Nodup
  at' : ∀ h ∈ g, ∃ j : Nat, h = (j : Int) ∧ j < cs.length ∧ cs.getD j 0 > 0
theorem gp_of {cs g : List Int} (h : g.Sublist (ws cs)) : Gp cs g := ⟨(ws_nodup cs).sublist h, fun x hx => mem_wsI.mp (h.subset hx)⟩
/-! what the law's own taking away makes of it -/
noncomputable def dec1 (l : List Int) (h : Int) : List Int := l.set h.toNat (l.getD h.toNat 0 - 1)
theorem mMet_len (cs g : List Int) : (mMet cs g).length = cs.length := by unfold mMet; rw [List.length_map, List.length_range]
theorem mMet_get {cs g : List Int} {j : Nat} (h : j < cs.length) : (mMet cs g).getD j 0 = if (j : Int) ∈ g then cs.getD j 0 - 1 else cs.getD j 0 := by
  unfold mMet
  rw [List.getD_eq_getElem?_getD, List.getElem?_map, List.getElem?_range h]
  rfl
theorem ext_getD {xs ys : List Int} (hl : xs.length = ys.length) (h : ∀ j, j < xs.length → xs.getD j 0 = ys.getD j 0) : xs = ys := by
  refine List.ext_getElem hl fun i h1 h2 => ?_
  have := h i h1
  rw [List.getD_eq_getElem?_getD, List.getD_eq_getElem?_getD, List.getElem?_eq_getElem h1, List.getElem?_eq_getElem h2] at this
  exact this
theorem mMet_nil (cs : List Int) : mMet cs [] = cs := ext_getD (mMet_len cs []) fun j hj => by
  rw [mMet_len] at hj
  rw [mMet_get hj, if_neg (by simp)]
theorem getD_set {xs : List Int} {i j : Nat} {v : Int} (h : i < xs.length) : (xs.set i v).getD j 0 = if i = j then v else xs.getD j 0 := by
  rw [List.getD_eq_getElem?_getD, List.getD_eq_getElem?_getD, List.getElem?_set]
  by_cases c : i = j
  · subst c; rw [if_pos rfl, if_pos rfl, if_pos h]; rfl
  · rw [if_neg c, if_neg c]
theorem mMet_snoc {cs p : List Int} {j : Nat} (hj : j < cs.length) (hn : (j : Int) ∉ p) : dec1 (mMet cs p) (j : Int) = mMet cs (p ++ [(j : Int)]) := by
  unfold dec1
  rw [Int.toNat_natCast, mMet_get hj, if_neg hn]
  refine ext_getD (by rw [List.length_set, mMet_len, mMet_len]) fun i hi => ?_
  rw [List.length_set, mMet_len] at hi
  rw [getD_set (by rw [mMet_len]; exact hj), mMet_get hi, mMet_get hi]
  by_cases c : j = i
  · subst c
    rw [if_pos rfl, if_pos (by simp)]
  · rw [if_neg c]
    have e : ((i : Int) ∈ p ++ [(j : Int)]) ↔ (i : Int) ∈ p := by
      rw [List.mem_append, List.mem_singleton]
      constructor
      · rintro (z | z)
        · exact z
        · exact absurd z (by omega)
      · exact .inl
    by_cases d : (i : Int) ∈ p
    · rw [if_pos d, if_pos (e.mpr d)]
    · rw [if_neg d, if_neg (fun z => d (e.mp z))]
theorem sum_zero : ∀ {cs : List Int}, (∀ c ∈ cs, 0 ≤ c ∧ c ≤ 4) → (cs.sum = 0 ↔ ∀ c ∈ cs, c = 0) ∧ 0 ≤ cs.sum
  | [], _ => ⟨⟨fun _ c hc => (by cases hc), fun _ => rfl⟩, by simp⟩
  | c :: cs, h => by
    have h1 := h c List.mem_cons_self
    obtain ⟨ih, h2⟩ := sum_zero fun d hd => h d (List.mem_cons_of_mem _ hd)
    rw [List.sum_cons]
    refine ⟨⟨fun e d hd => ?_, fun e => ?_⟩, by omega⟩
    · rcases List.mem_cons.mp hd with rfl | hd
      · omega
      · exact ih.mp (by omega) d hd
    · have e1 := e c List.mem_cons_self
      have e2 := ih.mpr fun d hd => e d (List.mem_cons_of_mem _ hd)
      omega
theorem ws_nil {cs : List Int} (h : ∀ c ∈ cs, 0 ≤ c ∧ c ≤ 4) : ws cs = [] ↔ cs.sum = 0 := by
  rw [(sum_zero h).1]
  constructor
  · intro e c hc
    obtain ⟨i, hi, rfl⟩ := List.mem_iff_getElem.mp hc
    have h0 := h _ hc
    by_cases z : cs[i] > 0
    · have : (i : Int) ∈ ws cs := mem_wsI.mpr ⟨i, rfl, hi, by rw [List.getD_eq_getElem?_getD, List.getElem?_eq_getElem hi]; exact z⟩
      rw [e] at this
      cases this
    · omega
  · intro e
    rw [List.eq_nil_iff_forall_not_mem]
    intro x hx
    obtain ⟨j, rfl, hj, hp⟩ := mem_wsI.mp hx
    rw [List.getD_eq_getElem?_getD, List.getElem?_eq_getElem hj] at hp
    have := e cs[j] (List.getElem_mem hj)
    simp only [Option.getD_some] at hp
    omega
theorem met_each {cs g : List Int} (h : ∀ c ∈ cs, 0 ≤ c ∧ c ≤ 4) (G : Gp cs g) : ∀ c ∈ mMet cs g, 0 ≤ c ∧ c ≤ 4 := by
  intro c hc
  unfold mMet at hc
  obtain ⟨j, hj, rfl⟩ := List.mem_map.mp hc
  have hj := List.mem_range.mp hj
  have e : cs.getD j 0 = cs[j] := by rw [List.getD_eq_getElem?_getD, List.getElem?_eq_getElem hj]; rfl
  have h0 := h cs[j] (List.getElem_mem hj)
  split
  · rename_i z
    obtain ⟨j', e1, _, hp⟩ := G.at' _ z
    have : j' = j := by omega
    subst this
    omega
  · omega
theorem gL_nil {k : Int} (hk : 1 ≤ k) {cs : List Int} : gL k cs = [] ↔ ((ws cs).length : Int) < k := by
  constructor
  · intro e
    by_cases z : ((ws cs).length : Int) < k
    · exact z
    · have : (ws cs).take k.toNat ∈ gL k cs := mem_gL.mpr ⟨List.take_sublist _ _, by rw [List.length_take]; omega⟩
      rw [e] at this
      cases this
  · intro z
    rw [List.eq_nil_iff_forall_not_mem]
    intro g hg
    obtain ⟨h1, h2⟩ := mem_gL.mp hg
    have := h1.length_le
    omega
end My

namespace L2
open PySem PySem.Spec PyProof.Rows
section
variable {K : PySem.W.Frag} {a : Addr} {xs : List V} {g : TG} {tc : TT} {te : TE} {k : Nat} {cap : List Nat} {σ : St} {H : Hp} {Q : VK}
theorem lc_enum (Pv : Nat → List V → Hp → Prop) (h0 : Pv 0 [] H) (hl : ∀ i ys H, i ≤ xs.length → Pv i ys H → SqT K H a xs ∧ ys.length ≤ sizeLine)
    (hs : ∀ i x ys H p, xs[i]? = some x → Pv i ys H → H p = none → g (.ref p) (capσ k cap σ) (upd H p (.tup [.int i, x])) fun σ2 H2 => tc σ2 H2 fun b H3 => if b = true then te σ2 H3 fun y H4 => Pv (i + 1) (ys ++ [y]) H4 else Pv (i + 1) ys H3)
    (hd : ∀ ys H, Pv xs.length ys H → ∀ p, H p = none → Q (.ref p) (upd H p (.lst ys))) : LcEnd (Ite K a) g tc te k cap σ H Q := by
  refine ⟨fun i m ys H => m = xs.length - i ∧ i ≤ xs.length ∧ Pv i ys H, ⟨xs.length, by simp, Nat.zero_le _, h0⟩, ?_⟩
  rintro i m ys H ⟨rfl, hi, p⟩
  obtain ⟨q, hz⟩ := hl i ys H hi p
  by_cases hlt : i < xs.length
  · refine .inr ⟨⟨xs, xs[i], q, by simp [hlt]⟩, hz, Pv (i + 1), fun ys' H' p' => ⟨xs.length - (i + 1), by omega, rfl, hlt, p'⟩, fun x H' y => ?_⟩
    obtain ⟨p', y', rfl, hn, rfl, hy⟩ := y
    exact hs i y' ys H p' (hy xs q) p hn
  · have e : i = xs.length := by omega
    subst e
    exact .inl ⟨⟨xs, q, Nat.le_refl _⟩, hz, hd ys H p⟩
theorem if0 {A B : Hp → Prop} (h : A H) : tIf0 σ H fun b H3 => if b = true then A H3 else B H3 := by
  show if true = true then A H else B H
  exact iteT h
end
abbrev rLen (K : PySem.W.Frag) : List V → Hp → VK → Prop := fun xs H Q => ∃ p ys, xs = [.ref p] ∧ (SqL K H p ys ∨ SqT K H p ys) ∧ Q (.int ((ys.length : Nat) : Int)) H
theorem inV_ints (j : Int) (g : List Int) : inV (.int j) (g.map V.int) = decide (j ∈ g) := by
  unfold inV
  induction g with
  | nil => rfl
  | cons a g ih =>
    rw [List.map_cons, List.any_cons, ih]
    show ((a == j) || decide (j ∈ g)) = _
    rw [Bool.eq_iff_iff, Bool.or_eq_true, beq_iff_eq, decide_eq_true_eq, decide_eq_true_eq, List.mem_cons]
    exact ⟨fun z => z.imp Eq.symm id, fun z => z.imp Eq.symm id⟩
theorem flat_ints (g : List Int) : (g.map V.int).all flatV = true := by
  induction g with
  | nil => rfl
  | cons a g ih => rw [List.map_cons, List.all_cons, ih]; rfl
end L2
namespace My
open PySem PySem.Spec PyProof.Rows L2
abbrev s_wanting : Stmt := top 19
abbrev s_groups : Stmt := top 20
abbrev s_met : Stmt := top 21
theorem tI_open {H : Hp} {g : List Int} {v : V} (h : Is H (tI g) v) : ∃ a, v = .ref a ∧ H a = some (.tup (g.map V.int)) := by
  obtain ⟨a, xs, rfl, ha, hl⟩ := h
  rw [IsL.ints.mp hl] at ha
  exact ⟨a, rfl, ha⟩
theorem tI_new {H : Hp} {g : List Int} {a : Addr} (h : H a = some (.tup (g.map V.int))) : Is H (tI g) (.ref a) := ⟨a, _, rfl, h, IsL.ints.mpr rfl⟩
theorem gets {xs : List Int} {i : Nat} {x : V} (h : (xs.map V.int)[i]? = some x) : i < xs.length ∧ x = .int (xs.getD i 0) := by
  rw [List.getElem?_map] at h
  cases e : xs[i]? with
  | none => rw [e] at h; cases h
  | some n =>
    rw [e] at h
    cases h
    refine ⟨(List.getElem?_eq_some_iff.mp e).1, ?_⟩
    rw [List.getD_eq_getElem?_getD, e]
    rfl
noncomputable def spWn : Sp := fun vs H Q _ => ∃ cs v, vs = [v] ∧ Is H (tI cs) v ∧ cs.length ≤ 5 ∧ ∀ l H', Same H H' → H' l = some (.lst ((ws cs).map V.int)) → Q (.ref l) H'
noncomputable def spGr : Sp := fun vs H Q _ => ∃ k cs v, vs = [.int k, v] ∧ Is H (tI cs) v ∧ cs.length ≤ 5 ∧ ∀ l xs H', Same H H' → H' l = some (.lst xs) → IsL H' ((gP k cs).map tI) xs → Q (.ref l) H'
noncomputable def spMe : Sp := fun vs H Q _ => ∃ cs g v u, vs = [v, u] ∧ Is H (tI cs) v ∧ Is H (tI g) u ∧ cs.length ≤ 5 ∧ ∀ w H', Same H H' → Is H' (tI (mMet cs g)) w → Q w H'
theorem filter_take {α : Type} {l : List α} {p : α → Bool} {j : Nat} {x : α} (h : l[j]? = some x) : (l.take (j + 1)).filter p = (l.take j).filter p ++ if p x = true then [x] else [] := by
  rw [List.take_add_one, h, List.filter_append]
  cases c : p x
  · simp [c]
  · simp [c]
section
variable {P : Program} {w : World} {K : PySem.W.Frag} {mg : Str → Option Value} {base : Heap}
theorem sc_wanting : FnScope ["stand"] ["stand"] (defScope s_wanting) := ⟨rfl, rfl, rfl, by decide +kernel, rfl, by decide +kernel, by decide +kernel⟩
theorem ok_wanting (D : Def K mg "wanting" s_wanting) (T : Txt K mg) : Ok P w K mg base "wanting" 1 ["stand"] spWn := by
  refine mkOk D sc_wanting (fun _ _ _ _ _ _ us hl => (match us, hl with | [_], _ => rfl)) (fun vs H Q E ⟨t, v, e, _⟩ => by rw [e]; rfl) fun f cdv A outer s H vs Q E hr h => ?_
  obtain ⟨cs, v, rfl, hv, h5, k⟩ := h
  have ndc : (["hand", "count"] : List Str).Nodup := by decide +kernel
  refine ⟨_, pss_one (ps_ret (pe_lc (own := ["hand", "count"]) (cap := []) (g := gTup K 2 (gCons (gName 0) (gCons (gName 1) gNil))) rfl (lcScope (defScope s_wanting) rfl rfl (by decide +kernel) (by decide +kernel) (by decide +kernel) trivial) (pi_enum rfl T.enumerate (pa_cons (pv 0) pa_nil))
      (fun _ _ _ _ => pg_tup rfl (pgs_cons (pg_name (i := 0) ndc rfl (Or.inl rfl)) (pgs_cons (pg_name (i := 1) ndc rfl (Or.inl rfl)) pgs_nil))) (fun _ _ _ _ => pif_one (pt_cmpR op_gt (pv 1) pe_int (nomark _)))
      (fun _ _ _ _ => pv 0))), ?_⟩
  obtain ⟨a, rfl, ha⟩ := tI_open hv
  refine ⟨_, rfl, a, _, rfl, SqT.of ha, ?_⟩
  refine lc_enum (xs := cs.map V.int) (fun i ys H' => Same H H' ∧ ys = (wsI cs i).map V.int) ⟨Same.refl H, rfl⟩ (fun i ys H' hi ⟨s2, e⟩ => ⟨SqT.of (s2 _ _ ha), by rw [e, List.length_map]; rw [List.length_map] at hi; have := wsI_len cs i; exact small_le (by omega)⟩) ?_ ?_
  · rintro i x ys H' p hx ⟨s2, rfl⟩ hp
    obtain ⟨hi, rfl⟩ := gets hx
    have s3 := Same.new hp (.tup [.int (i : Int), .int (cs.getD i 0)])
    have hp3 : upd H' p (.tup [.int (i : Int), .int (cs.getD i 0)]) p = some (.tup [.int (i : Int), .int (cs.getD i 0)]) := upd_same
    generalize upd H' p (.tup [.int (i : Int), .int (cs.getD i 0)]) = H3 at s3 hp3 ⊢
    refine ⟨p, _, rfl, SqT.of hp3, rfl, _, _, rfl, _, _, rfl, rfl, ?_⟩
    refine ⟨_, rfl, _, _, rfl, rfl, _, rfl, ?_⟩
    rw [wsI_succ]
    refine ite2 (fun z => ?_) (fun z => ?_)
    · have z := of_decide_eq_true z
      refine ⟨_, rfl, s2.trans s3, ?_⟩
      rw [if_pos z, List.map_append]
      rfl
    · refine ⟨s2.trans s3, ?_⟩
      rw [if_neg (fun y => z (decide_eq_true y))]
  · rintro ys H' ⟨s2, rfl⟩ p hp
    rw [List.length_map]
    exact k p _ (s2.trans (Same.new hp _)) upd_same
theorem sc_met : FnScope ["stand", "group"] ["stand", "group"] (defScope s_met) := ⟨rfl, rfl, rfl, by decide +kernel, rfl, by decide +kernel, by decide +kernel⟩
theorem ok_met (D : Def K mg "met" s_met) (T : Txt K mg) : Ok P w K mg base "met" 1 ["stand", "group"] spMe := by
  refine mkOk D sc_met (fun _ _ _ _ _ _ us hl => (match us, hl with | [_, _], _ => rfl)) (fun vs H Q E ⟨_, _, _, _, e, _⟩ => by rw [e]; rfl) fun f cdv A outer s H vs Q E hr h => ?_
  obtain ⟨cs, g, v, u, rfl, hv, hg, h5, k⟩ := h
  have ndc : (["hand", "count", "group"] : List Str).Nodup := by decide +kernel
  refine ⟨_, pss_one (ps_ret (pe_callTy call_tuple_of rfl T.tuple bt_tuple (pa_cons (pe_lc (own := ["hand", "count"]) (cap := [1]) (g := gTup K 2 (gCons (gName 0) (gCons (gName 1) gNil))) rfl (lcScope (defScope s_met) rfl rfl (by decide +kernel) (by decide +kernel) (by decide +kernel) ⟨⟨_, rfl, .inl rfl, noLoc rfl⟩, trivial⟩) (pi_enum rfl T.enumerate (pa_cons (pv 0) pa_nil))
      (fun _ _ _ _ => pg_tup rfl (pgs_cons (pg_name (i := 0) ndc rfl (Or.inl rfl)) (pgs_cons (pg_name (i := 1) ndc rfl (Or.inl rfl)) pgs_nil))) (fun _ _ _ _ => pif_nil)
      (fun _ _ _ _ => pe_ifExp (pt_cmpR (r := rIn K false) op_in_seq (pv 0) (pv 2) rfl) (pe_op op_sub (pv 1) pe_int) (pv 1))) pa_nil))), ?_⟩
  obtain ⟨a, rfl, ha⟩ := tI_open hv
  obtain ⟨b, rfl, hb⟩ := tI_open hg
  refine ⟨_, rfl, a, _, rfl, SqT.of ha, ?_⟩
  refine lc_enum (xs := cs.map V.int) (fun i ys H' => Same H H' ∧ ys = ((mMet cs g).take i).map V.int) ⟨Same.refl H, rfl⟩ (fun i ys H' hi ⟨s2, e⟩ => ⟨SqT.of (s2 _ _ ha), by rw [e, List.length_map, List.length_take, mMet_len]; exact small_le (by omega)⟩) ?_ ?_
  · rintro i x ys H' p hx ⟨s2, rfl⟩ hp
    obtain ⟨hi, rfl⟩ := gets hx
    have s3 := Same.new hp (.tup [.int (i : Int), .int (cs.getD i 0)])
    have hp3 : upd H' p (.tup [.int (i : Int), .int (cs.getD i 0)]) p = some (.tup [.int (i : Int), .int (cs.getD i 0)]) := upd_same
    generalize upd H' p (.tup [.int (i : Int), .int (cs.getD i 0)]) = H3 at s3 hp3 ⊢
    refine ⟨p, _, rfl, SqT.of hp3, rfl, _, _, rfl, _, _, rfl, rfl, ?_⟩
    refine if0 ?_
    have em : (mMet cs g)[i]? = some (if (i : Int) ∈ g then cs.getD i 0 - 1 else cs.getD i 0) := by
      have h1 := mMet_get (g := g) hi
      rw [List.getD_eq_getElem?_getD] at h1
      have h2 : i < (mMet cs g).length := by rw [mMet_len]; exact hi
      rw [List.getElem?_eq_getElem h2] at h1 ⊢
      exact congrArg some h1
    refine ⟨_, rfl, _, rfl, b, _, rfl, .inr (SqT.of (s3 _ _ (s2 _ _ hb))), rfl, flat_ints g, _, rfl, ?_⟩
    rw [show (if (false = true) then !inV (.int (i : Int)) (g.map V.int) else inV (.int (i : Int)) (g.map V.int)) = decide ((i : Int) ∈ g) from inV_ints _ _]
    refine ite2 (fun z => ?_) (fun z => ?_)
    · have z := of_decide_eq_true z
      rw [if_pos z] at em
      refine ⟨_, rfl, _, _, rfl, rfl, s2.trans s3, ?_⟩
      rw [List.take_add_one, em, List.map_append]
      rfl
    · rw [if_neg (fun y => z (decide_eq_true y))] at em
      refine ⟨_, rfl, s2.trans s3, ?_⟩
      rw [List.take_add_one, em, List.map_append]
      rfl
  · rintro ys H' ⟨s2, rfl⟩ p hp
    have e : (mMet cs g).take (cs.map V.int).length = mMet cs g := List.take_of_length_le (by rw [mMet_len, List.length_map]; exact Nat.le_refl _)
    rw [e]
    have s3 := Same.new hp (.lst ((mMet cs g).map V.int))
    have hp3 : upd H' p (.lst ((mMet cs g).map V.int)) p = some (.lst ((mMet cs g).map V.int)) := upd_same
    generalize upd H' p (.lst ((mMet cs g).map V.int)) = H3 at s3 hp3 ⊢
    refine ⟨p, _, rfl, .inl ⟨SqL.of hp3, fun l hl => ?_⟩⟩
    exact k _ _ (s2.trans (s3.trans (Same.new hl _))) (tI_new upd_same)
theorem sc_groups : FnScope ["k", "stand", "found", "hand"] ["k", "stand"] (defScope s_groups) := ⟨rfl, rfl, rfl, by decide +kernel, rfl, by decide +kernel, by decide +kernel⟩
theorem ok_groups (D : Def K mg "groups" s_groups) (T : Txt K mg) (o1 : Ok P w K mg base "wanting" 1 ["stand"] spWn) : Ok P w K mg base "groups" 2 ["k", "stand"] spGr := by
  refine mkOk D sc_groups (fun _ _ _ _ _ _ us hl => (match us, hl with | [_, _], _ => rfl)) (fun vs H Q E ⟨_, _, _, e, _⟩ => by rw [e]; rfl) fun f cdv A outer s H vs Q E hr h => ?_
  obtain ⟨k, cs, v, rfl, hv, h5, q⟩ := h
  have nd := sc_groups.nd
  refine ⟨_, pss_cons (ps_set (i := 2) nd rfl (Or.inl rfl) (pe_lst (pa_cons (pe_tup pa_nil) pa_nil)))
    (pss_cons (ps_for PassesOwn.never rfl (pi_list (pe_fn o1 hr (pa_cons (pv 1) pa_nil))) (pg_name (i := 3) nd rfl (Or.inr rfl))
      (pss_one (ps_set (i := 2) nd rfl (Or.inl rfl) (pe_op op_cat (pv 2) (pe_lc (own := ["group"]) (cap := [0, 3]) rfl (lcScope (defScope s_groups) rfl rfl (by decide +kernel) (by decide +kernel) (by decide +kernel) ⟨⟨_, rfl, .inl rfl, noLoc rfl⟩, ⟨_, rfl, .inl rfl, noLoc rfl⟩, trivial⟩)
        (pi_list (pv 2)) (fun _ _ _ _ => pg_name (i := 0) (by show (["group", "k", "hand"] : List Str).Nodup; decide +kernel) rfl (Or.inl rfl))
        (fun _ _ _ _ => pif_one (pt_cmpR op_lt (pe_callB (r := rLen K) call_len_seq (by rfl) T.len bt_len (pa_cons (pv 0) pa_nil)) (pv 1) (nomark _)))
        (fun _ _ _ _ => pe_op op_catE (pv 0) (pe_tup (pa_cons (pv 2) pa_nil))))) (hs := by with_unfolding_all rfl))))
    (pss_one (ps_ret (pe_lc (own := ["group"]) (cap := [0]) rfl (lcScope (defScope s_groups) rfl rfl (by decide +kernel) (by decide +kernel) (by decide +kernel) ⟨⟨_, rfl, .inl rfl, noLoc rfl⟩, trivial⟩)
        (pi_list (pv 2)) (fun _ _ _ _ => pg_name (i := 0) (by show (["group", "k"] : List Str).Nodup; decide +kernel) rfl (Or.inl rfl))
        (fun _ _ _ _ => pif_one (pt_cmpR op_eq (pe_callB (r := rLen K) call_len_seq (by rfl) T.len bt_len (pa_cons (pv 0) pa_nil)) (pv 1) (nomark _)))
        (fun _ _ _ _ => pv 0))))), ?_⟩
  refine ⟨by show 0 ≤ sizeLine; decide, fun t0 ht0 => ?_⟩
  have s0 := Same.new ht0 (.tup [])
  have g0 : upd H t0 (.tup []) t0 = some (.tup []) := upd_same
  generalize upd H t0 (.tup []) = H0 at s0 g0 ⊢
  refine ⟨by show 1 ≤ sizeLine; decide, fun l0 hl0 => ?_⟩
  have s1 := Same.new hl0 (.lst [.ref t0])
  have g1 : upd H0 l0 (.lst [.ref t0]) l0 = some (.lst [.ref t0]) := upd_same
  generalize upd H0 l0 (.lst [.ref t0]) = H1 at s1 g1 ⊢
  have s01 := s0.trans s1
  refine ⟨_, rfl, cs, v, rfl, hv.mono s01, h5, fun lw H2 s2 gw => ?_⟩
  have hw5 : (ws cs).length ≤ 5 := Nat.le_trans (wsI_len cs _) h5
  refine ⟨lw, rfl, ⟨_, SqL.of gw⟩, ?_⟩
  refine for_list (xs := (ws cs).map V.int) (fun i σ H' => ∃ l xs x3, σ = [some (.int k), some v, some (.ref l), x3] ∧ Same H2 H' ∧ H' l = some (.lst xs) ∧ IsL H' ((((ws cs).take i).foldl (stepP k) [[]]).map tI) xs)
    ⟨l0, _, none, rfl, Same.refl H2, s2 _ _ g1, IsL.one ⟨t0, [], rfl, s2 _ _ (s1 _ _ g0), rfl⟩⟩ (fun i σ H' _ ⟨_, _, _, _, s', _⟩ => SqL.of (s' _ _ gw)) ?_ ?_
  · rintro i x σ H3 hx ⟨l, xs, x3, rfl, s3, gl, il⟩
    obtain ⟨hi, rfl⟩ := gets hx
    have hx' : (ws cs)[i]? = some ((ws cs).getD i 0) := by rw [List.getD_eq_getElem?_getD, List.getElem?_eq_getElem hi]; rfl
    have hlen : (((ws cs).take i).foldl (stepP k) [[]]).length ≤ 32 := Nat.le_trans (len_foldP k _) (pow5 (by rw [List.length_take]; omega))
    have hxl := il.length
    rw [List.length_map] at hxl
    have ef : ((ws cs).take (i + 1)).foldl (stepP k) [[]] = stepP k (((ws cs).take i).foldl (stepP k) [[]]) ((ws cs).getD i 0) := by
      rw [List.take_add_one, hx', List.foldl_append]
      rfl
    have hgl : ∀ g ∈ ((ws cs).take i).foldl (stepP k) [[]], g.length ≤ 900 := fun g hg => by
      have := memP_len k ((ws cs).take i) [[]] 0 (fun g' hg' => by rw [List.mem_singleton.mp hg']; exact Nat.le_refl 0) g hg
      rw [List.length_take] at this
      omega
    generalize (ws cs).getD i 0 = hd at ef ⊢
    generalize ((ws cs).take i).foldl (stepP k) [[]] = found at ef hlen hxl il hgl
    refine ⟨_, rfl, _, rfl, l, rfl, ⟨_, SqL.of gl⟩, ?_⟩
    refine lc_list (xs := xs) (fun j ys H' => Same H3 H' ∧ IsL H' ((((found.take j).filter fun g => decide ((g.length : Int) < k)).map (· ++ [hd])).map tI) ys) ⟨Same.refl H3, rfl⟩ (fun j ys H' hj ⟨s', e⟩ => ⟨SqL.of (s' _ _ gl), ?_⟩) ?_ ?_
    · rw [e.length, List.length_map, List.length_map]
      exact small_le (Nat.le_trans (List.length_filter_le _ _) (by rw [List.length_take]; omega))
    · rintro j x ys H4 hj ⟨s4, iy⟩
      obtain ⟨t, ht, it⟩ := (il.mono s4).get' hj
      rw [List.getElem?_map] at ht
      cases eg : found[j]? with
      | none => rw [eg] at ht; cases ht
      | some g =>
        rw [eg] at ht
        cases ht
        obtain ⟨a, rfl, ha⟩ := tI_open it
        rw [filter_take eg]
        refine ⟨_, rfl, a, _, rfl, .inr (SqT.of ha), _, rfl, _, _, rfl, rfl, _, rfl, ?_⟩
        rw [List.length_map]
        refine ite2 (fun z => ?_) (fun z => ?_)
        · rw [if_pos z]
          refine ⟨_, rfl, _, rfl, by show 1 ≤ sizeLine; decide, fun p hp => ?_⟩
          have s5 := Same.new hp (.tup [.int hd])
          have g5 : upd H4 p (.tup [.int hd]) p = some (.tup ([hd].map V.int)) := upd_same
          generalize upd H4 p (.tup [.int hd]) = H5 at s5 g5 ⊢
          have hg : g.length ≤ 900 := hgl g (List.mem_of_getElem? eg)
          refine ⟨fun _ => False, iT g, iT [hd], (it.mono s5).off0, (tI_new g5).off0, fun b hb => hb.elim, by show (iT g).length + 1 ≤ sizeLine; rw [iT_length]; exact small_le (by omega), fun v' H6 s6 i6 => ⟨s4.trans (s5.trans s6), ?_⟩⟩
          rw [List.map_append, List.map_append]
          refine IsL.append (iy.mono (s5.trans s6)) (IsL.one ?_)
          have e : tI (g ++ [hd]) = .tup (iT g ++ iT [hd]) := by unfold tI iT; rw [List.map_append]
          show Is H6 (tI (g ++ [hd])) v'
          rw [e]
          exact i6.off
        · rw [if_neg z, List.append_nil]
          exact ⟨s4, iy⟩
    · rintro ys H4 ⟨s4, iy⟩ p hp
      rw [hxl, List.take_length] at iy
      have s5 := Same.new hp (.lst ys)
      have g5 : upd H4 p (.lst ys) p = some (.lst ys) := upd_same
      generalize upd H4 p (.lst ys) = H5 at s5 g5 ⊢
      have hyl := iy.length
      rw [List.length_map, List.length_map] at hyl
      have := List.length_filter_le (fun g => decide ((g.length : Int) < k)) found
      refine ⟨l, p, _, _, rfl, rfl, s5 _ _ (s4 _ _ gl), g5, small_le (by omega), fun W hW => ?_⟩
      have s6 := Same.new hW (.lst (xs ++ ys))
      refine ⟨W, _, _, rfl, s3.trans (s4.trans (s5.trans s6)), upd_same, ?_⟩
      rw [ef]
      unfold stepP
      rw [List.map_append]
      exact IsL.append (il.mono (s4.trans (s5.trans s6))) (iy.mono (s5.trans s6))
  · rintro σ H3 ⟨l, xs, x3, rfl, s3, gl, il⟩
    rw [List.length_map, List.take_length] at il
    have hlen : ((ws cs).foldl (stepP k) [[]]).length ≤ 32 := Nat.le_trans (len_foldP k _) (pow5 hw5)
    have eg : gP k cs = ((ws cs).foldl (stepP k) [[]]).filter fun g => decide ((g.length : Int) = k) := rfl
    generalize (ws cs).foldl (stepP k) [[]] = found at il hlen eg
    have hxl := il.length
    rw [List.length_map] at hxl
    refine ⟨_, rfl, l, rfl, ⟨_, SqL.of gl⟩, ?_⟩
    refine lc_list (xs := xs) (fun j ys H' => Same H3 H' ∧ IsL H' (((found.take j).filter fun g => decide ((g.length : Int) = k)).map tI) ys) ⟨Same.refl H3, rfl⟩ (fun j ys H' hj ⟨s', e⟩ => ⟨SqL.of (s' _ _ gl), ?_⟩) ?_ ?_
    · rw [e.length, List.length_map]
      exact small_le (Nat.le_trans (List.length_filter_le _ _) (by rw [List.length_take]; omega))
    · rintro j x ys H4 hj ⟨s4, iy⟩
      obtain ⟨t, ht, it⟩ := (il.mono s4).get' hj
      rw [List.getElem?_map] at ht
      cases eg : found[j]? with
      | none => rw [eg] at ht; cases ht
      | some g =>
        rw [eg] at ht
        cases ht
        obtain ⟨a, rfl, ha⟩ := tI_open it
        rw [filter_take eg]
        refine ⟨_, rfl, a, _, rfl, .inr (SqT.of ha), _, rfl, rfl, _, rfl, ?_⟩
        rw [List.length_map]
        have ed : decide (V.int ((g.length : Nat) : Int) = V.int k) = decide ((g.length : Int) = k) := by
          by_cases c : (g.length : Int) = k
          · rw [c, decide_eq_true rfl, decide_eq_true rfl]
          · rw [decide_eq_false c, decide_eq_false (fun z => c (by injection z))]
        rw [ed]
        refine ite2 (fun z => ?_) (fun z => ?_)
        · rw [if_pos z]
          refine ⟨_, rfl, s4, ?_⟩
          rw [List.map_append]
          exact IsL.append iy (IsL.one it)
        · rw [if_neg z, List.append_nil]
          exact ⟨s4, iy⟩
    · rintro ys H4 ⟨s4, iy⟩ p hp
      rw [hxl, List.take_length, ← eg] at iy
      have s5 := Same.new hp (.lst ys)
      exact q p ys _ (s01.trans (s2.trans (s3.trans (s4.trans s5)))) upd_same (iy.mono s5)
end
end My

namespace My
open PySem PySem.Spec PyProof.Rows L2
abbrev s_leaves : Stmt := top 23
abbrev s_needC : Stmt := top 18
abbrev s_isName : Stmt := top 8
abbrev s_standBy : Stmt := top 24
abbrev s_isLeft : Stmt := top 26
theorem mt_open {H : Hp} {k : Int} {cs : List Int} {v : V} (h : Is H (eMt k cs) v) : ∃ am vc, v = .ref am ∧ H am = some (.tup [.int k, vc]) ∧ Is H (tI cs) vc := by
  obtain ⟨am, xm, rfl, ham, vk, r1, rfl, ik, vc, r2, rfl, ic, hnil⟩ := h
  cases (show r2 = [] from hnil)
  cases (show vk = .int k from ik)
  exact ⟨am, vc, rfl, ham, ic⟩
theorem Cnt.good {k : Int} {cs : List Int} (C : Cnt k cs) : mCounted (eMt k cs) = true := by
  have k1 := C.k1
  have k5 := C.k5
  have n1 := C.n1
  have n5 := C.n5
  show (mWithin (.int k) 1 5 && (mTupW (eCs cs) 1 5 && mWant (eCs cs))) = true
  have h1 : mWithin (.int k) 1 5 = true := by simp [mWithin, k1, k5]
  have h2 : mTupW (eCs cs) 1 5 = true := by
    show (decide ((1 : Int) ≤ ((cs.map T.int).length : Int)) && decide (((cs.map T.int).length : Int) ≤ 5)) = true
    rw [List.length_map, decide_eq_true (by omega), decide_eq_true (by omega)]
    rfl
  have h3 : mWant (eCs cs) = true := by
    show ((cs.map T.int).all fun d => mWithin d 0 4) = true
    rw [List.all_map, List.all_eq_true]
    intro c hc
    have := C.each c hc
    show (decide ((0 : Int) ≤ c) && decide (c ≤ 4)) = true
    rw [decide_eq_true this.1, decide_eq_true this.2]
    rfl
  rw [h1, h2, h3]
  rfl
theorem Cnt.met {k : Int} {cs g : List Int} (C : Cnt k cs) (h : g ∈ gP k cs) : Cnt k (mMet cs g) := by
  have k1 := C.k1
  have hg := (mem_gP (by omega)).mp h
  exact ⟨C.k1, C.k5, by rw [mMet_len]; exact C.n1, by rw [mMet_len]; exact C.n5, met_each C.each (gp_of hg.1)⟩
theorem Cnt.left {k : Int} : ∀ {row : List (List Int)} {cs cs' : List Int}, Cnt k cs → mLeft k cs row = some cs' → Cnt k cs'
  | [], cs, cs', C, h => by cases h; exact C
  | g :: r, cs, cs', C, h => by
    unfold mLeft at h
    split at h
    · rename_i hg
      exact Cnt.left (C.met hg) h
    · cases h
noncomputable def mLv (k : Int) (cs : List Int) (row : List (List Int)) : Bool := match mLeft k cs row with
  | none => false
  | some c => decide (0 < ((ws c).length : Int)) && decide (((ws c).length : Int) < k)
noncomputable def spLv : Sp := fun vs H Q _ => ∃ k cs v, vs = [.int k, v] ∧ Is H (tI cs) v ∧ cs.length ≤ 5 ∧ ∀ H', Same H H' → Q (.bl (decide (0 < ((ws cs).length : Int)) && decide (((ws cs).length : Int) < k))) H'
noncomputable def spNc : Sp := fun vs H Q _ => ∃ k cs v, vs = [v] ∧ Cnt k cs ∧ Is H (eMt k cs) v ∧ ∀ H', Same H H' → Q .non H'
noncomputable def spNm : Sp := fun vs H Q _ => ∃ g v, vs = [v] ∧ Is H (tI g) v ∧ g.length ≤ 1000 ∧ ∀ H', Same H H' → Q (.bl true) H'
structure Rw (H : Hp) (l : Addr) (row : List (List Int)) : Prop where
  at' : ∃ xs, H l = some (.lst xs) ∧ IsL H (row.map tI) xs
  few : row.length ≤ 100
  short : ∀ g ∈ row, g.length ≤ 100
theorem Rw.same {H H' : Hp} {l : Addr} {row : List (List Int)} (r : Rw H l row) (s : Same H H') : Rw H' l row := by
  obtain ⟨xs, e, i⟩ := r.at'
  exact ⟨⟨xs, s _ _ e, i.mono s⟩, r.few, r.short⟩
noncomputable def spBy : Sp := fun vs H Q _ => ∃ k cs vm l row, vs = [vm, .ref l] ∧ Cnt k cs ∧ Is H (eMt k cs) vm ∧ Rw H l row ∧ (mLeft k cs row = none → ∀ H', Same H H' → Q .non H') ∧ (∀ c v H', mLeft k cs row = some c → Same H H' → Is H' (tI c) v → Q v H')
noncomputable def spRow (f : Int → List Int → List (List Int) → Bool) : Sp := fun vs H Q _ => ∃ k cs vm l row, vs = [vm, .ref l] ∧ Cnt k cs ∧ Is H (eMt k cs) vm ∧ Rw H l row ∧ ∀ H', Same H H' → Q (.bl (f k cs row)) H'
theorem row_ty {K : PySem.W.Frag} {H : Hp} {l : Addr} {row : List (List Int)} (r : Rw H l row) : TyOf K H (.ref l) (.type "list") := by
  obtain ⟨xs, e, i⟩ := r.at'
  exact (show Is H (.lst (row.map tI)) (.ref l) from ⟨l, xs, rfl, e, i⟩).ty
theorem get_tI {H : Hp} {gs : List (List Int)} {xs : List V} {i : Nat} {x : V} (h : IsL H (gs.map tI) xs) (e : xs[i]? = some x) : ∃ g, gs[i]? = some g ∧ Is H (tI g) x := by
  obtain ⟨t, ht, it⟩ := h.get' e
  rw [List.getElem?_map] at ht
  cases eg : gs[i]? with
  | none => rw [eg] at ht; cases ht
  | some g => rw [eg] at ht; cases ht; exact ⟨g, rfl, it⟩
section
variable {P : Program} {w : World} {K : PySem.W.Frag} {mg : Str → Option Value} {base : Heap}
theorem kit_list : PySem.W.kitOne K (.type "list") (.type "list") = some true := by kernel_rfl
theorem sc_leaves : FnScope ["k", "stand"] ["k", "stand"] (defScope s_leaves) := ⟨rfl, rfl, rfl, by decide +kernel, rfl, by decide +kernel, by decide +kernel⟩
theorem ok_leaves (D : Def K mg "leaves_some" s_leaves) (T : Txt K mg) (o1 : Ok P w K mg base "wanting" 1 ["stand"] spWn) : Ok P w K mg base "leaves_some" 2 ["k", "stand"] spLv := by
  refine mkOk D sc_leaves (fun _ _ _ _ _ _ us hl => (match us, hl with | [_, _], _ => rfl)) (fun vs H Q E ⟨_, _, _, e, _⟩ => by rw [e]; rfl) fun f cdv A outer s H vs Q E hr h => ?_
  obtain ⟨k, cs, v, rfl, hv, h5, q⟩ := h
  refine ⟨_, pss_one (ps_ret (pe_chain op_lt op_lt pe_int (pe_callB call_len_seq rfl T.len bt_len (pa_cons (pe_fn o1 hr (pa_cons (pv 1) pa_nil)) pa_nil)) (pv 0))), ?_⟩
  refine ⟨_, rfl, cs, v, rfl, hv, h5, fun l H1 s1 g1 => ⟨l, _, rfl, .inl (SqL.of g1), 0, _, rfl, rfl, _, rfl, ?_⟩⟩
  rw [List.length_map]
  have q := q H1 s1
  by_cases c : (0 : Int) < ((ws cs).length : Int)
  · rw [decide_eq_true c, Bool.true_and] at q
    rw [decide_eq_true c]
    exact iteT ⟨_, rfl, _, _, rfl, rfl, q⟩
  · rw [decide_eq_false c, Bool.false_and] at q
    rw [decide_eq_false c]
    exact iteF q
theorem sc_needC : FnScope ["thing"] ["thing"] (defScope s_needC) := ⟨rfl, rfl, rfl, by decide +kernel, rfl, by decide +kernel, by decide +kernel⟩
theorem ok_needC (D : Def K mg "need_counted" s_needC) (T : Txt K mg) (o1 : Ok P w K mg base "is_counted" 4 ["thing"] (spB1 (fun _ => True) mCounted)) : Ok P w K mg base "need_counted" 5 ["thing"] spNc := by
  refine mkOk D sc_needC (fun _ _ _ _ _ _ us hl => (match us, hl with | [_], _ => rfl)) (fun vs H Q E ⟨_, _, _, e, _⟩ => by rw [e]; rfl) fun f cdv A outer s H vs Q E hr h => ?_
  obtain ⟨k, cs, v, rfl, C, hv, kk⟩ := h
  refine ⟨_, pss_one (ps_if (pt_not (pt_val (pe_fn o1 hr (pa_cons (pv 0) pa_nil)))) (pss_one ps_never) pss_nil), ?_⟩
  refine ⟨_, rfl, _, v, rfl, hv, trivial, fun H1 s1 => ⟨_, rfl, ?_⟩⟩
  rw [C.good]
  exact iteF (kk H1 s1)
theorem sc_isName : FnScope ["thing"] ["thing"] (defScope s_isName) := ⟨rfl, rfl, rfl, by decide +kernel, rfl, by decide +kernel, by decide +kernel⟩
theorem ok_isName (D : Def K mg "is_name" s_isName) (T : Txt K mg) (o1 : Ok P w K mg base "is_whole" 1 ["thing"] (spB1 (fun _ => True) mWhole)) : Ok P w K mg base "is_name" 2 ["thing"] spNm := by
  refine mkOk D sc_isName (fun _ _ _ _ _ _ us hl => (match us, hl with | [_], _ => rfl)) (fun vs H Q E ⟨_, _, e, _⟩ => by rw [e]; rfl) fun f cdv A outer s H vs Q E hr h => ?_
  obtain ⟨g, v, rfl, hv, hlen, kk⟩ := h
  refine ⟨_, pss_one (ps_ret (pe_and (pe_isi T.isi T.tuple bt_tuple (pv 0)) (pe_one (pe_callB (call_all rfl) rfl T.all bt_all (pa_cons (pe_lc (own := ["part"]) (cap := []) rfl (lcScope (defScope s_isName) rfl rfl (by decide +kernel) (by decide +kernel) (by decide +kernel) trivial) (pi_tup (pv 0))
      (fun _ _ _ _ => pg_name (i := 0) (by show (["part"] : List Str).Nodup; decide +kernel) rfl (Or.inl rfl)) (fun _ _ _ _ => pif_nil) (fun _ _ _ _ => pe_fn o1 hr (pa_cons (pv 0) pa_nil))) pa_nil))))), ?_⟩
  refine ⟨_, rfl, v, "tuple", _, _, rfl, hv.ty, kit_tuple K (tI g), _, rfl, iteT ?_⟩
  obtain ⟨a, rfl, ha⟩ := tI_open hv
  refine ⟨_, rfl, a, rfl, ⟨_, SqT.of ha⟩, ?_⟩
  refine lc_tup (xs := g.map V.int) (fun i ys H' => Same H H' ∧ ys = (List.replicate i true).map V.bl) ⟨Same.refl H, rfl⟩ (fun i ys H' hi ⟨s2, e⟩ => ⟨SqT.of (s2 _ _ ha), by rw [e, List.length_map, List.length_replicate]; rw [List.length_map] at hi; exact small_le (by omega)⟩) ?_ ?_
  · rintro i x ys H' hx ⟨s2, rfl⟩
    refine gIf0 ?_
    obtain ⟨hi, rfl⟩ := gets hx
    refine ⟨_, rfl, .int (g.getD i 0), _, rfl, rfl, trivial, fun H3 s3 => ⟨s2.trans s3, ?_⟩⟩
    rw [List.replicate_succ', List.map_append]
    rfl
  · rintro ys H' ⟨s2, rfl⟩ p hp
    refine ⟨p, _, rfl, SqL.of upd_same, ?_⟩
    have e : (List.replicate (g.map V.int).length true).all id = true := by simp
    rw [e]
    exact kk _ (s2.trans (Same.new hp _))
theorem sc_standBy : FnScope ["meeting", "row", "stand", "group"] ["meeting", "row"] (defScope s_standBy) := ⟨rfl, rfl, rfl, by decide +kernel, rfl, by decide +kernel, by decide +kernel⟩
theorem ok_standBy (D : Def K mg "stand_by" s_standBy) (T : Txt K mg) (o1 : Ok P w K mg base "is_name" 2 ["thing"] spNm) (o2 : Ok P w K mg base "groups" 2 ["k", "stand"] spGr) (o3 : Ok P w K mg base "met" 1 ["stand", "group"] spMe) : Ok P w K mg base "stand_by" 3 ["meeting", "row"] spBy := by
  refine mkOk D sc_standBy (fun _ _ _ _ _ _ us hl => (match us, hl with | [_, _], _ => rfl)) (fun vs H Q E ⟨_, _, _, _, _, e, _⟩ => by rw [e]; rfl) fun f cdv A outer s H vs Q E hr h => ?_
  obtain ⟨k, cs, vm, l, row, rfl, C, hm, R, k1, k2⟩ := h
  have nd := sc_standBy.nd
  have r1 := hr.mono (show 1 ≤ 2 by decide)
  refine ⟨_, pss_cons (ps_if (PW.pt (pw_or (pt_not (pt_val (pe_isi T.isi T.list bt_list (pv 1)))) (pw_or1 (pt_not (pt_val (pe_callB (call_all rfl) rfl T.all bt_all (pa_cons (pe_lc (own := ["group"]) (cap := []) rfl (lcScope (defScope s_standBy) rfl rfl (by decide +kernel) (by decide +kernel) (by decide +kernel) trivial) (pi_list (pv 1))
      (fun _ _ _ _ => pg_name (i := 0) (by show (["group"] : List Str).Nodup; decide +kernel) rfl (Or.inl rfl)) (fun _ _ _ _ => pif_nil) (fun _ _ _ _ => pe_fn o1 hr (pa_cons (pv 0) pa_nil))) pa_nil))))))) (pss_one ps_never) pss_nil)
    (pss_cons (ps_set (i := 2) nd rfl (Or.inl rfl) (pe_ix ix_tup (pv 0) pe_int (fun _ _ => rfl)))
    (pss_cons (ps_for PassesOwn.never rfl (pi_list (pv 1)) (pg_name (i := 3) nd rfl (Or.inl rfl))
      (pss_cons (ps_if (pt_cmpR (op_notInTr hr.units) (pv 3) (pe_fn o2 hr (pa_cons (pe_ix ix_tup (pv 0) pe_int (fun _ _ => rfl)) (pa_cons (pv 2) pa_nil))) rfl) (pss_one (ps_ret pe_non)) pss_nil)
      (pss_one (ps_set (i := 2) nd rfl (Or.inl rfl) (pe_fn o3 r1 (pa_cons (pv 2) (pa_cons (pv 3) pa_nil)))))))
    (pss_one (ps_ret (pv 2))))), ?_⟩
  refine ⟨_, rfl, _, "list", _, _, rfl, row_ty R, kit_list, _, rfl, iteF ?_⟩
  obtain ⟨xs, hl, ixs⟩ := R.at'
  have hxl := ixs.length
  rw [List.length_map] at hxl
  have few := R.few
  refine ⟨_, rfl, l, rfl, ⟨_, SqL.of hl⟩, ?_⟩
  refine lc_list (xs := xs) (fun i ys H' => Same H H' ∧ ys = (List.replicate i true).map V.bl) ⟨Same.refl H, rfl⟩ (fun i ys H' hi ⟨s2, e⟩ => ⟨SqL.of (s2 _ _ hl), by rw [e, List.length_map, List.length_replicate]; exact small_le (by omega)⟩) ?_ ?_
  · rintro i x ys H' hx ⟨s2, rfl⟩
    refine gIf0 ?_
    obtain ⟨g, eg, ig⟩ := get_tI (ixs.mono s2) hx
    have := R.short g (List.mem_of_getElem? eg)
    refine ⟨_, rfl, g, x, rfl, ig, by omega, fun H3 s3 => ⟨s2.trans s3, ?_⟩⟩
    rw [List.replicate_succ', List.map_append]
    rfl
  rintro ys H1 ⟨s1, rfl⟩ p hp
  have s2 := Same.new hp (.lst ((List.replicate xs.length true).map V.bl))
  have g2 : upd H1 p (.lst ((List.replicate xs.length true).map V.bl)) p = some (.lst ((List.replicate xs.length true).map V.bl)) := upd_same
  generalize upd H1 p (.lst ((List.replicate xs.length true).map V.bl)) = H2 at s2 g2 ⊢
  have s02 := s1.trans s2
  refine ⟨p, _, rfl, SqL.of g2, _, rfl, ?_⟩
  have e : (List.replicate xs.length true).all id = true := by simp
  rw [e]
  refine iteF ?_
  obtain ⟨am, vc, rfl, ham, ic⟩ := mt_open (hm.mono s02)
  have at1 : ∀ {x y : V}, atI ([x, y] : List V) 1 = some y := fun {x y} => (show atI ([x, y] : List V) ((1 : Nat) : Int) = _ from atI_nat rfl)
  have at0 : ∀ {x y : V}, atI ([x, y] : List V) 0 = some x := fun {x y} => (show atI ([x, y] : List V) ((0 : Nat) : Int) = _ from atI_nat rfl)
  refine ⟨_, rfl, am, _, _, _, rfl, rfl, SqT.of ham, at1, ?_⟩
  refine ⟨_, rfl, l, rfl, ⟨_, SqL.of (s02 _ _ hl)⟩, ?_⟩
  refine for_list (xs := xs) (fun i σ H' => ∃ c v x3, σ = [some (.ref am), some (.ref l), some v, x3] ∧ Same H2 H' ∧ mLeft k cs row = mLeft k c (row.drop i) ∧ Cnt k c ∧ Is H' (tI c) v) ⟨cs, vc, none, rfl, Same.refl H2, rfl, C, ic⟩ (fun i σ H' _ ⟨_, _, _, _, s', _⟩ => SqL.of (s' _ _ (s02 _ _ hl))) ?_ ?_
  · rintro i x σ H3 hx ⟨c, v, x3, rfl, s3, er, Cc, iv⟩
    have s03 := s02.trans s3
    obtain ⟨g, eg, ig⟩ := get_tI (ixs.mono s03) hx
    have ed : row.drop i = g :: row.drop (i + 1) := by
      obtain ⟨hi, e⟩ := List.getElem?_eq_some_iff.mp eg
      rw [List.drop_eq_getElem_cons hi, e]
    rw [ed] at er
    have n5 := Cc.n5
    refine ⟨_, rfl, _, rfl, am, _, _, _, rfl, rfl, SqT.of (s3 _ _ ham), at0, _, rfl, k, c, v, rfl, iv, n5, fun lg ys H4 s4 g4 i4 => ?_⟩
    refine ⟨lg, ys, _, tI g, rfl, SqL.of g4, i4, ig.mono s4, (fun t ht => by obtain ⟨g', _, rfl⟩ := List.mem_map.mp ht; exact lay_tI g'), lay_tI g, depth_tI g, _, rfl, ?_⟩
    rw [show (if (true = true) then !(((gP k c).map tI).any fun t => PyData.eqv (toD t) (toD (tI g))) else (((gP k c).map tI).any fun t => PyData.eqv (toD t) (toD (tI g)))) = !decide (g ∈ gP k c) from congrArg (!·) (any_tI _ _)]
    by_cases z : g ∈ gP k c
    · rw [decide_eq_true z]
      have er2 : mLeft k cs row = mLeft k (mMet c g) (row.drop (i + 1)) := by
        rw [er]
        conv => lhs; unfold mLeft
        rw [if_pos z]
      refine iteF ⟨_, rfl, _, rfl, c, g, v, x, rfl, iv.mono s4, ig.mono s4, n5, fun u H5 s5 iu => ?_⟩
      exact ⟨_, u, _, rfl, s3.trans (s4.trans s5), er2, Cc.met z, iu⟩
    · rw [decide_eq_false z]
      refine iteT (k1 ?_ H4 (s03.trans s4))
      rw [er]
      unfold mLeft
      rw [if_neg z]
  · rintro σ H3 ⟨c, v, x3, rfl, s3, er, Cc, iv⟩
    rw [hxl, List.drop_length] at er
    exact ⟨_, rfl, k2 c v H3 (by rw [er]; rfl) (s02.trans s3) iv⟩
theorem sc_isLeft : FnScope ["meeting", "row", "stand"] ["meeting", "row"] (defScope s_isLeft) := ⟨rfl, rfl, rfl, by decide +kernel, rfl, by decide +kernel, by decide +kernel⟩
theorem ok_isLeft (D : Def K mg "is_left" s_isLeft) (T : Txt K mg) (o1 : Ok P w K mg base "need_counted" 5 ["thing"] spNc) (o2 : Ok P w K mg base "stand_by" 3 ["meeting", "row"] spBy) (o3 : Ok P w K mg base "leaves_some" 2 ["k", "stand"] spLv) : Ok P w K mg base "is_left" 6 ["meeting", "row"] (spRow mLv) := by
  refine mkOk D sc_isLeft (fun _ _ _ _ _ _ us hl => (match us, hl with | [_, _], _ => rfl)) (fun vs H Q E ⟨_, _, _, _, _, e, _⟩ => by rw [e]; rfl) fun f cdv A outer s H vs Q E hr h => ?_
  obtain ⟨k, cs, vm, l, row, rfl, C, hm, R, kk⟩ := h
  have nd := sc_isLeft.nd
  refine ⟨_, pss_cons (ps_expr (pe_fn o1 hr (pa_cons (pv 0) pa_nil)))
    (pss_cons (ps_set (i := 2) nd rfl (Or.inl rfl) (pe_fn o2 (hr.mono (show 3 ≤ 5 by decide)) (pa_cons (pv 0) (pa_cons (pv 1) pa_nil))))
    (pss_one (ps_ret (pe_and (pe_cmpR op_notN (pv 2) pe_non (nomark _)) (pe_one (pe_fn o3 (hr.mono (show 2 ≤ 5 by decide)) (pa_cons (pe_ix ix_tup (pv 0) pe_int (fun _ _ => rfl)) (pa_cons (pv 2) pa_nil)))))))), ?_⟩
  refine ⟨_, rfl, k, cs, vm, rfl, C, hm, fun H1 s1 => ?_⟩
  refine ⟨_, rfl, _, rfl, k, cs, vm, l, row, rfl, C, hm.mono s1, R.same s1, fun e H2 s2 => ?_, fun c v H2 e s2 iv => ?_⟩
  · have q := kk H2 (s1.trans s2)
    unfold mLv at q
    rw [e] at q
    exact ⟨_, rfl, rfl, _, rfl, iteF q⟩
  · have Cc := C.left e
    have q := fun H' s' => kk H' (s1.trans (s2.trans s'))
    unfold mLv at q
    rw [e] at q
    obtain ⟨a, rfl, ha⟩ := tI_open iv
    obtain ⟨am, vc, rfl, ham, ic⟩ := mt_open (hm.mono (s1.trans s2))
    have at0 : ∀ {x y : V}, atI ([x, y] : List V) 0 = some x := fun {x y} => (show atI ([x, y] : List V) ((0 : Nat) : Int) = _ from atI_nat rfl)
    exact ⟨_, rfl, rfl, _, rfl, iteT ⟨_, rfl, am, _, _, _, rfl, rfl, SqT.of ham, at0, _, rfl, k, c, _, rfl, iv, Cc.n5, fun H3 s3 => q H3 s3⟩⟩
end
end My

namespace My
open PySem PySem.Spec PyProof.Rows L2
theorem bt_sorted : bootBuiltins "sorted" = some (.builtin "sorted") := by decide +kernel
abbrev s_lgroups : Stmt := top 34
abbrev s_lmet : Stmt := top 35
noncomputable def spLg : Sp := fun vs H Q _ => ∃ k cs v, vs = [.int k, v] ∧ Is H (tI cs) v ∧ cs.length ≤ 5 ∧ 1 ≤ k ∧ ∀ (gs : List (List Int)) l xs H', Same H H' → gs.Perm (gL k cs) → H l = none → H' l = some (.lst xs) → IsL H' (gs.map tI) xs → Q (.ref l) H'
noncomputable def spLm : Sp := fun vs H Q _ => ∃ cs g v u, vs = [v, u] ∧ Is H (tI cs) v ∧ Is H (tI g) u ∧ Gp cs g ∧ ∀ w H', Same H H' → Is H' (tI (mMet cs g)) w → Q w H'
theorem int_at {xs : List Int} {i : Nat} (h : i < xs.length) : (xs.map V.int)[i]? = some (.int (xs.getD i 0)) := by
  rw [List.getElem?_map, List.getD_eq_getElem?_getD, List.getElem?_eq_getElem h]
  rfl
theorem gp_mem {k : Int} (hk : 1 ≤ k) {cs : List Int} {gs : List (List Int)} (p : gs.Perm (gL k cs)) {g : List Int} : g ∈ gs ↔ g ∈ gP k cs := by
  rw [p.mem_iff, mem_gL, mem_gP (by omega)]
theorem ixN_nat {n j : Nat} (h : j < n) : ixN n (j : Int) = some j := by
  unfold ixN
  rw [if_pos (by omega), if_pos (by omega), Int.toNat_natCast]
section
variable {P : Program} {w : World} {K : PySem.W.Frag} {mg : Str → Option Value} {base : Heap}
theorem sc_lgroups : FnScope ["k", "counts", "found", "hand"] ["k", "counts"] (defScope s_lgroups) := ⟨rfl, rfl, rfl, by decide +kernel, rfl, by decide +kernel, by decide +kernel⟩
theorem ok_lgroups (D : Def K mg "_law_e_groups" s_lgroups) (T : Txt K mg) : Ok P w K mg base "_law_e_groups" 1 ["k", "counts"] spLg := by
  refine mkOk D sc_lgroups (fun _ _ _ _ _ _ us hl => (match us, hl with | [_, _], _ => rfl)) (fun vs H Q E ⟨_, _, _, e, _⟩ => by rw [e]; rfl) fun f cdv A outer s H vs Q E hr h => ?_
  obtain ⟨k, cs, v, rfl, hv, h5, hk1, q⟩ := h
  have nd := sc_lgroups.nd
  refine ⟨_, pss_cons (ps_set (i := 2) nd rfl (Or.inl rfl) (pe_lst (pa_cons (pe_tup pa_nil) pa_nil)))
    (pss_cons (ps_for PassesOwn.never rfl (pi_range1 rfl T.range (pa_cons (pe_callB call_len_seq (by rfl) T.len bt_len (pa_cons (pv 1) pa_nil)) pa_nil)) (pg_name (i := 3) nd rfl (Or.inr rfl))
      (pss_one (ps_if (pt_cmpR op_gt (pe_ix ix_tup (pv 1) (pv 3) (fun _ _ => rfl)) pe_int (nomark _)) (pss_one (ps_set (i := 2) nd rfl (Or.inl rfl) (pe_op op_cat (pv 2) (pe_lc (own := ["one"]) (cap := [3]) rfl (lcScope (defScope s_lgroups) rfl rfl (by decide +kernel) (by decide +kernel) (by decide +kernel) ⟨⟨_, rfl, .inl rfl, noLoc rfl⟩, trivial⟩)
        (pi_list (pv 2)) (fun _ _ _ _ => pg_name (i := 0) (by show (["one", "hand"] : List Str).Nodup; decide +kernel) rfl (Or.inl rfl))
        (fun _ _ _ _ => pif_nil)
        (fun _ _ _ _ => pe_op op_catE (pv 0) (pe_tup (pa_cons (pv 1) pa_nil))))) (hs := by with_unfolding_all rfl))) pss_nil)))
    (pss_one (ps_ret (pe_callB call_sortT rfl T.sorted bt_sorted (pa_cons (pe_lc (own := ["one"]) (cap := [0]) rfl (lcScope (defScope s_lgroups) rfl rfl (by decide +kernel) (by decide +kernel) (by decide +kernel) ⟨⟨_, rfl, .inl rfl, noLoc rfl⟩, trivial⟩)
        (pi_list (pv 2)) (fun _ _ _ _ => pg_name (i := 0) (by show (["one", "k"] : List Str).Nodup; decide +kernel) rfl (Or.inl rfl))
        (fun _ _ _ _ => pif_one (pt_cmpR op_eq (pe_callB (r := rLen K) call_len_seq (by rfl) T.len bt_len (pa_cons (pv 0) pa_nil)) (pv 1) (nomark _)))
        (fun _ _ _ _ => pv 0)) pa_nil))))), ?_⟩
  refine ⟨by show 0 ≤ sizeLine; decide, fun t0 ht0 => ?_⟩
  have s0 := Same.new ht0 (.tup [])
  have g0 : upd H t0 (.tup []) t0 = some (.tup []) := upd_same
  generalize upd H t0 (.tup []) = H0 at s0 g0 ⊢
  refine ⟨by show 1 ≤ sizeLine; decide, fun l0 hl0 => ?_⟩
  have s1 := Same.new hl0 (.lst [.ref t0])
  have g1 : upd H0 l0 (.lst [.ref t0]) l0 = some (.lst [.ref t0]) := upd_same
  generalize upd H0 l0 (.lst [.ref t0]) = H1 at s1 g1 ⊢
  have s01 := s0.trans s1
  obtain ⟨a, rfl, ha⟩ := tI_open hv
  have ha1 := s01 _ _ ha
  refine ⟨_, rfl, a, _, rfl, .inr (SqT.of ha1), ?_⟩
  rw [List.length_map]
  refine ⟨_, rfl, by omega, by omega, ?_⟩
  refine for_range (lo := 0) (n := ((cs.length : Nat) : Int).toNat) (fun i σ H' => ∃ l xs x3, σ = [some (.int k), some (.ref a), some (.ref l), x3] ∧ Same H1 H' ∧ H' l = some (.lst xs) ∧ IsL H' (((wsI cs i).foldl stepL [[]]).map tI) xs)
    ⟨l0, _, none, rfl, Same.refl H1, g1, IsL.one ⟨t0, [], rfl, s1 _ _ g0, rfl⟩⟩ ?_ ?_
  · rintro i σ H3 hi ⟨l, xs, x3, rfl, s3, gl, il⟩
    rw [Int.toNat_natCast] at hi
    rw [Int.zero_add]
    refine ⟨_, rfl, _, rfl, a, _, _, _, rfl, rfl, SqT.of (s3 _ _ ha1), atI_nat (int_at hi), _, _, rfl, rfl, _, rfl, ?_⟩
    have hwl : (wsI cs i).length ≤ 5 := Nat.le_trans (wsI_len cs i) (by omega)
    have hlen : ((wsI cs i).foldl stepL [[]]).length ≤ 32 := by rw [len_foldL]; exact pow5 hwl
    have ew := wsI_succ cs i
    have hgl : ∀ g ∈ (wsI cs i).foldl stepL [[]], g.length ≤ 900 := fun g hg => by
      have := memL_len (wsI cs i) [[]] 0 (fun g' hg' => by rw [List.mem_singleton.mp hg']; exact Nat.le_refl 0) g hg
      omega
    refine ite2 (fun z => ?_) (fun z => ?_)
    · have z := of_decide_eq_true z
      rw [if_pos z] at ew
      have ef : (wsI cs (i + 1)).foldl stepL [[]] = stepL ((wsI cs i).foldl stepL [[]]) (i : Int) := by
        rw [ew, List.foldl_append]
        rfl
      generalize (wsI cs i).foldl stepL [[]] = found at ef hlen il hgl
      have hxl := il.length
      rw [List.length_map] at hxl
      refine ⟨_, rfl, _, rfl, l, rfl, ⟨_, SqL.of gl⟩, ?_⟩
      refine lc_list (xs := xs) (fun j ys H' => Same H3 H' ∧ IsL H' (((found.take j).map (· ++ [(i : Int)])).map tI) ys) ⟨Same.refl H3, rfl⟩ (fun j ys H' hj ⟨s', e⟩ => ⟨SqL.of (s' _ _ gl), ?_⟩) ?_ ?_
      · rw [e.length, List.length_map, List.length_map, List.length_take]
        exact small_le (by omega)
      · rintro j x ys H4 hj ⟨s4, iy⟩
        refine gIf0 ?_
        obtain ⟨g, eg, it⟩ := get_tI (il.mono s4) hj
        refine ⟨_, rfl, _, rfl, by show 1 ≤ sizeLine; decide, fun p hp => ?_⟩
        have s5 := Same.new hp (.tup [.int (i : Int)])
        have g5 : upd H4 p (.tup [.int (i : Int)]) p = some (.tup ([(i : Int)].map V.int)) := upd_same
        generalize upd H4 p (.tup [.int (i : Int)]) = H5 at s5 g5 ⊢
        have hg : g.length ≤ 900 := hgl g (List.mem_of_getElem? eg)
        refine ⟨fun _ => False, iT g, iT [(i : Int)], (it.mono s5).off0, (tI_new g5).off0, fun b hb => hb.elim, by show (iT g).length + 1 ≤ sizeLine; rw [iT_length]; exact small_le (by omega), fun v' H6 s6 i6 => ⟨s4.trans (s5.trans s6), ?_⟩⟩
        rw [List.take_add_one, eg, List.map_append, List.map_append]
        refine IsL.append (iy.mono (s5.trans s6)) (IsL.one ?_)
        have e : tI (g ++ [(i : Int)]) = .tup (iT g ++ iT [(i : Int)]) := by unfold tI iT; rw [List.map_append]
        show Is H6 (tI (g ++ [(i : Int)])) v'
        rw [e]
        exact i6.off
      · rintro ys H4 ⟨s4, iy⟩ p hp
        rw [hxl, List.take_length] at iy
        have s5 := Same.new hp (.lst ys)
        have g5 : upd H4 p (.lst ys) p = some (.lst ys) := upd_same
        generalize upd H4 p (.lst ys) = H5 at s5 g5 ⊢
        have hyl := iy.length
        rw [List.length_map, List.length_map] at hyl
        refine ⟨l, p, _, _, rfl, rfl, s5 _ _ (s4 _ _ gl), g5, small_le (by omega), fun W hW => ?_⟩
        have s6 := Same.new hW (.lst (xs ++ ys))
        refine ⟨W, _, _, rfl, s3.trans (s4.trans (s5.trans s6)), upd_same, ?_⟩
        rw [ef]
        unfold stepL
        rw [List.map_append]
        exact IsL.append (il.mono (s4.trans (s5.trans s6))) (iy.mono (s5.trans s6))
    · rw [if_neg (fun y => z (decide_eq_true y))] at ew
      refine ⟨l, xs, _, rfl, s3, gl, ?_⟩
      rw [ew]
      exact il
  · rintro σ H3 ⟨l, xs, x3, rfl, s3, gl, il⟩
    rw [Int.toNat_natCast] at il
    have hlen : ((wsI cs cs.length).foldl stepL [[]]).length ≤ 32 := by rw [len_foldL]; exact pow5 (Nat.le_trans (wsI_len cs _) h5)
    have eg0 : gL k cs = ((wsI cs cs.length).foldl stepL [[]]).filter fun g => decide ((g.length : Int) = k) := rfl
    generalize (wsI cs cs.length).foldl stepL [[]] = found at il hlen eg0
    have hxl := il.length
    rw [List.length_map] at hxl
    refine ⟨_, rfl, l, rfl, ⟨_, SqL.of gl⟩, ?_⟩
    refine lc_list (xs := xs) (fun j ys H' => Same H3 H' ∧ IsL H' (((found.take j).filter fun g => decide ((g.length : Int) = k)).map tI) ys) ⟨Same.refl H3, rfl⟩ (fun j ys H' hj ⟨s', e⟩ => ⟨SqL.of (s' _ _ gl), ?_⟩) ?_ ?_
    · rw [e.length, List.length_map]
      exact small_le (Nat.le_trans (List.length_filter_le _ _) (by rw [List.length_take]; omega))
    · rintro j x ys H4 hj ⟨s4, iy⟩
      obtain ⟨g, eg, it⟩ := get_tI (il.mono s4) hj
      obtain ⟨b, rfl, hb⟩ := tI_open it
      rw [filter_take eg]
      refine ⟨_, rfl, b, _, rfl, .inr (SqT.of hb), _, rfl, rfl, _, rfl, ?_⟩
      rw [List.length_map]
      have ed : decide (V.int ((g.length : Nat) : Int) = V.int k) = decide ((g.length : Int) = k) := by
        by_cases c : (g.length : Int) = k
        · rw [c, decide_eq_true rfl, decide_eq_true rfl]
        · rw [decide_eq_false c, decide_eq_false (fun z => c (by injection z))]
      rw [ed]
      refine ite2 (fun z => ?_) (fun z => ?_)
      · rw [if_pos z]
        refine ⟨_, rfl, s4, ?_⟩
        rw [List.map_append]
        exact IsL.append iy (IsL.one it)
      · rw [if_neg z, List.append_nil]
        exact ⟨s4, iy⟩
    · rintro ys H4 ⟨s4, iy⟩ p hp
      rw [hxl, List.take_length, ← eg0] at iy
      have s5 := Same.new hp (.lst ys)
      have g5 : upd H4 p (.lst ys) p = some (.lst ys) := upd_same
      generalize upd H4 p (.lst ys) = H5 at s5 g5 ⊢
      have hgn : (gL k cs).length ≤ 32 := by rw [eg0]; exact Nat.le_trans (List.length_filter_le _ _) hlen
      refine ⟨p, gL k cs, ys, rfl, SqL.of g5, iy.mono s5, fun g hg z => ?_, by omega, fun gs' xs' l' pg ig hl' => ?_⟩
      · have := (mem_gL.mp hg).2
        rw [z] at this
        have : (0 : Int) = k := this
        omega
      · have s6 := Same.new hl' (.lst xs')
        have sA := s01.trans (s3.trans (s4.trans s5))
        exact q gs' l' xs' _ (sA.trans s6) pg (by
          cases z : H l' with
          | none => rfl
          | some o => rw [sA _ _ z] at hl'; cases hl') upd_same (ig.mono s6)
theorem sc_lmet : FnScope ["counts", "group", "left", "hand"] ["counts", "group"] (defScope s_lmet) := ⟨rfl, rfl, rfl, by decide +kernel, rfl, by decide +kernel, by decide +kernel⟩
theorem ok_lmet (D : Def K mg "_law_e_met" s_lmet) (T : Txt K mg) : Ok P w K mg base "_law_e_met" 1 ["counts", "group"] spLm := by
  refine mkOk D sc_lmet (fun _ _ _ _ _ _ us hl => (match us, hl with | [_, _], _ => rfl)) (fun vs H Q E ⟨_, _, _, _, e, _⟩ => by rw [e]; rfl) fun f cdv A outer s H vs Q E hr h => ?_
  obtain ⟨cs, g, v, u, rfl, hv, hg, G, q⟩ := h
  have nd := sc_lmet.nd
  refine ⟨_, pss_cons (ps_set (i := 2) nd rfl (Or.inl rfl) (pe_callTy call_list_of rfl T.list bt_list (pa_cons (pv 0) pa_nil)))
    (pss_cons (ps_for PassesOwn.never rfl (pi_tup (pv 1)) (pg_name (i := 3) nd rfl (Or.inl rfl))
      (pss_one (ps_asg (pe_op op_sub (pe_ix ix_list (pv 2) (pv 3) (fun _ _ => rfl)) pe_int) (pg_sub (pv 2) (pv 3) set_list))))
    (pss_one (ps_ret (pe_callTy call_tuple_of rfl T.tuple bt_tuple (pa_cons (pv 2) pa_nil))))), ?_⟩
  obtain ⟨a, rfl, ha⟩ := tI_open hv
  obtain ⟨b, rfl, hb⟩ := tI_open hg
  refine ⟨_, rfl, a, _, rfl, .inr (SqT.of ha), fun l hl => ?_⟩
  have s1 := Same.new hl (.lst (cs.map V.int))
  have g1 : upd H l (.lst (cs.map V.int)) l = some (.lst (cs.map V.int)) := upd_same
  generalize upd H l (.lst (cs.map V.int)) = H1 at s1 g1 ⊢
  refine ⟨_, rfl, b, rfl, ⟨_, SqT.of (s1 _ _ hb)⟩, ?_⟩
  refine for_tup (xs := g.map V.int) (fun i σ H' => ∃ x3, σ = [some (.ref a), some (.ref b), some (.ref l), x3] ∧ Same H H' ∧ H' l = some (.lst ((mMet cs (g.take i)).map V.int))) ⟨none, rfl, s1, by rw [g1, List.take_zero, mMet_nil]⟩ (fun i σ H' _ ⟨_, _, s', _⟩ => SqT.of (s' _ _ hb)) ?_ ?_
  · rintro i x σ H2 hx ⟨x3, rfl, s2, g2⟩
    obtain ⟨hi, rfl⟩ := gets hx
    have hx' : g[i]? = some (g.getD i 0) := by rw [List.getD_eq_getElem?_getD, List.getElem?_eq_getElem hi]; rfl
    obtain ⟨j, ej, hj, _⟩ := G.at' (g.getD i 0) (List.mem_of_getElem? hx')
    have hn : (j : Int) ∉ g.take i := fun z => by
      have nd' := G.nd
      obtain ⟨m, hm, em⟩ := List.mem_iff_getElem.mp z
      have hm' : m < i := by rw [List.length_take] at hm; omega
      rw [List.getElem_take] at em
      have e2 : g[i] = (j : Int) := by
        rw [List.getElem?_eq_getElem hi] at hx'
        rw [← ej]
        exact Option.some.inj hx'
      have := (List.pairwise_iff_getElem.mp nd') m i (by omega) hi hm'
      rw [em, e2] at this
      exact this rfl
    rw [ej]
    have hj' : j < (mMet cs (g.take i)).length := by rw [mMet_len]; exact hj
    refine ⟨_, rfl, _, rfl, l, _, _, _, rfl, rfl, SqL.of g2, atI_nat (int_at hj'), _, _, rfl, rfl, _, rfl, _, rfl, l, _, _, j, rfl, rfl, g2, ?_, ?_⟩
    · rw [List.length_map]
      exact ixN_nat hj'
    · refine ⟨_, rfl, fun c o e => ?_, ?_⟩
      · rw [upd_ne (ne_of_none e hl)]
        exact s2 _ _ e
      · rw [upd_same, List.take_add_one, hx', ej]
        show some (HO.lst _) = some (HO.lst ((mMet cs (g.take i ++ [(j : Int)])).map V.int))
        rw [← mMet_snoc hj hn]
        unfold dec1
        rw [Int.toNat_natCast, List.map_set]
  · rintro σ H2 ⟨x3, rfl, s2, g2⟩
    rw [List.length_map, List.take_length] at g2
    refine ⟨_, rfl, l, _, rfl, .inl ⟨SqL.of g2, fun p hp => ?_⟩⟩
    exact q _ _ (s2.trans (Same.new hp _)) (tI_new upd_same)
end
end My

namespace My
/-! ### those that want most go first -/
theorem sum_set : ∀ (l : List Int) (i : Nat) (v : Int), i < l.length → (l.set i v).sum = l.sum - l.getD i 0 + v
  | [], i, v, h => by simp at h
  | a :: l, 0, v, h => by simp; omega
  | a :: l, i + 1, v, h => by
    have := sum_set l i v (by simpa using h)
    simp only [List.set_cons_succ, List.sum_cons]
    rw [this]
    simp
    omega
theorem sum_dec1 {l : List Int} {j : Nat} (h : j < l.length) : (dec1 l (j : Int)).sum = l.sum - 1 := by
  unfold dec1
  rw [Int.toNat_natCast, sum_set l j _ h]
  omega
theorem nodup_take {g : List Int} (nd : g.Nodup) {i : Nat} (hi : i < g.length) : g[i] ∉ g.take i := fun z => by
  obtain ⟨m, hm, em⟩ := List.mem_iff_getElem.mp z
  have hm' : m < i := by rw [List.length_take] at hm; omega
  rw [List.getElem_take] at em
  exact (List.pairwise_iff_getElem.mp nd) m i (by omega) hi hm' em
theorem sum_met {cs g : List Int} (G : Gp cs g) : ∀ i, i ≤ g.length → (mMet cs (g.take i)).sum = cs.sum - (i : Int)
  | 0, _ => by rw [List.take_zero, mMet_nil]; omega
  | i + 1, h => by
    have ih := sum_met G i (by omega)
    have hi : i < g.length := by omega
    obtain ⟨j, ej, hj, _⟩ := G.at' g[i] (List.getElem_mem hi)
    have hn := nodup_take G.nd hi
    rw [ej] at hn
    rw [List.take_add_one, List.getElem?_eq_getElem hi, ej]
    show (mMet cs (g.take i ++ [(j : Int)])).sum = _
    rw [← mMet_snoc hj hn, sum_dec1 (by rw [mMet_len]; exact hj), ih]
    omega
theorem sum_bound : ∀ {l : List Int} {m : Int}, (∀ x ∈ l, x ≤ m) → l.sum ≤ (l.length : Int) * m
  | [], m, _ => by simp
  | a :: l, m, h => by
    have h1 := h a List.mem_cons_self
    have h2 := sum_bound fun x hx => h x (List.mem_cons_of_mem _ hx)
    rw [List.sum_cons, List.length_cons]
    have : (((l.length + 1 : Nat) : Int)) * m = (l.length : Int) * m + m := by rw [Int.natCast_add]; simp [Int.add_mul]
    omega
theorem sum_eq : ∀ {l : List Int} {m : Int}, (∀ x ∈ l, x = m) → l.sum = (l.length : Int) * m
  | [], m, _ => by simp
  | a :: l, m, h => by
    have h1 := h a List.mem_cons_self
    have h2 := sum_eq fun x hx => h x (List.mem_cons_of_mem _ hx)
    rw [List.sum_cons, List.length_cons]
    have : (((l.length + 1 : Nat) : Int)) * m = (l.length : Int) * m + m := by rw [Int.natCast_add]; simp [Int.add_mul]
    omega
theorem sum_nonneg : ∀ {l : List Int}, (∀ x ∈ l, 0 ≤ x) → 0 ≤ l.sum
  | [], _ => by simp
  | a :: l, h => by
    have h1 := h a List.mem_cons_self
    have h2 := sum_nonneg fun x hx => h x (List.mem_cons_of_mem _ hx)
    rw [List.sum_cons]
    omega
theorem sum_mem_le : ∀ {l : List Int} {y : Int}, (∀ x ∈ l, 0 ≤ x) → y ∈ l → y ≤ l.sum
  | a :: l, y, h, hy => by
    have h1 := h a List.mem_cons_self
    have h2 := sum_nonneg fun x hx => h x (List.mem_cons_of_mem _ hx)
    rw [List.sum_cons]
    rcases List.mem_cons.mp hy with rfl | z
    · omega
    · have := sum_mem_le (fun x hx => h x (List.mem_cons_of_mem _ hx)) z
      omega
/-- falling counts, k of them at a time: the first k are more than nought, the others less than the most -/
structure Falls (L : List Int) (k : Nat) (m : Int) : Prop where
  fall : L.Pairwise (fun a b => b ≤ a)
  each : ∀ x ∈ L, 0 ≤ x ∧ x ≤ m
  sum : L.sum = (k : Int) * m
  m1 : 1 ≤ m
theorem Falls.first {L : List Int} {k : Nat} {m : Int} (F : Falls L k m) {i : Nat} (hi : i < k) (hl : i < L.length) : 0 < L[i] := by
  have m1 := F.m1
  have h0 := (F.each L[i] (List.getElem_mem hl)).1
  by_cases z : L[i] = 0
  · exfalso
    have e : L.sum = (L.take i).sum + (L.drop i).sum := by rw [← List.sum_append, List.take_append_drop]
    have hd : (L.drop i).sum = ((L.drop i).length : Int) * 0 := sum_eq fun x hx => by
      obtain ⟨j, hj, rfl⟩ := List.mem_iff_getElem.mp hx
      rw [List.length_drop] at hj
      rw [List.getElem_drop]
      have hx0 := (F.each L[i + j] (List.getElem_mem (by omega))).1
      by_cases c : j = 0
      · subst c; exact z
      · have := (List.pairwise_iff_getElem.mp F.fall) i (i + j) hl (by omega) (by omega)
        omega
    have ht := sum_bound (l := L.take i) (m := m) fun x hx => (F.each x (List.mem_of_mem_take hx)).2
    rw [List.length_take, show min i L.length = i from by omega] at ht
    rw [F.sum, hd] at e
    have : (i : Int) * m + m ≤ (k : Int) * m := by
      have : ((i : Int) + 1) * m ≤ (k : Int) * m := Int.mul_le_mul_of_nonneg_right (by omega) (by omega)
      rw [Int.add_mul, Int.one_mul] at this
      exact this
    omega
  · omega
theorem Falls.later {L : List Int} {k : Nat} {m : Int} (F : Falls L k m) {i : Nat} (hi : k ≤ i) (hl : i < L.length) : L[i] ≤ m - 1 := by
  have m1 := F.m1
  have hm := (F.each L[i] (List.getElem_mem hl)).2
  by_cases z : L[i] = m
  · exfalso
    have e : L.sum = (L.take k).sum + (L.drop k).sum := by rw [← List.sum_append, List.take_append_drop]
    have ht : (L.take k).sum = ((L.take k).length : Int) * m := sum_eq fun x hx => by
      obtain ⟨j, hj, rfl⟩ := List.mem_iff_getElem.mp hx
      rw [List.length_take] at hj
      rw [List.getElem_take]
      have := (List.pairwise_iff_getElem.mp F.fall) j i (by omega) hl (by omega)
      have := (F.each L[j] (List.getElem_mem (by omega))).2
      omega
    rw [List.length_take, show min k L.length = k from by omega] at ht
    have hd : m ≤ (L.drop k).sum := sum_mem_le (fun x hx => (F.each x (List.mem_of_mem_drop hx)).1) (by
      rw [← z]
      have : L[i] = (L.drop k)[i - k]'(by rw [List.length_drop]; omega) := by rw [List.getElem_drop]; congr 1; omega
      rw [this]
      exact List.getElem_mem _)
    rw [F.sum, ht] at e
    omega
  · omega
theorem mLeft_snoc {k : Int} : ∀ {row : List (List Int)} {cs c g : List Int}, mLeft k cs row = some c → g ∈ gP k c → mLeft k cs (row ++ [g]) = some (mMet c g)
  | [], cs, c, g, h, hg => by
    cases h
    show mLeft k cs [g] = _
    unfold mLeft
    rw [if_pos hg]
    rfl
  | r :: row, cs, c, g, h, hg => by
    rw [List.cons_append]
    unfold mLeft at h ⊢
    split at h
    · rename_i hr
      rw [if_pos hr]
      exact mLeft_snoc h hg
    · cases h
end My

namespace My
open PySem PySem.Spec PyProof.Rows L2
theorem But.none {a : Addr} {H H' : Hp} {l : Addr} (b : But a H H') (n : l ≠ a) (h : H' l = none) : H l = none := by
  cases z : H l with
  | none => rfl
  | some o => rw [b _ _ n z] at h; cases h
theorem Tape.off {K : PySem.W.Frag} {H : Hp} {a s l : Addr} {tp : List Int} (t : Tape K H a s tp) (h : H l = none) : l ≠ a := by
  obtain ⟨_, _, ha, _, _⟩ := t.at'
  exact fun z => by rw [z, ha] at h; cases h
theorem fro_tI (g : List Int) : Fro (tI g) := froInts g
theorem fro_row (row : List (List Int)) : FroL (row.map tI) := FroL.all.mpr fun t ht => by
  obtain ⟨g, _, rfl⟩ := List.mem_map.mp ht
  exact fro_tI g
noncomputable def rowT (row : List (List Int)) : T := .lst (row.map tI)
theorem Rw.of {H : Hp} {l : Addr} {row : List (List Int)} (h : Is H (rowT row) (.ref l)) (h1 : row.length ≤ 100) (h2 : ∀ g ∈ row, g.length ≤ 100) : Rw H l row := by
  obtain ⟨a, xs, e, ha, hl⟩ := h
  cases e
  exact ⟨⟨xs, ha, hl⟩, h1, h2⟩
theorem Rw.is {H : Hp} {l : Addr} {row : List (List Int)} (r : Rw H l row) : Is H (rowT row) (.ref l) := by
  obtain ⟨xs, e, i⟩ := r.at'
  exact ⟨l, xs, rfl, e, i⟩
theorem sum_ge : ∀ {cs : List Int}, (∀ c ∈ cs, 0 ≤ c ∧ c ≤ 4) → 0 ≤ cs.sum ∧ cs.sum ≤ 4 * (cs.length : Int)
  | [], _ => ⟨by simp, by simp⟩
  | c :: cs, h => by
    have h1 := h c List.mem_cons_self
    have h2 := sum_ge fun d hd => h d (List.mem_cons_of_mem _ hd)
    rw [List.sum_cons, List.length_cons]
    omega
theorem sum63 {k : Int} {c : List Int} (C : Cnt k c) : (∀ n ∈ c, 0 ≤ n) ∧ c.sum < 2 ^ 63 := by
  have h := sum_ge C.each
  have n5 := C.n5
  refine ⟨fun n hn => (C.each n hn).1, ?_⟩
  have : (20 : Int) < 2 ^ 63 := by decide
  omega
section
variable {P : Program} {w : World} {K : PySem.W.Frag} {mg : Str → Option Value} {base : Heap}
end
end My

namespace My
open PySem PySem.Spec PyProof.Rows L2
noncomputable def hsI (p : Nat → Bool) (i : Nat) : List Int := ((List.range i).filter p).map fun (j : Nat) => (j : Int)
noncomputable def grP (k : Int) (cs : List Int) (j : Nat) : Bool := decide (cs.getD j 0 * k > cs.sum)
noncomputable def great (k : Int) (cs : List Int) : List Int := hsI (grP k cs) cs.length
theorem at0 {x : V} {r : List V} : atI (x :: r) 0 = some x := (show atI (x :: r) ((0 : Nat) : Int) = _ from atI_nat rfl)
theorem at1 {x y : V} {r : List V} : atI (x :: y :: r) 1 = some y := (show atI (x :: y :: r) ((1 : Nat) : Int) = _ from atI_nat rfl)
theorem Same.none {H H' : Hp} {l : Addr} (s : Same H H') (h : H' l = none) : H l = none := by
  cases z : H l with
  | none => rfl
  | some o => rw [s _ _ z] at h; cases h
section
variable {P : Program} {w : World} {K : PySem.W.Frag} {mg : Str → Option Value} {base : Heap}
end
end My

namespace My
open PySem PySem.Spec PyProof.Rows L2
abbrev s_stepsFrom : Stmt := top 22
noncomputable def stT (cs g : List Int) : T := .tup [tI g, tI (mMet cs g)]
noncomputable def lvB (k : Int) (st : List Int) : Bool := decide (0 < ((ws st).length : Int)) && decide (((ws st).length : Int) < k)
noncomputable def spSf : Sp := fun vs H Q _ => ∃ k cs v, vs = [.int k, v] ∧ Is H (tI cs) v ∧ cs.length ≤ 5 ∧ ∀ l xs H', Same H H' → H l = none → H' l = some (.lst xs) → IsL H' ((gP k cs).map (stT cs)) xs → Q (.ref l) H'
theorem gP_few {k : Int} {cs : List Int} (h : cs.length ≤ 5) : (gP k cs).length ≤ 32 := Nat.le_trans (List.length_filter_le _ _) (Nat.le_trans (len_foldP k _) (pow5 (Nat.le_trans (wsI_len cs _) h)))
theorem sm_none {H H' : Hp} {l : Addr} (s : Same H H') (h : H' l = none) : H l = none := by
  cases z : H l with
  | none => rfl
  | some o => rw [s _ _ z] at h; cases h
section
variable {P : Program} {w : World} {K : PySem.W.Frag} {mg : Str → Option Value} {base : Heap}
theorem sc_stepsFrom : FnScope ["k", "stand"] ["k", "stand"] (defScope s_stepsFrom) := ⟨rfl, rfl, rfl, by decide +kernel, rfl, by decide +kernel, by decide +kernel⟩
theorem ok_stepsFrom (D : Def K mg "steps_from" s_stepsFrom) (T : Txt K mg) (o1 : Ok P w K mg base "groups" 2 ["k", "stand"] spGr) (o2 : Ok P w K mg base "met" 1 ["stand", "group"] spMe) : Ok P w K mg base "steps_from" 3 ["k", "stand"] spSf := by
  refine mkOk D sc_stepsFrom (fun _ _ _ _ _ _ us hl => (match us, hl with | [_, _], _ => rfl)) (fun vs H Q E ⟨_, _, _, e, _⟩ => by rw [e]; rfl) fun f cdv A outer s H vs Q E hr h => ?_
  obtain ⟨k, cs, v, rfl, hv, h5, q⟩ := h
  have r1 := hr.mono (show 1 ≤ 2 by decide)
  refine ⟨_, pss_one (ps_ret (pe_lc (own := ["group"]) (cap := [1]) rfl (lcScope (defScope s_stepsFrom) rfl rfl (by decide +kernel) (by decide +kernel) (by decide +kernel) ⟨⟨_, rfl, .inl rfl, noLoc rfl⟩, trivial⟩) (pi_list (pe_fn o1 hr (pa_cons (pv 0) (pa_cons (pv 1) pa_nil))))
      (fun _ _ _ _ => pg_name (i := 0) (by show (["group", "stand"] : List Str).Nodup; decide +kernel) rfl (Or.inl rfl)) (fun _ _ _ _ => pif_nil)
      (fun _ _ _ _ => pe_tupR (pa_cons (pv 0) (pa_cons (pe_fn o2 r1 (pa_cons (pv 1) (pa_cons (pv 0) pa_nil))) pa_nil))))), ?_⟩
  refine ⟨_, rfl, _, rfl, k, cs, v, rfl, hv, h5, fun lg xs H1 s1 g1 i1 => ?_⟩
  have hxl := i1.length
  rw [List.length_map] at hxl
  have hfew := gP_few (k := k) h5
  refine ⟨lg, rfl, ⟨_, SqL.of g1⟩, ?_⟩
  refine lc_list (xs := xs) (fun i ys H' => Same H1 H' ∧ IsL H' (((gP k cs).take i).map (stT cs)) ys) ⟨Same.refl H1, rfl⟩ (fun i ys H' hi ⟨s2, e⟩ => ⟨SqL.of (s2 _ _ g1), by rw [e.length, List.length_map, List.length_take]; exact small_le (by omega)⟩) ?_ ?_
  · rintro i x ys H2 hx ⟨s2, iy⟩
    refine gIf0 ?_
    obtain ⟨g, eg, ig⟩ := get_tI (i1.mono s2) hx
    refine ⟨_, rfl, _, rfl, _, rfl, cs, g, v, x, rfl, hv.mono (s1.trans s2), ig, h5, fun u H3 s3 iu => ?_⟩
    refine ⟨by show 2 ≤ 1000; decide, fun p H4 s4 _ g4 => ⟨s2.trans (s3.trans s4), ?_⟩⟩
    rw [List.take_add_one, eg, List.map_append]
    exact IsL.append (iy.mono (s3.trans s4)) (IsL.one ⟨p, _, rfl, g4, IsL.two (ig.mono (s3.trans s4)) (iu.mono s4)⟩)
  · rintro ys H2 ⟨s2, iy⟩ p hp
    rw [hxl, List.take_length] at iy
    have s3 := Same.new hp (.lst ys)
    exact q p ys _ (s1.trans (s2.trans s3)) (sm_none (s1.trans s2) hp) upd_same (iy.mono s3)
end
end My

namespace My
/-! ### all stands by rows of meetings, the nearest first -/
abbrev En (α : Type) := List Int × List (List Int) × α
section
variable {α : Type} {k : Int} {cs : List Int}
noncomputable def keysE (R : List (En α)) : List (List Int) := R.map (·.1)
theorem left_sum (hk : 1 ≤ k) : ∀ {row : List (List Int)} {cs st : List Int}, mLeft k cs row = some st → st.sum + k * (row.length : Int) = cs.sum ∧ st.length = cs.length ∧ ∀ j, cs.getD j 0 ≤ st.getD j 0 + (row.length : Int)
  | [], cs, st, h => by
    cases h
    exact ⟨by simp, rfl, fun j => by simp⟩
  | g :: r, cs, st, h => by
    unfold mLeft at h
    split at h
    · rename_i hg
      obtain ⟨h1, h2, h3⟩ := left_sum hk h
      have hs := (mem_gP (by omega)).mp hg
      have hm := sum_met (gp_of hs.1) g.length (Nat.le_refl _)
      rw [List.take_length, hs.2] at hm
      refine ⟨?_, h2.trans (mMet_len cs g), fun j => ?_⟩
      · rw [List.length_cons, show (((r.length + 1 : Nat)) : Int) = (r.length : Int) + 1 from by omega, Int.mul_add, Int.mul_one]
        omega
      · have := h3 j
        rw [List.length_cons]
        by_cases hj : j < cs.length
        · rw [mMet_get hj] at this
          split at this <;> omega
        · have e : cs.getD j 0 = 0 := by rw [List.getD_eq_getElem?_getD, List.getElem?_eq_none (by omega)]; rfl
          have e2 : (mMet cs g).getD j 0 = 0 := by rw [List.getD_eq_getElem?_getD, List.getElem?_eq_none (by rw [mMet_len]; omega)]; rfl
          rw [e2] at this
          rw [e]
          omega
    · cases h
/-- within level d: newest N (i of them done), later L -/
structure Bf (k : Int) (cs : List Int) (d : Nat) (R : List (En α)) (N L : List (List Int)) (i : Nat) : Prop where
  nd : (keysE R).Nodup
  way : ∀ r ∈ R, mLeft k cs r.2.1 = some r.1
  ord : R.Pairwise fun a b => a.2.1.length ≤ b.2.1.length
  top : ∀ r ∈ R, r.2.1.length ≤ d + 1
  new : ∀ r ∈ R, r.2.1.length = d → r.1 ∈ N
  lat : ∀ r ∈ R, r.2.1.length = d + 1 → r.1 ∈ L
  has : ∀ st ∈ L, ∃ r ∈ R, r.1 = st ∧ r.2.1.length = d + 1
  cl : ∀ r ∈ R, r.2.1.length < d → ∀ g ∈ gP k r.1, mMet r.1 g ∈ keysE R
  cln : ∀ st ∈ N.take i, ∀ g ∈ gP k st, mMet st g ∈ keysE R
  first : cs ∈ keysE R
  nr : ∀ st ∈ N, ∃ r ∈ R, r.1 = st ∧ r.2.1.length = d
theorem mem_keysE {R : List (En α)} {st : List Int} : st ∈ keysE R ↔ ∃ r ∈ R, r.1 = st := List.mem_map
theorem one_key {R : List (En α)} (nd : (keysE R).Nodup) : ∀ {r r' : En α}, r ∈ R → r' ∈ R → r.1 = r'.1 → r = r' := by
  induction R with
  | nil => intro r r' h; cases h
  | cons a R ih =>
    intro r r' h h' e
    have nd' : (a.1 :: keysE R).Nodup := nd
    obtain ⟨n1, n2⟩ := List.nodup_cons.mp nd'
    rcases List.mem_cons.mp h with rfl | h
    · rcases List.mem_cons.mp h' with rfl | h'
      · rfl
      · exact absurd (mem_keysE.mpr ⟨r', h', e.symm⟩) n1
    · rcases List.mem_cons.mp h' with rfl | h'
      · exact absurd (mem_keysE (R := R).mpr ⟨r, by assumption, e⟩) n1
      · exact ih n2 h h' e
theorem Bf.start (a : α) : Bf k cs 0 [(cs, [], a)] [cs] [] 0 where
  nd := by show [cs].Nodup; simp
  way := fun r hr => by rw [List.mem_singleton.mp hr]; rfl
  ord := List.pairwise_singleton _ _
  top := fun r hr => by rw [List.mem_singleton.mp hr]; exact Nat.zero_le _
  new := fun r hr _ => by rw [List.mem_singleton.mp hr]; exact List.mem_singleton.mpr rfl
  lat := fun r hr h => by rw [List.mem_singleton.mp hr] at h; exact absurd h (by show ¬ (0 = 0 + 1); decide)
  has := fun st h => by cases h
  cl := fun r hr h => by exact absurd h (Nat.not_lt_zero _)
  cln := fun st h => by cases h
  first := List.mem_singleton.mpr rfl
  nr := fun st h => ⟨_, List.mem_singleton.mpr rfl, (List.mem_singleton.mp h).symm, rfl⟩
theorem Bf.level {d : Nat} {R : List (En α)} {N L : List (List Int)} (b : Bf k cs d R N L N.length) : Bf k cs (d + 1) R L [] 0 where
  nd := b.nd
  way := b.way
  ord := b.ord
  top := fun r hr => Nat.le_succ_of_le (b.top r hr)
  new := fun r hr h => b.lat r hr h
  lat := fun r hr h => by have := b.top r hr; omega
  has := fun st h => by cases h
  cl := fun r hr h g hg => by
    by_cases z : r.2.1.length < d
    · exact b.cl r hr z g hg
    · exact b.cln r.1 (by rw [List.take_length]; exact b.new r hr (by omega)) g hg
  cln := fun st h => by cases h
  first := b.first
  nr := fun st h => b.has st h
theorem keysE_snoc {R : List (En α)} {x : En α} : keysE (R ++ [x]) = keysE R ++ [x.1] := by unfold keysE; rw [List.map_append]; rfl
theorem Bf.step {d i : Nat} {R : List (En α)} {N L : List (List Int)} (b : Bf k cs d R N L i) {r : En α} {g : List Int} (hr : r ∈ R) (hl : r.2.1.length = d) (hg : g ∈ gP k r.1) (hn : mMet r.1 g ∉ keysE R) (a : α) :
    Bf k cs d (R ++ [(mMet r.1 g, r.2.1 ++ [g], a)]) N (L ++ [mMet r.1 g]) i := by
  have up : ∀ {st}, st ∈ keysE R → st ∈ keysE (R ++ [(mMet r.1 g, r.2.1 ++ [g], a)]) := fun h => by rw [keysE_snoc]; exact List.mem_append_left _ h
  have nl : (r.2.1 ++ [g]).length = d + 1 := by rw [List.length_append, hl]; rfl
  refine ⟨?_, fun x hx => ?_, ?_, fun x hx => ?_, fun x hx e => ?_, fun x hx e => ?_, fun st h => ?_, fun x hx h g' hg' => ?_, fun st h g' hg' => up (b.cln st h g' hg'), up b.first, fun st h => ?_⟩
  · rw [keysE_snoc]
    refine List.nodup_append.mpr ⟨b.nd, by simp, fun x hx y hy e => ?_⟩
    rw [e, List.mem_singleton.mp hy] at hx
    exact hn hx
  · rcases List.mem_append.mp hx with h | h
    · exact b.way x h
    · rw [List.mem_singleton.mp h]
      exact mLeft_snoc (b.way r hr) hg
  · refine List.pairwise_append.mpr ⟨b.ord, List.pairwise_singleton _ _, fun x hx y hy => ?_⟩
    rw [List.mem_singleton.mp hy]
    show x.2.1.length ≤ (r.2.1 ++ [g]).length
    rw [nl]
    exact b.top x hx
  · rcases List.mem_append.mp hx with h | h
    · exact b.top x h
    · rw [List.mem_singleton.mp h]
      exact Nat.le_of_eq nl
  · rcases List.mem_append.mp hx with h | h
    · exact b.new x h e
    · rw [List.mem_singleton.mp h] at e
      have e : (r.2.1 ++ [g]).length = d := e
      omega
  · rcases List.mem_append.mp hx with h | h
    · exact List.mem_append_left _ (b.lat x h e)
    · rw [List.mem_singleton.mp h]
      exact List.mem_append_right _ (List.mem_singleton.mpr rfl)
  · rcases List.mem_append.mp h with h | h
    · obtain ⟨x, h1, h2⟩ := b.has st h
      exact ⟨x, List.mem_append_left _ h1, h2⟩
    · exact ⟨_, List.mem_append_right _ (List.mem_singleton.mpr rfl), (List.mem_singleton.mp h).symm, nl⟩
  · rcases List.mem_append.mp hx with y | y
    · exact up (b.cl x y h g' hg')
    · rw [List.mem_singleton.mp y] at h
      have h : (r.2.1 ++ [g]).length < d := h
      omega
  · obtain ⟨x, h1, h2⟩ := b.nr st h
    exact ⟨x, List.mem_append_left _ h1, h2⟩
theorem Bf.done {d i : Nat} {R : List (En α)} {N L : List (List Int)} {st : List Int} (b : Bf k cs d R N L i) (hi : N[i]? = some st) (h : ∀ g ∈ gP k st, mMet st g ∈ keysE R) : Bf k cs d R N L (i + 1) :=
  ⟨b.nd, b.way, b.ord, b.top, b.new, b.lat, b.has, b.cl, fun x hx g hg => by
    rw [List.take_add_one, hi] at hx
    rcases List.mem_append.mp hx with y | y
    · exact b.cln x y g hg
    · have y : x ∈ [st] := y
      rw [List.mem_singleton.mp y] at hg ⊢
      exact h g hg, b.first, b.nr⟩
/-- all stands, each with a shortest row, the nearest first -/
structure Bd (k : Int) (cs : List Int) (R : List (En α)) : Prop where
  nd : (keysE R).Nodup
  way : ∀ r ∈ R, mLeft k cs r.2.1 = some r.1
  ord : R.Pairwise fun a b => a.2.1.length ≤ b.2.1.length
  all : ∀ row st, mLeft k cs row = some st → st ∈ keysE R
theorem Bf.end' {d : Nat} {R : List (En α)} (b : Bf k cs d R [] [] 0) : Bd k cs R := by
  refine ⟨b.nd, b.way, b.ord, ?_⟩
  have closed : ∀ x ∈ keysE R, ∀ g ∈ gP k x, mMet x g ∈ keysE R := fun x hx g hg => by
    obtain ⟨r, hr, rfl⟩ := mem_keysE.mp hx
    refine b.cl r hr ?_ g hg
    have h1 := b.top r hr
    have h2 : r.2.1.length ≠ d := fun e => by have := b.new r hr e; cases this
    have h3 : r.2.1.length ≠ d + 1 := fun e => by have := b.lat r hr e; cases this
    omega
  have go : ∀ (row : List (List Int)) (c st : List Int), c ∈ keysE R → mLeft k c row = some st → st ∈ keysE R := by
    intro row
    induction row with
    | nil => intro c st hc h; cases h; exact hc
    | cons g r ih =>
      intro c st hc h
      unfold mLeft at h
      split at h
      · rename_i hg
        exact ih _ _ (closed c hc g hg) h
      · cases h
  exact fun row st h => go row cs st b.first h
end
end My

namespace My
open PySem PySem.Spec PyProof.Rows L2
abbrev s_rowsTo : Stmt := top 10
abbrev s_ever : Stmt := top 25
/-! ### the lambda of ever -/
noncomputable def theLam : Expr := match defBody s_ever with
  | _ :: _ :: .Assign _ (.Call _ (_ :: l :: _) _ _) _ :: _ => l
  | _ => .Constant .none 0 ⟨0, 0, 0, 0⟩
noncomputable def lmArgs : Arguments := match theLam with | .Lambda a _ _ _ => a | _ => defArgs s_ever
noncomputable def lmBody : Expr := match theLam with | .Lambda _ b _ _ => b | e => e
noncomputable def lmScope : Scope := match theLam with | .Lambda _ _ s _ => s | _ => defScope s_ever
noncomputable def lmPos : Pos := match theLam with | .Lambda _ _ _ p => p | _ => ⟨0, 0, 0, 0⟩
noncomputable def lmQual : Str := (("ever" : Str) ++ ".<locals>.") ++ "<lambda>"
theorem lm_sc : LamScope lmScope "stand" "k" := ⟨rfl, rfl, rfl, by decide +kernel, rfl, rfl, by decide +kernel⟩
noncomputable def LO (mg : Str → Option Value) (c c' : Addr) (ctv : Value) : Obj := PySem.W.kla_obj "<lambda>" lmQual lmArgs lmBody lmScope [("k", c)] ((mg "__name__").getD .none) c' ctv
noncomputable def LamAt (mg : Str → Option Value) (H : Hp) (f c : Addr) (n : Int) : Prop := ∃ c' ctv oc occ tk, H f = some (kno (LO mg c c' ctv)) ∧ H c' = some (kno occ) ∧ OfCode occ lmQual ∧ H c = some (kno oc) ∧ oc.data = .cell (some (.int n tk))
theorem LamAt.same {mg : Str → Option Value} {H H' : Hp} {f c : Addr} {n : Int} (h : LamAt mg H f c n) (s : Same H H') : LamAt mg H' f c n := by
  obtain ⟨c', ctv, oc, occ, tk, h1, h2, h3, h4, h5⟩ := h
  exact ⟨c', ctv, oc, occ, tk, s _ _ h1, s _ _ h2, h3, s _ _ h4, h5⟩
/-! ### stands and their rows in a dict -/
noncomputable def kvE (R : List (En Addr)) : List (List Key × V) := R.map fun r => (kI r.1, V.ref r.2.2)
structure RAt (H : Hp) (d : Addr) (R : List (En Addr)) : Prop where
  at' : H d = some (.dT (kvE R))
  rows : ∀ r ∈ R, Is H (rowT r.2.1) (.ref r.2.2)
theorem kvE_keys (R : List (En Addr)) : (kvE R).map (·.1) = (keysE R).map kI := by unfold kvE keysE; rw [List.map_map, List.map_map]; rfl
theorem RAt.d {H : Hp} {d : Addr} {R : List (En Addr)} (r : RAt H d R) : DAt H d (keysE R) := ⟨_, r.at', kvE_keys R⟩
theorem RAt.same {H H' : Hp} {d : Addr} {R : List (En Addr)} (r : RAt H d R) (s : Same H H') : RAt H' d R := ⟨s _ _ r.at', fun x hx => (r.rows x hx).mono s⟩
theorem kvE_get {R : List (En Addr)} {g : List Int} (h : g ∈ keysE R) : ∃ r ∈ R, r.1 = g ∧ valV (kvE R) (kI g) = some (.ref r.2.2) := by
  induction R with
  | nil => cases h
  | cons a R ih =>
    by_cases e : a.1 = g
    · exact ⟨a, List.mem_cons_self, e, valV_pos (p := (kI a.1, V.ref a.2.2)) (by show kI a.1 = kI g; rw [e])⟩
    · have h2 : g ∈ keysE R := by
        rcases List.mem_cons.mp (show g ∈ a.1 :: keysE R from h) with z | z
        · exact absurd z.symm e
        · exact z
      obtain ⟨r, h3, h4, h5⟩ := ih h2
      exact ⟨r, List.mem_cons_of_mem _ h3, h4, (valV_neg (p := (kI a.1, V.ref a.2.2)) (fun z => e (kI_inj z))).trans h5⟩
theorem RAt.get {H : Hp} {d b : Addr} {R : List (En Addr)} {g : List Int} (x : RAt H d R) (hb : Is H (tI g) (.ref b)) (h : g ∈ keysE R) : ∃ r ∈ R, r.1 = g ∧ DGet H d (.ref b) (some (.ref r.2.2)) := by
  obtain ⟨b', zs, e', hb', hz⟩ := hb
  cases e'
  rw [IsL.ints.mp hz, ← kI_kV] at hb'
  obtain ⟨r, h1, h2, h3⟩ := kvE_get h
  exact ⟨r, h1, h2, by rw [← h3]; exact DGet.t x.at' hb'⟩
theorem row_up {H : Hp} {d a : Addr} {kvs : List (List Key × V)} {o : HO} {row : List (List Int)} (h : H d = some (.dT kvs)) (r : Is H (rowT row) (.ref a)) : Is (upd H d o) (rowT row) (.ref a) := by
  obtain ⟨a', xs, e, ha, hl⟩ := r
  cases e
  exact ⟨a, xs, rfl, by rw [upd_ne (ne_of ha h (fun z => by cases z))]; exact ha, hl.tups (Tups.upd h (fun zs z => by cases z)) (fro_row row)⟩
theorem RAt.put {H : Hp} {d b a : Addr} {R : List (En Addr)} {g : List Int} {row : List (List Int)} (x : RAt H d R) (hb : Is H (tI g) (.ref b)) (hn : g ∉ keysE R) (hl : R.length < 10000) (hr : Is H (rowT row) (.ref a)) :
    ∃ o, DPut H d (.ref b) (.ref a) (upd H d o) ∧ RAt (upd H d o) d (R ++ [(g, row, a)]) := by
  obtain ⟨b', zs, e', hb', hz⟩ := hb
  cases e'
  rw [IsL.ints.mp hz, ← kI_kV] at hb'
  have hlen : (kvE R).length = R.length := by unfold kvE; rw [List.length_map]
  have hv : valV (kvE R) (kI g) = none := by
    cases z : valV (kvE R) (kI g) with
    | none => rfl
    | some v =>
      have := val_some (kvE_keys R) g
      rw [z, decide_eq_false hn] at this
      cases this
  have e1 : putK (kvE R) (kI g) (.ref a) = kvE (R ++ [(g, row, a)]) := by rw [putK_new _ hv]; unfold kvE; rw [List.map_append]; rfl
  refine ⟨_, DPut.t x.at' hb' (by rw [hlen]; exact Nat.lt_of_lt_of_le hl (by decide)), ?_⟩
  rw [e1]
  refine ⟨upd_same, fun r hr' => ?_⟩
  rcases List.mem_append.mp hr' with z | z
  · exact row_up x.at' (x.rows r z)
  · rw [List.mem_singleton.mp z]
    exact row_up x.at' hr
structure InR (Hz H2 : Hp) (d fa : Addr) (k : Int) (cs : List Int) (dep : Nat) (H' : Hp) (R : List (En Addr)) (N L : List (List Int)) (i : Nat) : Prop where
  b : But2 d fa H2 H'
  r : RAt H' d R
  bf : Bf k cs dep R N L i
  f : ∃ ys, H' fa = some (.lst ys) ∧ IsL H' (L.map tI) ys
  len : L.length ≤ R.length
  nf : ∀ r ∈ R, r.2.2 ≠ fa
  fh : ∀ r ∈ R, Hz r.2.2 = none
theorem InR.same {Hz H2 H' H'' : Hp} {d f : Addr} {k : Int} {cs : List Int} {dep i : Nat} {R : List (En Addr)} {N L : List (List Int)} (x : InR Hz H2 d f k cs dep H' R N L i) (s : Same H' H'') : InR Hz H2 d f k cs dep H'' R N L i := by
  obtain ⟨ys, e, il⟩ := x.f
  exact ⟨x.b.trans s.but2, x.r.same s, x.bf, ⟨ys, s _ _ e, il.mono s⟩, x.len, x.nf, x.fh⟩
theorem few_R {k : Int} {cs : List Int} {R : List (En Addr)} (C : Cnt k cs) (nd : (keysE R).Nodup) (way : ∀ r ∈ R, mLeft k cs r.2.1 = some r.1) : R.length ≤ 3125 := by
  have := vec_few C.n5 nd fun g hg => by
    obtain ⟨r, hr, rfl⟩ := mem_keysE.mp hg
    exact ⟨(left_sum C.k1 (way r hr)).2.1, (C.left (way r hr)).each⟩
  unfold keysE at this
  rwa [List.length_map] at this
theorem del_tups {H : Hp} {c : Addr} {o : Obj} (h : H c = some (kno o)) : Tups H (del H c) := fun b xs e => by rw [del_ne (fun z => by rw [z, h] at e; cases e)]; exact e
theorem back_same {H H' : Hp} {c : Addr} {o : Obj} (h : H c = some (kno o)) (s : Same (del H c) H') : Same H (upd H' c (kno o)) := fun b u e => by
  by_cases z : b = c
  · rw [z] at e ⊢
    rw [h] at e
    cases e
    exact upd_same
  · rw [upd_ne z]
    exact s b u (by rw [del_ne z]; exact e)
noncomputable def spRa (mg : Str → Option Value) : Sp := fun vs H Q _ => ∃ k cs v f c, vs = [v, .ref f, .int 3125] ∧ Is H (tI cs) v ∧ Cnt k cs ∧ LamAt mg H f c k ∧
  ∀ d R H', Same H H' → H d = none → RAt H' d R → (∀ r ∈ R, H r.2.2 = none) → Bd k cs R → Q (.ref d) H'
section
variable {P : Program} {w : World} {K : PySem.W.Frag} {mg : Str → Option Value} {base : Heap}
theorem sc_rowsTo : FnScope ["first", "steps", "most", "rows", "newest", "later", "stand", "step", "stand_behind"] ["first", "steps", "most"] (defScope s_rowsTo) := ⟨rfl, rfl, rfl, by decide +kernel, rfl, by decide +kernel, by decide +kernel⟩
theorem ok_rowsTo (D : Def K mg "rows_to_all" s_rowsTo) (T : Txt K mg) (o1 : Ok P w K mg base "steps_from" 3 ["k", "stand"] spSf) : Ok P w K mg base "rows_to_all" 5 ["first", "steps", "most"] (spRa mg) := by
  refine mkOk D sc_rowsTo (fun _ _ _ _ _ _ us hl => (match us, hl with | [_, _, _], _ => rfl)) (fun vs H Q E ⟨_, _, _, _, _, e, _⟩ => by rw [e]; rfl) fun f cdv A outer s H vs Q E hr h => ?_
  obtain ⟨k, cs, v, fl, c, rfl, hv, C, hL, q⟩ := h
  have nd := sc_rowsTo.nd
  have hun := hr.units
  have hu1 := Nat.lt_of_le_of_lt (Nat.add_le_add_left (by decide : 1 ≤ 64) _) hun
  refine ⟨_, pss_cons (ps_set (i := 3) nd rfl (Or.inl rfl) (pe_disp1 hr.units0 (pv 0) (pe_lstR pa_nil)))
    (pss_cons (ps_set (i := 4) nd rfl (Or.inl rfl) (pe_lstR (pa_cons (pv 0) pa_nil)))
    (pss_cons (ps_while PassesOwn.never (PW.pt (pw_and (pt_truth (pv 4) (fun _ => rfl)) (pw_and1 (pt_cmpR op_le (pe_callB call_lenT rfl T.len bt_len (pa_cons (pv 3) pa_nil)) (pv 2) (nomark _)))))
      (pss_cons (ps_set (i := 5) nd rfl (Or.inl rfl) (pe_lstR pa_nil))
      (pss_cons (ps_for PassesOwn.never rfl (pi_list (pv 4)) (pg_name (i := 6) nd rfl (Or.inl rfl))
        (pss_one (ps_for PassesOwn.never rfl (pi_list (pe_callL (i := 1) (qual := lmQual) (params := lmArgs) (body := lmBody) (pm := (mg "__name__").getD .none) lm_sc hr rfl (Or.inl rfl) (fun _ _ _ _ => rfl) (fun _ _ _ _ _ => pe_fn o1 (hr.deeper _) (pa_cons (pv 1) (pa_cons (pv 0) pa_nil))) (pa_cons (pv 6) pa_nil))) (pg_tup rfl (pgs_cons (pg_name (i := 7) nd rfl (Or.inl rfl)) (pgs_cons (pg_name (i := 8) nd rfl (Or.inl rfl)) pgs_nil)))
          (pss_one (ps_if (pt_cmp (pc_dnotin hu1 (pv 8) (pv 3)))
            (pss_cons (ps_dput hu1 (pv 3) (pv 8) (pe_op op_catB (pe_dget hu1 (pv 3) (pv 6) (fun _ _ => rfl)) (pe_lstR (pa_cons (pv 7) pa_nil))) rfl)
            (pss_one (ps_expr (pe_bm PySem.F.plainAttrs_list PySem.F.slot_list_append PySem.F.type_list_append mt_append (pv 5) (pa_cons (pv 8) pa_nil))))) pss_nil)))))
      (pss_one (ps_set (i := 4) nd rfl (Or.inl rfl) (pv 5))))))
    (pss_one (ps_ret (pv 3))))), ?_⟩
  have k1 := C.k1
  have n5 := C.n5
  have hs20 := sum_ge C.each
  refine fun d hd0 => ⟨_, rfl, by show 0 ≤ 1000; decide, fun r0 H0 s0 hr0 g0 => ⟨cs, (hv.mono (Same.new hd0 _)).mono s0, s0 _ _ upd_same, ?_⟩⟩
  have nr0 : r0 ≠ d := fun z => by rw [z, s0 _ _ upd_same] at g0; cases g0
  have s1 : Same H (upd H0 d (.dT [(kI cs, .ref r0)])) := fun b o e => by rw [upd_ne (ne_of_none e hd0)]; exact s0 b o (by rw [upd_ne (ne_of_none e hd0)]; exact e)
  have hR1 : RAt (upd H0 d (.dT [(kI cs, .ref r0)])) d [(cs, [], r0)] := ⟨upd_same, fun r hr => by
    rw [List.mem_singleton.mp hr]
    exact ⟨r0, [], rfl, by rw [upd_ne nr0]; exact g0, rfl⟩⟩
  generalize upd H0 d (.dT [(kI cs, .ref r0)]) = H1 at s1 hR1 ⊢
  refine ⟨_, rfl, by show 1 ≤ 1000; decide, fun nw H2 s2 hnw g2 => ?_⟩
  have s12 := s1.trans s2
  refine ⟨fun n σ H' => ∃ nw N R dep x5 x6 x7 x8, σ = [some v, some (.ref fl), some (.int 3125), some (.ref d), some (.ref nw), x5, x6, x7, x8] ∧ Same H H' ∧ RAt H' d R ∧ Bf k cs dep R N [] 0 ∧ Is H' (rowT N) (.ref nw) ∧ n + dep = 21 ∧ N.length ≤ 3125 ∧ (∀ r ∈ R, H r.2.2 = none),
    ⟨21, nw, [cs], [(cs, [], r0)], 0, none, none, none, none, rfl, s12, hR1.same s2, Bf.start r0, ⟨nw, _, rfl, g2, IsL.one (hv.mono s12)⟩, rfl, by show 1 ≤ 3125; decide, fun r hr => (by rw [List.mem_singleton.mp hr]; exact sm_none (Same.new hd0 _) hr0)⟩, ?_⟩
  rintro n σ H2 ⟨nw, N, R, dep, x5, x6, x7, x8, rfl, s2, hR, bf, iN, hn, hfew, hfz⟩
  obtain ⟨_, xs, el, hl, ixs⟩ := iN
  cases el
  have hxl := ixs.length
  rw [List.length_map] at hxl
  refine ⟨_, rfl, _, .inl ⟨_, SqL.of hl, rfl⟩, ?_⟩
  cases hN : N with
  | nil =>
    rw [hN] at hxl bf
    have hx0 : xs = [] := List.length_eq_zero_iff.mp hxl
    subst hx0
    refine iteF (iteF ?_)
    exact ⟨_, rfl, q d R H2 s2 hd0 hR hfz bf.end'⟩
  | cons g0 N0 =>
    have hxe : (!xs.isEmpty) = true := by
      cases xs with
      | nil => rw [hN] at hxl; cases hxl
      | cons _ _ => rfl
    rw [hxe]
    have hRl := few_R C bf.nd bf.way
    have hkl : (keysE R).length = R.length := by unfold keysE; rw [List.length_map]
    refine iteT ⟨_, rfl, d, keysE R, rfl, hR.d, _, rfl, _, _, rfl, rfl, _, rfl, ?_⟩
    rw [decide_eq_true (show (((keysE R).length : Nat) : Int) ≤ 3125 by omega)]
    refine iteT ?_
    have hdep20 : dep ≤ 20 := by
      obtain ⟨r, hr, e1, e2⟩ := bf.nr g0 (by rw [hN]; exact List.mem_cons_self)
      obtain ⟨h1, h2, _⟩ := left_sum k1 (bf.way r hr)
      have h3 := (sum_ge (C.left (bf.way r hr)).each).1
      have h4 : 1 * (r.2.1.length : Int) ≤ k * (r.2.1.length : Int) := Int.mul_le_mul_of_nonneg_right k1 (by omega)
      omega
    refine ⟨fun σ' H' => ∃ n', n' < n ∧ ∃ nw N R dep x5 x6 x7 x8, σ' = [some v, some (.ref fl), some (.int 3125), some (.ref d), some (.ref nw), x5, x6, x7, x8] ∧ Same H H' ∧ RAt H' d R ∧ Bf k cs dep R N [] 0 ∧ Is H' (rowT N) (.ref nw) ∧ n' + dep = 21 ∧ N.length ≤ 3125 ∧ (∀ r ∈ R, H r.2.2 = none), fun σ' H' h => h, ?_⟩
    refine ⟨by show 0 ≤ 1000; decide, fun fr H4 s4 hfr g4 => ?_⟩
    have s04 := s2.trans s4
    have hR4 := hR.same s4
    have hd4 := hR4.at'
    have hl4 := s4 _ _ hl
    have hi4 := ixs.mono s4
    have hfrH : H fr = none := sm_none s2 hfr
    have nfd : fr ≠ d := fun y => by rw [y, hR.at'] at hfr; cases hfr
    have nld : nw ≠ d := fun y => by rw [y, hd4] at hl4; cases hl4
    have nlf : nw ≠ fr := fun y => by rw [← y, hl] at hfr; cases hfr
    have HS : ∀ {H' : Hp}, But2 d fr H4 H' → Same H H' := fun b c o e => b c o (ne_of_none e hd0) (ne_of_none e hfrH) (s04 _ _ e)
    have I4 : InR H H4 d fr k cs dep H4 R N [] 0 := ⟨But2.refl _ _ _, hR4, bf, ⟨[], g4, rfl⟩, Nat.zero_le _, fun r hr z => (by
      obtain ⟨_, _, e, h1, _⟩ := hR.rows r hr
      cases e
      rw [z, hfr] at h1
      cases h1), hfz⟩
    refine ⟨_, rfl, nw, rfl, ⟨_, SqL.of hl4⟩, ?_⟩
    refine for_list (xs := xs) (fun i σ H' => ∃ R L x6 x7 x8, σ = [some v, some (.ref fl), some (.int 3125), some (.ref d), some (.ref nw), some (.ref fr), x6, x7, x8] ∧ InR H H4 d fr k cs dep H' R N L i) ⟨R, [], _, _, _, rfl, I4⟩ (fun i σ H' _ ⟨_, _, _, _, _, _, x⟩ => SqL.of (x.b _ _ nld nlf hl4)) ?_ ?_
    rotate_left
    · rintro σ H5 ⟨R', L, y6, y7, y8, rfl, I5⟩
      obtain ⟨ys, gf, iff⟩ := I5.f
      have hRl5 := few_R C I5.bf.nd I5.bf.way
      have := I5.len
      have bf5 := I5.bf
      rw [hxl] at bf5
      exact ⟨_, rfl, n - 1, by omega, fr, L, R', dep + 1, _, _, _, _, rfl, HS I5.b, I5.r, bf5.level, ⟨fr, ys, rfl, gf, iff⟩, by omega, by omega, I5.fh⟩
    rintro i x σ H5 hx5 ⟨R', L, y6, y7, y8, rfl, I5⟩
    obtain ⟨g, eg, ig4⟩ := get_tI hi4 hx5
    have hgN := List.mem_of_getElem? eg
    have tp5 := I5.b.tups hd4 g4
    have ig := ig4.tups tp5 (fro_tI g)
    obtain ⟨r, hr5, er, lr⟩ := I5.bf.nr g hgN
    have Cg : Cnt k g := by rw [← er]; exact C.left (I5.bf.way r hr5)
    have hgl : g.length ≤ 5 := Cg.n5
    obtain ⟨c', ctv, oc, occ, tk, L1, L2, L3, L4, L5⟩ := hL.same (HS I5.b)
    refine ⟨_, rfl, _, rfl, x, c, c', ctv, oc, occ, k, tk, rfl, L1, L2, L3, L4, L5, ?_⟩
    refine ⟨_, rfl, _, rfl, k, g, x, rfl, ig.tups (del_tups L4) (fro_tI g), hgl, fun lg ys H' s' hlg g' i' nc' => ?_⟩
    have s6 := back_same L4 s'
    have nlc : lg ≠ c := fun z => by rw [z, nc'] at g'; cases g'
    have hlg5 : H5 lg = none := by rw [← hlg, del_ne nlc]
    have g6 : upd H' c (kno oc) lg = some (.lst ys) := by rw [upd_ne nlc]; exact g'
    have i6 := i'.mono (Same.new nc' (kno oc))
    generalize upd H' c (kno oc) = H6 at s6 g6 i6 ⊢
    clear s' hlg g' i' nc' nlc
    have I6 := I5.same s6
    have ig6 := ig.mono s6
    obtain ⟨ag, rfl, hag⟩ := tI_open ig6
    have hyl := i6.length
    rw [List.length_map] at hyl
    have hd6 := I6.r.at'
    obtain ⟨yf6, gf6, _⟩ := id I6.f
    have nlg : lg ≠ d ∧ lg ≠ fr := by
      obtain ⟨yf5, gf5, _⟩ := I5.f
      exact ⟨fun y => (by rw [y, I5.r.at'] at hlg5; cases hlg5), fun y => (by rw [y, gf5] at hlg5; cases hlg5)⟩
    refine ⟨lg, rfl, ⟨_, SqL.of g6⟩, ?_⟩
    refine for_list (xs := ys) (fun j σ H' => ∃ R L x7 x8, σ = [some v, some (.ref fl), some (.int 3125), some (.ref d), some (.ref nw), some (.ref fr), some (.ref ag), x7, x8] ∧ But2 d fr H6 H' ∧ InR H H4 d fr k cs dep H' R N L i ∧ ∀ g' ∈ (gP k g).take j, mMet g g' ∈ keysE R) ⟨R', L, _, _, rfl, But2.refl _ _ _, I6, fun g' h => (by cases h)⟩ (fun j σ H' _ ⟨_, _, _, _, _, b, _⟩ => SqL.of (b _ _ nlg.1 nlg.2 g6)) ?_ ?_
    rotate_left
    · rintro σ H8 ⟨R8, L8, z7, z8, rfl, b8, I8, hcl⟩
      rw [hyl, List.take_length] at hcl
      exact ⟨R8, L8, _, _, _, rfl, I8.b, I8.r, I8.bf.done eg hcl, I8.f, I8.len, I8.nf, I8.fh⟩
    rintro j x σ H8 hx ⟨R8, L8, z7, z8, rfl, b8, I8, hcl⟩
    have tp8 := b8.tups hd6 gf6
    obtain ⟨t, ht, it⟩ := i6.get' hx
    rw [List.getElem?_map] at ht
    cases eg' : (gP k g)[j]? with
    | none => rw [eg'] at ht; cases ht
    | some g' =>
    rw [eg'] at ht
    cases ht
    have hgP : g' ∈ gP k g := List.mem_of_getElem? eg'
    obtain ⟨ap, zs, rfl, hap, vg, r1, rfl, ivg, vm, r2, rfl, ivm, hnil⟩ := it
    cases (show r2 = [] from hnil)
    have hap8 := tp8 _ _ hap
    have ivg8 := ivg.tups tp8 (fro_tI _)
    have ivm8 := ivm.tups tp8 (fro_tI _)
    have igx : Is H8 (tI g) (.ref ag) := ig6.tups tp8 (fro_tI g)
    refine ⟨ap, _, rfl, SqT.of hap8, rfl, _, _, rfl, _, _, rfl, rfl, ?_⟩
    obtain ⟨au, rfl, hau⟩ := tI_open ivm8
    obtain ⟨o, hg, ho⟩ := I8.r.d.get ivm8
    refine ⟨_, rfl, _, rfl, d, o, rfl, hg, _, rfl, ?_⟩
    rw [ho]
    have step1 : ∀ {K2 : List (List Int)}, (∀ st, st ∈ keysE R8 → st ∈ K2) → mMet g g' ∈ K2 → ∀ g2 ∈ (gP k g).take (j + 1), mMet g g2 ∈ K2 := fun h1 h2 g2 hg2 => by
      rw [List.take_add_one, eg'] at hg2
      rcases List.mem_append.mp hg2 with y | y
      · exact h1 _ (hcl g2 y)
      · have y : g2 ∈ [g'] := y
        rw [List.mem_singleton.mp y]
        exact h2
    by_cases z : mMet g g' ∈ keysE R8
    · rw [decide_eq_true z]
      exact iteF ⟨R8, L8, _, _, rfl, b8, I8, step1 (fun _ h => h) z⟩
    rw [decide_eq_false z]
    refine iteT ?_
    have hgk : g ∈ keysE R8 := by
      obtain ⟨r, h1, h2, _⟩ := I8.bf.nr g hgN
      exact mem_keysE.mpr ⟨r, h1, h2⟩
    obtain ⟨r8, hr8, er8, hget⟩ := I8.r.get igx hgk
    have lr8 : r8.2.1.length = dep := by
      obtain ⟨r, h1, h2, h3⟩ := I8.bf.nr g hgN
      rw [one_key I8.bf.nd hr8 h1 (er8.trans h2.symm)]
      exact h3
    have iR8 := I8.r.rows r8 hr8
    refine ⟨_, rfl, _, rfl, d, _, rfl, hget, _, rfl, by show 1 ≤ 1000; decide, fun p9 H9 s9 hp9 g9 => ?_⟩
    refine ⟨r8.2.1.map tI, [tI g'], iR8.mono s9, ⟨p9, _, rfl, g9, IsL.one (ivg8.mono s9)⟩, by rw [List.length_map, lr8]; show dep + 1 ≤ 20000; omega, fun pr H10 s10 hpr iR => ?_⟩
    have I10 := I8.same (s9.trans s10)
    have b10 := b8.trans (Same.but2 (d := d) (f := fr) (s9.trans s10))
    have iu := ivm8.mono (s9.trans s10)
    have iR10 : Is H10 (rowT (r8.2.1 ++ [g'])) (.ref pr) := by unfold rowT; rw [List.map_append]; exact iR
    have hRl8 := few_R C I8.bf.nd I8.bf.way
    obtain ⟨o', hput, hR11⟩ := I10.r.put iu z (by omega) iR10
    refine ⟨_, rfl, _, rfl, d, _, rfl, hput, ?_⟩
    obtain ⟨yf, gf, if10⟩ := I10.f
    have hd10 := I10.r.at'
    have tpd : Tups H10 (upd H10 d o') := Tups.upd hd10 (fun zs z => by cases z)
    have gf11 : upd H10 d o' fr = some (.lst yf) := by rw [upd_ne nfd]; exact gf
    have b11 : But2 d fr H10 (upd H10 d o') := But2.updD
    have iu11 := iu.tups tpd (fro_tI _)
    have if11 := if10.tups tpd (fro_row L8)
    generalize upd H10 d o' = H11 at hR11 gf11 b11 iu11 if11 ⊢
    have hfl := if11.length
    rw [List.length_map] at hfl
    have hl8 := I8.len
    refine ⟨_, rfl, .inl ⟨rfl, _, SqL.of gf11⟩, _, rfl, fr, yf, _, rfl, rfl, gf11, big_lt (by omega), ?_⟩
    have tpf : Tups H11 (upd H11 fr (.lst (yf ++ [.ref au]))) := Tups.upd gf11 (fun zs z => by cases z)
    have b12 : But2 d fr H11 (upd H11 fr (.lst (yf ++ [.ref au]))) := But2.updF
    have gf12 : upd H11 fr (.lst (yf ++ [.ref au])) fr = some (.lst (yf ++ [.ref au])) := upd_same
    have nf12 : ∀ r ∈ R8 ++ [(mMet g g', r8.2.1 ++ [g'], pr)], r.2.2 ≠ fr := fun r hr => by
      rcases List.mem_append.mp hr with y | y
      · exact I8.nf r y
      · rw [List.mem_singleton.mp y]
        intro e
        have e : pr = fr := e
        obtain ⟨yf8, gf8, _⟩ := I8.f
        rw [e, s9 _ _ gf8] at hpr
        cases hpr
    have hR12 : RAt (upd H11 fr (.lst (yf ++ [.ref au]))) d (R8 ++ [(mMet g g', r8.2.1 ++ [g'], pr)]) := ⟨by rw [upd_ne (Ne.symm nfd)]; exact hR11.at', fun r hr => by
      obtain ⟨_, qs, e, h1, h2⟩ := hR11.rows r hr
      cases e
      exact ⟨_, qs, rfl, by rw [upd_ne (nf12 r hr)]; exact h1, h2.tups tpf (fro_row _)⟩⟩
    have iu12 := iu11.tups tpf (fro_tI _)
    have if12 := if11.tups tpf (fro_row L8)
    generalize upd H11 fr (.lst (yf ++ [.ref au])) = H12 at b12 gf12 hR12 iu12 if12 ⊢
    have bf12 := I8.bf.step (r := r8) (g := g') hr8 lr8 (by rw [er8]; exact hgP) (by rw [er8]; exact z) pr
    rw [er8] at bf12
    have fh12 : ∀ r ∈ R8 ++ [(mMet g g', r8.2.1 ++ [g'], pr)], H r.2.2 = none := fun r hr => by
      rcases List.mem_append.mp hr with y | y
      · exact I8.fh r y
      · rw [List.mem_singleton.mp y]
        exact sm_none ((HS I8.b).trans s9) hpr
    refine ⟨R8 ++ [(mMet g g', r8.2.1 ++ [g'], pr)], L8 ++ [mMet g g'], _, _, rfl, b10.trans (b11.trans b12), ⟨I10.b.trans (b11.trans b12), hR12, bf12, ⟨_, gf12, ?_⟩, ?_, nf12, fh12⟩, step1 (fun st h => ?_) ?_⟩
    · rw [List.map_append]
      exact IsL.append if12 (IsL.one iu12)
    · rw [List.length_append, List.length_append, List.length_singleton, List.length_singleton]
      omega
    · rw [keysE_snoc]
      exact List.mem_append_left _ h
    · rw [keysE_snoc]
      exact List.mem_append_right _ (List.mem_singleton.mpr rfl)
end
end My

namespace My
open PySem PySem.Spec PyProof.Rows L2
noncomputable def DefC (K : PySem.W.Frag) (mg : Str → Option Value) (x : Str) (st : Stmt) (c : Addr) : Prop := ∃ f fd, Fun K x x st f fd ∧ mg x = some (.ref f) ∧ fd.code = .ref c
section
variable {P : Program} {w : World} {K : PySem.W.Frag} {mg : Str → Option Value} {base : Heap}
theorem mkOkC {x : Str} {st : Stmt} {N ps : List Str} {k : Nat} {sp : Sp} {c : Addr} (D : DefC K mg x st c) (S : FnScope N ps (defScope st))
    (hb : ∀ (kV doc pm : Value) (an : Option Addr) (cdv ct : Value) (us : List Value), us.length = ps.length → bindArgs (PySem.W.fnOf x x (defArgs st) (defBody st) (defScope st) .none kV doc pm an cdv ct) ⟨us, []⟩ = pure (ps.zip us))
    (len : ∀ vs H Q E, sp vs H Q E → vs.length = ps.length)
    (hbody : ∀ (f : Addr) (A : Around) (outer : List Env) (s : Shared) (H : Hp) (vs : List V) (Q : VK) (E : XK), Room k (A.deeper (envOfC x (defScope st) s.heap.objs.size f (.ref c))) → sp vs H Q E →
      ∃ t, PSs (cxOf CX0 P w K mg base N x (defScope st) f (.ref c) A outer s H E).nox (defBody st) t ∧ t { nx := fun _ H' => Q .non H', rt := Q } (start N vs) H) : Ok P w K mg base x (k + 1) ps sp := by
  obtain ⟨f, fd, F, hm, hcode⟩ := D
  refine ⟨f, fd, ?_, F.binds hb, F.kp, hm⟩
  obtain ⟨oc, od, kV, doc, pm, an, cdv, ct, osl, rfl, lk, hcd⟩ := F.ex
  have e : cdv = .ref c := hcode
  subst e
  refine fn_of lk hcd S len fun A outer s H vs Q E hr hsp => ?_
  obtain ⟨t, h, q⟩ := hbody f A outer s H vs Q E hr hsp
  exact ⟨t, h.nox, q⟩
end
noncomputable def EverIs (k : Int) (cs : List Int) (H0 H' : Hp) (a : Addr) : Prop :=
  (∃ l row st, H' a = some (.tup [.str "left", .ref l]) ∧ H0 l = none ∧ Is H' (rowT row) (.ref l) ∧ mLeft k cs row = some st ∧ lvB k st = true ∧ ∀ row' st', mLeft k cs row' = some st' → lvB k st' = true → row.length ≤ row'.length) ∨
  (∃ l ks, H' a = some (.tup [.str "ever", .ref l]) ∧ H0 l = none ∧ Is H' (rowT ks) (.ref l) ∧ ks.Nodup ∧ (∀ st, st ∈ ks ↔ ∃ row, mLeft k cs row = some st) ∧ ∀ st ∈ ks, lvB k st = false)
noncomputable def spEr (tb : Addr) : Sp := fun vs H Q _ => ∃ k cs vm, vs = [vm] ∧ Cnt k cs ∧ Is H (eMt k cs) vm ∧ TbOk tb lmPos lmQual H ∧
  ∀ a H', (∀ b o, b ≠ tb → H b = some o → H' b = some o) → TbOk tb lmPos lmQual H' → EverIs k cs H H' a → Q (.ref a) H'
section
variable {P : Program} {w : World} {K : PySem.W.Frag} {mg : Str → Option Value} {base : Heap}
theorem sc_ever : FnScope ["meeting", "k", "rows", "stand", "row"] ["meeting"] (defScope s_ever) := ⟨rfl, rfl, rfl, by decide +kernel, rfl, by decide +kernel, by decide +kernel⟩
theorem row_keep {H H' : Hp} {a : Addr} {row : List (List Int)} (tp : Tups H H') (h : ∀ xs, H a = some (.lst xs) → H' a = some (.lst xs)) (r : Is H (rowT row) (.ref a)) : Is H' (rowT row) (.ref a) := by
  obtain ⟨a', xs, e, ha, hl⟩ := r
  cases e
  exact ⟨a, xs, rfl, h _ ha, hl.tups tp (fro_row row)⟩
theorem RAt.del {H : Hp} {d c : Addr} {o : Obj} {R : List (En Addr)} (r : RAt H d R) (h : H c = some (kno o)) : RAt (del H c) d R :=
  ⟨by rw [del_ne (fun z => by rw [← z, r.at'] at h; cases h)]; exact r.at', fun x hx => row_keep (del_tups h) (fun xs e => by rw [del_ne (fun z => by rw [z, h] at e; cases e)]; exact e) (r.rows x hx)⟩
theorem ok_ever {c tb : Addr} (B : BMain mg base) (CH : PySem.W.CodeHd base c tb) (D : DefC K mg "ever" s_ever c) (T : Txt K mg) (o1 : Ok P w K mg base "need_counted" 5 ["thing"] spNc) (o2 : Ok P w K mg base "rows_to_all" 5 ["first", "steps", "most"] (spRa mg)) (o3 : Ok P w K mg base "leaves_some" 2 ["k", "stand"] spLv) :
    Ok P w K mg base "ever" 6 ["meeting"] (spEr tb) := by
  refine mkOkC D sc_ever (fun _ _ _ _ _ _ us hl => (match us, hl with | [_], _ => rfl)) (fun vs H Q E ⟨_, _, _, e, _⟩ => by rw [e]; rfl) fun f A outer s H vs Q E hr h => ?_
  obtain ⟨k, cs, vm, rfl, C, hm, hT, q⟩ := h
  obtain ⟨f2, fd2, F2, hb2, hk2, hm2⟩ := o2
  have nd := sc_ever.nd
  refine ⟨_, pss_cons (ps_expr (pe_fn o1 hr (pa_cons (pv 0) pa_nil)))
    (pss_cons (ps_set (i := 1) nd rfl (Or.inr rfl) (pe_ix ix_tup (pv 0) pe_int (fun _ _ => rfl)))
    (pss_cons (ps_set (i := 2) nd rfl (Or.inl rfl) (pe_callC (c := s.heap.objs.size + 1) (i := 1) F2 hr hm2 hk2 hb2 rfl rfl rfl rfl (pa_cons (pe_ix ix_tup (pv 0) pe_int (fun _ _ => rfl)) (pa_cons (pe_lam (clos := [("k", s.heap.objs.size + 1)]) B CH rfl rfl rfl) (pa_cons (pe_cst T.MS) pa_nil)))))
    (pss_cons (ps_frz (ps_for PassesOwn.never rfl (pi_items (pv 2)) (pg_tup rfl (pgs_cons (pg_name (i := 3) nd rfl (Or.inl rfl)) (pgs_cons (pg_name (i := 4) nd rfl (Or.inl rfl)) pgs_nil)))
      (pss_one (ps_if (pt_val (pe_fn o3 (hr.mono (show 2 ≤ 5 by decide)) (pa_cons (pv 1) (pa_cons (pv 3) pa_nil)))) (pss_one (ps_ret (pe_tupR (pa_cons pe_str (pa_cons (pv 4) pa_nil))))) pss_nil))))
    (pss_one (ps_ret (pe_tupR (pa_cons pe_str (pa_cons (pe_callTy (call_listT rfl) rfl T.list bt_list (pa_cons (pv 2) pa_nil)) pa_nil)))))))), ?_⟩
  have k1 := C.k1
  have n5 := C.n5
  refine ⟨_, rfl, k, cs, vm, rfl, C, hm, fun H1 s1 => ?_⟩
  obtain ⟨am, vc, rfl, ham, ic⟩ := mt_open (hm.mono s1)
  refine ⟨_, rfl, am, _, _, _, rfl, rfl, SqT.of ham, at0, ?_⟩
  refine ⟨_, rfl, am, _, _, _, rfl, rfl, SqT.of ham, at1, hT.same s1, fun fl c' occ ctv H2 b2 hT2 hc' ho hfl0 hfl => ?_⟩
  refine ⟨k, rfl, fun oc tk hoc hcn => ?_⟩
  have tbl1 : ∃ ps, H1 tb = some (.tbl ps) := by
    obtain ⟨ps, h, _⟩ := hT.same s1
    exact ⟨ps, h⟩
  obtain ⟨ps1, hps1⟩ := tbl1
  have tp12 : Tups H1 H2 := fun b xs e => b2 b _ (fun z => by rw [z, hps1] at e; cases e) e
  have ic2 := ic.tups tp12 (fro_tI cs)
  have s23 := Same.new hcn (kno oc)
  have hfl3 := s23 _ _ hfl
  have hc3 := s23 _ _ hc'
  refine ⟨k, cs, vc, fl, s.heap.objs.size + 1, rfl, ic2.mono s23, C, ⟨c', ctv, oc, occ, tk, hfl3, hc3, ho, upd_same, hoc⟩, fun d R H4 s4 hd0 hR hfz bd hcK => ?_⟩
  have fr0 : ∀ l, H2 l = none → H l = none := fun l h => by
    cases e : H l with
    | none => rfl
    | some o =>
      by_cases n : l = tb
      · obtain ⟨ps2, h2, _⟩ := hT2
        rw [n, h2] at h
        cases h
      · rw [b2 l o n (s1 _ _ e)] at h
        cases h
  have hfz : ∀ r ∈ R, H r.2.2 = none := fun r hr => fr0 _ (sm_none s23 (hfz r hr))
  have hR5 := hR.del hcK
  have s25 : Same H2 (del H4 (s.heap.objs.size + 1)) := fun b o e => by
    rw [del_ne (ne_of_none e hcn)]
    exact s4 _ _ (s23 _ _ e)
  generalize del H4 (s.heap.objs.size + 1) = H5 at hR5 s25 ⊢
  clear hR hcK s4 hd0 s23 hfl3 hc3
  have b5 : ∀ b o, b ≠ tb → H b = some o → H5 b = some o := fun b o n e => s25 _ _ (b2 b o n (s1 _ _ e))
  have hT5 := hT2.same s25
  have hd5 := hR5.at'
  refine ⟨d, .dT (kvE R), hd5, trivial, fun o => ?_⟩
  have sF : ∀ {H' : Hp}, Same (upd H5 d (.frz o (.dT (kvE R)))) H' → H' d = some (.frz o (.dT (kvE R))) ∧ Same H5 (upd H' d (.dT (kvE R))) ∧ Tups H5 H' := fun {H'} s' => by
    have hat := s' _ _ upd_same
    have ne : ∀ b u, b ≠ d → H5 b = some u → H' b = some u := fun b u n e => s' _ _ (by rw [upd_ne n]; exact e)
    refine ⟨hat, fun b u e => ?_, fun b xs e => ne b _ (ne_of e hd5 (fun z => by cases z)) e⟩
    by_cases z : b = d
    · rw [z] at e ⊢
      rw [hd5] at e
      cases e
      exact upd_same
    · rw [upd_ne z]
      exact ne b u z e
  refine ⟨_, rfl, d, o, kvE R, rfl, upd_same, ?_⟩
  refine for_items (fun i σ H' => ∃ x3 x4, σ = [some (.ref am), some (.int k), some (.ref d), x3, x4] ∧ Same (upd H5 d (.frz o (.dT (kvE R)))) H' ∧ ∀ r ∈ R.take i, lvB k r.1 = false) ⟨_, _, rfl, Same.refl _, fun r h => (by cases h)⟩ (fun i σ H' _ ⟨_, _, _, s', _⟩ => (sF s').1) ?_ ?_
  · rintro i kv σ H6 hkv ⟨x3, x4, rfl, s6, hlv⟩ p b hp hb
    unfold kvE at hkv
    rw [List.getElem?_map] at hkv
    cases er : R[i]? with
    | none => rw [er] at hkv; cases hkv
    | some r =>
    rw [er] at hkv
    cases hkv
    have hr := List.mem_of_getElem? er
    have hb : H6 b = some (.tup (r.1.map V.int)) := by rw [← kI_kV]; exact hb
    have s7 := Same.new hp (.tup [.ref b, .ref r.2.2])
    have g7 : upd H6 p (.tup [.ref b, .ref r.2.2]) p = some (.tup [.ref b, .ref r.2.2]) := upd_same
    generalize upd H6 p (.tup [.ref b, .ref r.2.2]) = H7 at s7 g7 ⊢
    refine ⟨p, _, rfl, SqT.of g7, rfl, _, _, rfl, _, _, rfl, rfl, ?_⟩
    have ib : Is H7 (tI r.1) (.ref b) := ⟨b, _, rfl, s7 _ _ hb, IsL.ints.mpr rfl⟩
    have hrl := (left_sum k1 (bd.way r hr)).2.1
    refine ⟨_, rfl, _, rfl, k, r.1, .ref b, rfl, ib, by omega, fun H8 s8 => ⟨_, rfl, ?_⟩⟩
    have s68 := s6.trans (s7.trans s8)
    refine ite2 (fun z => ?_) (fun z => ?_)
    · refine ⟨_, rfl, by show 2 ≤ 1000; decide, fun a H9 s9 ha g9 => ?_⟩
      obtain ⟨h1, h2, h3⟩ := sF (s68.trans s9)
      refine ⟨h1, q a _ (fun b' o' n e => h2 _ _ (b5 b' o' n e)) (hT5.same h2) (.inl ⟨r.2.2, r.2.1, r.1, ?_, hfz r hr, (hR5.rows r hr).mono h2, bd.way r hr, z, fun row' st' hw' hl' => ?_⟩)⟩
      · rw [upd_ne (ne_of g9 h1 (fun z => by cases z))]
        exact g9
      · obtain ⟨r', hr', e'⟩ := mem_keysE.mp (bd.all row' st' hw')
        have hi : i < R.length := (List.getElem?_eq_some_iff.mp er).1
        have eR : R[i] = r := (List.getElem?_eq_some_iff.mp er).2
        obtain ⟨j, hj, ej⟩ := List.mem_iff_getElem.mp hr'
        have hij : i ≤ j := by
          by_cases y : i ≤ j
          · exact y
          · exfalso
            have hm' : r' ∈ R.take i := by rw [← ej]; exact List.mem_take_iff_getElem.mpr ⟨j, by omega, rfl⟩
            have := hlv r' hm'
            rw [e', hl'] at this
            cases this
        have hle : r.2.1.length ≤ r'.2.1.length := by
          rcases Nat.lt_or_eq_of_le hij with y | y
          · have := List.pairwise_iff_getElem.mp bd.ord i j hi hj y
            rw [eR, ej] at this
            exact this
          · subst y
            rw [← ej, eR]
            exact Nat.le_refl _
        have w1 := (left_sum k1 (bd.way r' hr')).1
        have w2 := (left_sum k1 hw').1
        rw [e'] at w1
        have w3 : k * (r'.2.1.length : Int) = k * (row'.length : Int) := by omega
        have w4 := Int.eq_of_mul_eq_mul_left (by omega) w3
        omega
    · refine ⟨_, _, rfl, s68, fun r' hr' => ?_⟩
      rw [List.take_add_one, er] at hr'
      rcases List.mem_append.mp hr' with y | y
      · exact hlv r' y
      · have y : r' ∈ [r] := y
        rw [List.mem_singleton.mp y]
        cases y2 : lvB k r.1 with
        | false => rfl
        | true => exact absurd y2 z
  · rintro σ H6 ⟨x3, x4, rfl, s6, hlv⟩
    have ekl : (kvE R).length = R.length := by unfold kvE; rw [List.length_map]
    rw [ekl, List.take_length] at hlv
    obtain ⟨h1, h2, h3⟩ := sF s6
    refine ⟨h1, ?_⟩
    generalize upd H6 d (.dT (kvE R)) = H7 at h2 ⊢
    have hR7 := hR5.same h2
    refine ⟨_, rfl, d, keysE R, rfl, hR7.d, fun ys l H8 s8 hl g8 i8 => ?_⟩
    refine ⟨by show 2 ≤ 1000; decide, fun a H9 s9 ha g9 => ?_⟩
    have s79 := s8.trans s9
    refine q a H9 (fun b' o' n e => s79 _ _ (h2 _ _ (b5 b' o' n e))) (hT5.same (h2.trans s79)) (.inr ⟨l, keysE R, g9, fr0 l (sm_none (s25.trans h2) hl), ⟨l, ys, rfl, s9 _ _ g8, i8.mono s9⟩, bd.nd, fun st => ⟨fun h => ?_, fun ⟨row, h⟩ => bd.all row st h⟩, fun st h => ?_⟩)
    · obtain ⟨r, hr, rfl⟩ := mem_keysE.mp h
      exact ⟨r.2.1, bd.way r hr⟩
    · obtain ⟨r, hr, rfl⟩ := mem_keysE.mp h
      exact hlv r hr
end
end My

namespace My
open PySem PySem.Spec PyProof.Rows L2
theorem bt_any : bootBuiltins "any" = some (.builtin "any") := by decide +kernel
abbrev s_standLike : Stmt := top 27
abbrev s_closedAt : Stmt := top 28
abbrev s_areEver : Stmt := top 29
noncomputable def likeB (cs g : List Int) : Bool := decide (g.length = cs.length) && g.all fun c => decide (0 ≤ c) && decide (c ≤ 4)
noncomputable def clB (k : Int) (L : List (List Int)) (st : List Int) : Bool := (gP k st).all fun g => decide (mMet st g ∈ L)
noncomputable def mEver (k : Int) (cs : List Int) (L : List (List Int)) : Bool := L.all (likeB cs) && (decide L.Nodup && (decide (cs ∈ L) && (!(L.any (lvB k)) && L.all (clB k L))))
structure Rb (H : Hp) (l : Addr) (row : List (List Int)) : Prop where
  at' : ∃ xs, H l = some (.lst xs) ∧ IsL H (row.map tI) xs
  few : row.length ≤ 7000
  short : ∀ g ∈ row, g.length ≤ 100
theorem Rb.same {H H' : Hp} {l : Addr} {row : List (List Int)} (r : Rb H l row) (s : Same H H') : Rb H' l row := by
  obtain ⟨xs, e, i⟩ := r.at'
  exact ⟨⟨xs, s _ _ e, i.mono s⟩, r.few, r.short⟩
theorem Rb.of {H : Hp} {l : Addr} {row : List (List Int)} (h : Is H (rowT row) (.ref l)) (h1 : row.length ≤ 7000) (h2 : ∀ g ∈ row, g.length ≤ 100) : Rb H l row := by
  obtain ⟨a, xs, e, ha, hl⟩ := h
  cases e
  exact ⟨⟨xs, ha, hl⟩, h1, h2⟩
theorem Rb.is {H : Hp} {l : Addr} {row : List (List Int)} (r : Rb H l row) : Is H (rowT row) (.ref l) := by
  obtain ⟨xs, e, i⟩ := r.at'
  exact ⟨l, xs, rfl, e, i⟩
theorem Rb.ty {K : PySem.W.Frag} {H : Hp} {l : Addr} {row : List (List Int)} (r : Rb H l row) : TyOf K H (.ref l) (.type "list") := Is.ty r.is
theorem PrAt.same {H H' : Hp} {b : Addr} {r : List Int × V} (p : PrAt H b r) (s : Same H H') : PrAt H' b r := let ⟨kb, h1, h2⟩ := p; ⟨kb, s _ _ h1, s _ _ h2⟩
theorem paired_snoc {α β : Type} {R : α → β → Prop} {xs : List α} {ys : List β} {x : α} {y : β} (h : Paired R xs ys) (r : R x y) : Paired R (xs ++ [x]) (ys ++ [y]) := by
  induction h with
  | nil => exact .cons r .nil
  | cons a _ ih => exact .cons a ih
noncomputable def spSl : Sp := fun vs H Q _ => ∃ cs g vc v, vs = [vc, v] ∧ Is H (tI cs) vc ∧ Is H (tI g) v ∧ g.length ≤ 100 ∧ ∀ H', Same H H' → Q (.bl (likeB cs g)) H'
noncomputable def spCl : Sp := fun vs H Q _ => ∃ k cs v d ks, vs = [.int k, v, .ref d] ∧ Is H (tI cs) v ∧ cs.length ≤ 5 ∧ DAt H d ks ∧ ∀ H', Same H H' → Q (.bl (clB k ks cs)) H'
noncomputable def spAe : Sp := fun vs H Q _ => ∃ k cs vm l L, vs = [vm, .ref l] ∧ Cnt k cs ∧ Is H (eMt k cs) vm ∧ Rb H l L ∧ ∀ H', Same H H' → Q (.bl (mEver k cs L)) H'
section
variable {P : Program} {w : World} {K : PySem.W.Frag} {mg : Str → Option Value} {base : Heap}
theorem sc_standLike : FnScope ["counts", "thing"] ["counts", "thing"] (defScope s_standLike) := ⟨rfl, rfl, rfl, by decide +kernel, rfl, by decide +kernel, by decide +kernel⟩
theorem ok_standLike (D : Def K mg "is_stand_like" s_standLike) (T : Txt K mg) (o1 : Ok P w K mg base "is_tuple_within" 1 ["thing", "least", "most"] spTw) (o2 : Ok P w K mg base "are_wanted" 3 ["counts"] (spB1 ShortT mWant)) : Ok P w K mg base "is_stand_like" 4 ["counts", "thing"] spSl := by
  refine mkOk D sc_standLike (fun _ _ _ _ _ _ us hl => (match us, hl with | [_, _], _ => rfl)) (fun vs H Q E ⟨_, _, _, _, e, _⟩ => by rw [e]; rfl) fun f cdv A outer s H vs Q E hr h => ?_
  obtain ⟨cs, g, vc, v, rfl, hc, hv, hg, q⟩ := h
  refine ⟨_, pss_one (ps_ret (pe_and (pe_fn o1 (hr.mono (show 1 ≤ 3 by decide)) (pa_cons (pv 1) (pa_cons (pe_callB call_len_seq rfl T.len bt_len (pa_cons (pv 0) pa_nil)) (pa_cons (pe_callB call_len_seq rfl T.len bt_len (pa_cons (pv 0) pa_nil)) pa_nil)))) (pe_one (pe_fn o2 hr (pa_cons (pv 1) pa_nil))))), ?_⟩
  obtain ⟨a, rfl, ha⟩ := tI_open hc
  refine ⟨_, rfl, _, rfl, a, _, rfl, .inr (SqT.of ha), _, rfl, a, _, rfl, .inr (SqT.of ha), tI g, v, _, _, rfl, hv, fun H1 s1 => ⟨_, rfl, ?_⟩⟩
  rw [List.length_map]
  have e1 : mTupW (tI g) (cs.length : Int) (cs.length : Int) = decide (g.length = cs.length) := by
    show (decide ((cs.length : Int) ≤ ((iT g).length : Int)) && decide (((iT g).length : Int) ≤ (cs.length : Int))) = _
    rw [iT_length]
    by_cases c : g.length = cs.length
    · rw [c]; simp
    · rw [decide_eq_false c]
      by_cases d : (cs.length : Int) ≤ (g.length : Int)
      · rw [decide_eq_false (p := (g.length : Int) ≤ (cs.length : Int)) (by omega), Bool.and_false]
      · rw [decide_eq_false d, Bool.false_and]
  have e2 : mWant (tI g) = g.all fun c => decide (0 ≤ c) && decide (c ≤ 4) := by
    show ((iT g).all fun d => mWithin d 0 4) = _
    unfold iT
    rw [List.all_map]
    rfl
  unfold likeB at q
  rw [e1]
  refine ite2 (fun z => ?_) (fun z => ?_)
  · rw [z, Bool.true_and] at q
    refine ⟨_, rfl, tI g, v, rfl, hv.mono s1, ⟨iT g, rfl, by rw [iT_length]; omega⟩, fun H2 s2 => ?_⟩
    rw [e2]
    exact q H2 (s1.trans s2)
  · have z : decide (g.length = cs.length) = false := by simpa using z
    rw [z, Bool.false_and] at q
    exact q H1 s1
theorem sc_closedAt : FnScope ["k", "stand", "listed"] ["k", "stand", "listed"] (defScope s_closedAt) := ⟨rfl, rfl, rfl, by decide +kernel, rfl, by decide +kernel, by decide +kernel⟩
theorem ok_closedAt (D : Def K mg "is_closed_at" s_closedAt) (T : Txt K mg) (o1 : Ok P w K mg base "steps_from" 3 ["k", "stand"] spSf) : Ok P w K mg base "is_closed_at" 4 ["k", "stand", "listed"] spCl := by
  refine mkOk D sc_closedAt (fun _ _ _ _ _ _ us hl => (match us, hl with | [_, _, _], _ => rfl)) (fun vs H Q E ⟨_, _, _, _, _, e, _⟩ => by rw [e]; rfl) fun f cdv A outer s H vs Q E hr h => ?_
  obtain ⟨k, cs, v, d, ks, rfl, hv, h5, hd, q⟩ := h
  have ndc : (["group", "stand_behind", "listed"] : List Str).Nodup := by decide +kernel
  have hun := hr.units
  refine ⟨_, pss_one (ps_ret (pe_callB (call_all rfl) rfl T.all bt_all (pa_cons (pe_lc (own := ["group", "stand_behind"]) (cap := [2]) (g := gTup K 2 (gCons (gName 0) (gCons (gName 1) gNil))) rfl (lcScope (defScope s_closedAt) rfl rfl (by decide +kernel) (by decide +kernel) (by decide +kernel) ⟨⟨_, rfl, .inl rfl, noLoc rfl⟩, trivial⟩) (pi_list (pe_fn o1 hr (pa_cons (pv 0) (pa_cons (pv 1) pa_nil))))
      (fun _ _ _ _ => pg_tup rfl (pgs_cons (pg_name (i := 0) ndc rfl (Or.inl rfl)) (pgs_cons (pg_name (i := 1) ndc rfl (Or.inl rfl)) pgs_nil))) (fun _ _ _ _ => pif_nil)
      (fun _ _ _ _ => pe_cmp (pc_din (Nat.lt_of_le_of_lt (Nat.add_le_add_left (by decide : 1 ≤ 64) _) hun) (pv 1) (pv 2)))) pa_nil))), ?_⟩
  refine ⟨_, rfl, _, rfl, k, cs, v, rfl, hv, h5, fun l xs H1 s1 _ g1 i1 => ?_⟩
  have hxl := i1.length
  rw [List.length_map] at hxl
  have hfew := gP_few (k := k) h5
  refine ⟨l, rfl, ⟨_, SqL.of g1⟩, ?_⟩
  refine lc_list (xs := xs) (fun i ys H' => Same H1 H' ∧ ys = (((gP k cs).take i).map fun g => decide (mMet cs g ∈ ks)).map V.bl) ⟨Same.refl H1, rfl⟩ (fun i ys H' hi ⟨s2, e⟩ => ⟨SqL.of (s2 _ _ g1), by rw [e, List.length_map, List.length_map, List.length_take]; exact small_le (by omega)⟩) ?_ ?_
  · rintro i x ys H2 hx ⟨s2, rfl⟩
    obtain ⟨t, ht, it⟩ := (i1.mono s2).get' hx
    rw [List.getElem?_map] at ht
    cases eg : (gP k cs)[i]? with
    | none => rw [eg] at ht; cases ht
    | some g =>
      rw [eg] at ht
      cases ht
      obtain ⟨b, zs, rfl, hb, vg, r1, rfl, ig, vm, r2, rfl, im, hnil⟩ := it
      cases (show r2 = [] from hnil)
      refine ⟨b, _, rfl, SqT.of hb, rfl, _, _, rfl, _, _, rfl, rfl, ?_⟩
      refine if0 ?_
      obtain ⟨am, rfl, _⟩ := tI_open im
      obtain ⟨o, hg, ho⟩ := (hd.same (s1.trans s2)).get im
      refine ⟨_, rfl, _, rfl, d, o, rfl, hg, s2, ?_⟩
      rw [ho, List.take_add_one, eg, List.map_append, List.map_append]
      rfl
  · rintro ys H2 ⟨s2, rfl⟩ p hp
    refine ⟨p, _, rfl, SqL.of upd_same, ?_⟩
    rw [hxl, List.take_length, List.all_map]
    exact q _ (s1.trans (s2.trans (Same.new hp _)))
theorem sc_areEver : FnScope ["meeting", "stands", "k", "counts", "listed"] ["meeting", "stands"] (defScope s_areEver) := ⟨rfl, rfl, rfl, by decide +kernel, rfl, by decide +kernel, by decide +kernel⟩
theorem ok_areEver (D : Def K mg "are_ever" s_areEver) (T : Txt K mg) (o1 : Ok P w K mg base "need_counted" 5 ["thing"] spNc) (o2 : Ok P w K mg base "is_stand_like" 4 ["counts", "thing"] spSl) (o3 : Ok P w K mg base "leaves_some" 2 ["k", "stand"] spLv) (o4 : Ok P w K mg base "is_closed_at" 4 ["k", "stand", "listed"] spCl) : Ok P w K mg base "are_ever" 6 ["meeting", "stands"] spAe := by
  refine mkOk D sc_areEver (fun _ _ _ _ _ _ us hl => (match us, hl with | [_, _], _ => rfl)) (fun vs H Q E ⟨_, _, _, _, _, e, _⟩ => by rw [e]; rfl) fun f cdv A outer s H vs Q E hr h => ?_
  obtain ⟨k, cs, vm, l, L, rfl, C, hm, R, q⟩ := h
  have nd := sc_areEver.nd
  have hun := hr.units
  have r4 := hr.mono (show 4 ≤ 5 by decide)
  have r2 := hr.mono (show 2 ≤ 5 by decide)
  refine ⟨_, pss_cons (ps_expr (pe_fn o1 hr (pa_cons (pv 0) pa_nil)))
    (pss_cons (ps_set (i := 2) nd rfl (Or.inr rfl) (pe_ix ix_tup (pv 0) pe_int (fun _ _ => rfl)))
    (pss_cons (ps_set (i := 3) nd rfl (Or.inr rfl) (pe_ix ix_tup (pv 0) pe_int (fun _ _ => rfl)))
    (pss_cons (ps_if (PW.pt (pw_or (pt_not (pt_val (pe_isi T.isi T.list bt_list (pv 1)))) (pw_or1 (pt_not (pt_val (pe_callB (call_all rfl) rfl T.all bt_all (pa_cons (pe_lc (own := ["stand"]) (cap := [3]) rfl (lcScope (defScope s_areEver) rfl rfl (by decide +kernel) (by decide +kernel) (by decide +kernel) ⟨⟨_, rfl, .inl rfl, noLoc rfl⟩, trivial⟩) (pi_list (pv 1))
        (fun _ _ _ _ => pg_name (i := 0) (by show (["stand", "counts"] : List Str).Nodup; decide +kernel) rfl (Or.inl rfl)) (fun _ _ _ _ => pif_nil) (fun _ _ _ _ => pe_fn o2 r4 (pa_cons (pv 1) (pa_cons (pv 0) pa_nil)))) pa_nil))))))) (pss_one (ps_ret pe_bl)) pss_nil)
    (pss_cons (ps_set (i := 4) nd rfl (Or.inr rfl) (pe_callTy (call_dictT rfl (Nat.lt_of_le_of_lt (Nat.add_le_add_left (by decide : 8 ≤ 64) _) hun)) rfl T.dict bt_dict (pa_cons (pe_lc (own := ["stand"]) (cap := []) rfl (lcScope (defScope s_areEver) rfl rfl (by decide +kernel) (by decide +kernel) (by decide +kernel) trivial) (pi_list (pv 1))
        (fun _ _ _ _ => pg_name (i := 0) (by show (["stand"] : List Str).Nodup; decide +kernel) rfl (Or.inl rfl)) (fun _ _ _ _ => pif_nil) (fun _ _ _ _ => pe_tupR (pa_cons (pv 0) (pa_cons pe_bl pa_nil)))) pa_nil)) (hs := by with_unfolding_all rfl))
    (pss_cons (ps_if (PW.pt (pw_or (pt_cmpR op_ne (pe_callB call_lenT rfl T.len bt_len (pa_cons (pv 4) pa_nil)) (pe_callB call_len_seq rfl T.len bt_len (pa_cons (pv 1) pa_nil)) (nomark _)) (pw_or (pt_cmp (pc_dnotin (Nat.lt_of_le_of_lt (Nat.add_le_add_left (by decide : 1 ≤ 64) _) hun) (pv 3) (pv 4))) (pw_or1 (pt_val (pe_callB (call_any rfl) rfl T.any bt_any (pa_cons (pe_lc (own := ["stand"]) (cap := [2]) rfl (lcScope (defScope s_areEver) rfl rfl (by decide +kernel) (by decide +kernel) (by decide +kernel) ⟨⟨_, rfl, .inl rfl, noLoc rfl⟩, trivial⟩) (pi_list (pv 1))
        (fun _ _ _ _ => pg_name (i := 0) (by show (["stand", "k"] : List Str).Nodup; decide +kernel) rfl (Or.inl rfl)) (fun _ _ _ _ => pif_nil) (fun _ _ _ _ => pe_fn o3 r2 (pa_cons (pv 1) (pa_cons (pv 0) pa_nil)))) pa_nil))))))) (pss_one (ps_ret pe_bl)) pss_nil)
    (pss_one (ps_ret (pe_callB (call_all rfl) rfl T.all bt_all (pa_cons (pe_lc (own := ["stand"]) (cap := [2, 4]) rfl (lcScope (defScope s_areEver) rfl rfl (by decide +kernel) (by decide +kernel) (by decide +kernel) ⟨⟨_, rfl, .inl rfl, noLoc rfl⟩, ⟨_, rfl, .inl rfl, noLoc rfl⟩, trivial⟩) (pi_list (pv 1))
        (fun _ _ _ _ => pg_name (i := 0) (by show (["stand", "k", "listed"] : List Str).Nodup; decide +kernel) rfl (Or.inl rfl)) (fun _ _ _ _ => pif_nil) (fun _ _ _ _ => pe_fn o4 r4 (pa_cons (pv 1) (pa_cons (pv 0) (pa_cons (pv 2) pa_nil))))) pa_nil))))))))), ?_⟩
  have n5 := C.n5
  have few := R.few
  refine ⟨_, rfl, k, cs, vm, rfl, C, hm, fun H1 s1 => ?_⟩
  obtain ⟨am, vc, rfl, ham, ic⟩ := mt_open (hm.mono s1)
  have at0 : ∀ {x y : V}, atI ([x, y] : List V) 0 = some x := fun {x y} => (show atI ([x, y] : List V) ((0 : Nat) : Int) = _ from atI_nat rfl)
  have at1 : ∀ {x y : V}, atI ([x, y] : List V) 1 = some y := fun {x y} => (show atI ([x, y] : List V) ((1 : Nat) : Int) = _ from atI_nat rfl)
  refine ⟨_, rfl, am, _, _, _, rfl, rfl, SqT.of ham, at0, ?_⟩
  refine ⟨_, rfl, am, _, _, _, rfl, rfl, SqT.of ham, at1, ?_⟩
  refine ⟨_, rfl, _, "list", _, _, rfl, (R.same s1).ty, kit_list, _, rfl, iteF ?_⟩
  obtain ⟨xs, hl, ixs⟩ := (R.same s1).at'
  have hxl := ixs.length
  rw [List.length_map] at hxl
  unfold mEver at q
  refine ⟨_, rfl, l, rfl, ⟨_, SqL.of hl⟩, ?_⟩
  refine lc_list (xs := xs) (fun i ys H' => Same H1 H' ∧ ys = ((L.take i).map (likeB cs)).map V.bl) ⟨Same.refl H1, rfl⟩ (fun i ys H' hi ⟨s2, e⟩ => ⟨SqL.of (s2 _ _ hl), by rw [e, List.length_map, List.length_map, List.length_take]; exact big_le (by omega)⟩) ?_ ?_
  · rintro i x ys H' hx ⟨s2, rfl⟩
    refine gIf0 ?_
    obtain ⟨g, eg, ig⟩ := get_tI (ixs.mono s2) hx
    refine ⟨_, rfl, _, rfl, cs, g, vc, x, rfl, ic.mono s2, ig, R.short g (List.mem_of_getElem? eg), fun H3 s3 => ⟨s2.trans s3, ?_⟩⟩
    rw [List.take_add_one, eg, List.map_append, List.map_append]
    rfl
  rintro ys H2 ⟨s2, rfl⟩ p2 hp2
  rw [hxl, List.take_length]
  have s3 := Same.new hp2 (.lst ((L.map (likeB cs)).map V.bl))
  have g3 : upd H2 p2 (.lst ((L.map (likeB cs)).map V.bl)) p2 = some (.lst ((L.map (likeB cs)).map V.bl)) := upd_same
  generalize upd H2 p2 (.lst ((L.map (likeB cs)).map V.bl)) = H3 at s3 g3 ⊢
  have s13 := s2.trans s3
  refine ⟨p2, _, rfl, SqL.of g3, _, rfl, ?_⟩
  rw [List.all_map]
  by_cases z1 : L.all (likeB cs) = true
  rotate_left
  · have z1 : L.all (likeB cs) = false := by simpa using z1
    have e : L.all (id ∘ likeB cs) = false := z1
    rw [e]
    rw [z1, Bool.false_and] at q
    exact iteT (q H3 (s1.trans s13))
  have e : L.all (id ∘ likeB cs) = true := z1
  rw [e]
  rw [z1, Bool.true_and] at q
  refine iteF ?_
  have hlike : ∀ g ∈ L, g.length = cs.length := fun g hg => by
    have := (List.all_eq_true.mp z1) g hg
    unfold likeB at this
    rw [Bool.and_eq_true] at this
    exact of_decide_eq_true this.1
  -- listed
  have hl3 := s13 _ _ hl
  refine ⟨_, rfl, l, rfl, ⟨_, SqL.of hl3⟩, ?_⟩
  refine lc_list (xs := xs) (fun i ys H' => Same H3 H' ∧ ∃ bs : List Addr, ys = bs.map V.ref ∧ Paired (PrAt H') bs ((L.take i).map fun g => (g, V.bl true))) ⟨Same.refl H3, [], rfl, .nil⟩ (fun i ys H' hi ⟨s', bs, e, pp⟩ => ⟨SqL.of (s' _ _ hl3), ?_⟩) ?_ ?_
  · have := Paired.length pp
    rw [e, List.length_map, this, List.length_map, List.length_take]
    exact big_le (by omega)
  · rintro i x ys H' hx ⟨s', bs, rfl, pp⟩
    refine gIf0 ?_
    obtain ⟨g, eg, ig⟩ := get_tI (ixs.mono (s13.trans s')) hx
    obtain ⟨kb, rfl, hkb⟩ := tI_open ig
    refine ⟨_, rfl, by show 2 ≤ 1000; decide, fun b4 H4 s4 _ g4 => ⟨s'.trans s4, bs ++ [b4], ?_, ?_⟩⟩
    · rw [List.map_append]; rfl
    · rw [List.take_add_one, eg, List.map_append]
      exact paired_snoc (Paired.mapP pp fun b r hp => PrAt.same hp s4) ⟨kb, g4, s4 _ _ hkb⟩
  rintro ys H4 ⟨s4, bs, rfl, pp⟩ p4 hp4
  rw [hxl, List.take_length] at pp
  have s5 := Same.new hp4 (.lst (bs.map V.ref))
  have g5 : upd H4 p4 (.lst (bs.map V.ref)) p4 = some (.lst (bs.map V.ref)) := upd_same
  generalize upd H4 p4 (.lst (bs.map V.ref)) = H5 at s5 g5 ⊢
  refine ⟨p4, bs, _, rfl, g5, Paired.mapP pp fun b r hp => PrAt.same hp s5, fun d H6 s6 hd0 hD => ?_⟩
  have ek : (L.map fun g => (g, V.bl true)).map (·.1) = L := by rw [List.map_map]; exact List.map_id' L
  rw [ek] at hD
  have s16 := s13.trans (s4.trans (s5.trans s6))
  have hl6 := s16 _ _ hl
  -- the test
  refine ⟨_, rfl, d, _, rfl, hD, _, rfl, l, _, rfl, .inl (SqL.of hl6), rfl, _, rfl, ?_⟩
  rw [hxl]
  have ednd : (!decide (V.int (((dedup L).length : Nat) : Int) = V.int ((L.length : Nat) : Int))) = !decide L.Nodup := by
    congr 1
    rw [decide_eq_decide, ← dedup_len]
    constructor
    · intro h
      injection h with h
      omega
    · intro h
      rw [h]
  rw [ednd]
  by_cases z2 : L.Nodup
  rotate_left
  · rw [decide_eq_false z2, Bool.false_and] at q
    rw [decide_eq_false z2]
    exact iteT (iteT (q H6 (s1.trans s16)))
  rw [decide_eq_true z2, Bool.true_and] at q
  rw [decide_eq_true z2]
  refine iteF ?_
  have ic6 := ic.mono s16
  obtain ⟨ac, rfl, _⟩ := tI_open ic6
  obtain ⟨o, hg, ho⟩ := hD.get ic6
  have ho : o.isSome = decide (cs ∈ L) := by
    rw [ho, decide_eq_decide]
    exact mem_dedup
  refine ⟨_, rfl, _, rfl, d, o, rfl, hg, _, rfl, ?_⟩
  rw [ho]
  by_cases z3 : cs ∈ L
  rotate_left
  · rw [decide_eq_false z3, Bool.false_and] at q
    rw [decide_eq_false z3]
    exact iteT (iteT (q H6 (s1.trans s16)))
  rw [decide_eq_true z3, Bool.true_and] at q
  rw [decide_eq_true z3]
  refine iteF ?_
  refine ⟨_, rfl, l, rfl, ⟨_, SqL.of hl6⟩, ?_⟩
  refine lc_list (xs := xs) (fun i ys H' => Same H6 H' ∧ ys = ((L.take i).map (lvB k)).map V.bl) ⟨Same.refl H6, rfl⟩ (fun i ys H' hi ⟨s2, e⟩ => ⟨SqL.of (s2 _ _ hl6), by rw [e, List.length_map, List.length_map, List.length_take]; exact big_le (by omega)⟩) ?_ ?_
  · rintro i x ys H' hx ⟨s2, rfl⟩
    refine gIf0 ?_
    obtain ⟨g, eg, ig⟩ := get_tI (ixs.mono (s16.trans s2)) hx
    have hgl := hlike g (List.mem_of_getElem? eg)
    refine ⟨_, rfl, _, rfl, k, g, x, rfl, ig, by omega, fun H3 s3 => ⟨s2.trans s3, ?_⟩⟩
    rw [List.take_add_one, eg, List.map_append, List.map_append]
    rfl
  rintro ys H7 ⟨s7, rfl⟩ p7 hp7
  rw [hxl, List.take_length]
  have s8 := Same.new hp7 (.lst ((L.map (lvB k)).map V.bl))
  have g8 : upd H7 p7 (.lst ((L.map (lvB k)).map V.bl)) p7 = some (.lst ((L.map (lvB k)).map V.bl)) := upd_same
  generalize upd H7 p7 (.lst ((L.map (lvB k)).map V.bl)) = H8 at s8 g8 ⊢
  have s68 := s7.trans s8
  have s18 := s16.trans s68
  refine ⟨p7, _, rfl, SqL.of g8, _, rfl, ?_⟩
  rw [List.any_map]
  have e2 : L.any (id ∘ lvB k) = L.any (lvB k) := rfl
  rw [e2]
  by_cases z4 : L.any (lvB k) = true
  · rw [z4] at q ⊢
    exact iteT (q H8 (s1.trans s18))
  have z4 : L.any (lvB k) = false := by simpa using z4
  rw [z4] at q ⊢
  refine iteF ?_
  have hl8 := s18 _ _ hl
  have hD8 := hD.same s68
  refine ⟨_, rfl, l, rfl, ⟨_, SqL.of hl8⟩, ?_⟩
  refine lc_list (xs := xs) (fun i ys H' => Same H8 H' ∧ ys = ((L.take i).map (clB k (dedup L))).map V.bl) ⟨Same.refl H8, rfl⟩ (fun i ys H' hi ⟨s2, e⟩ => ⟨SqL.of (s2 _ _ hl8), by rw [e, List.length_map, List.length_map, List.length_take]; exact big_le (by omega)⟩) ?_ ?_
  · rintro i x ys H' hx ⟨s2, rfl⟩
    refine gIf0 ?_
    obtain ⟨g, eg, ig⟩ := get_tI (ixs.mono (s18.trans s2)) hx
    have hgl := hlike g (List.mem_of_getElem? eg)
    refine ⟨_, rfl, _, rfl, _, rfl, k, g, x, d, dedup L, rfl, ig, by omega, hD8.same s2, fun H3 s3 => ⟨s2.trans s3, ?_⟩⟩
    rw [List.take_add_one, eg, List.map_append, List.map_append]
    rfl
  rintro ys H9 ⟨s9, rfl⟩ p9 hp9
  rw [hxl, List.take_length]
  refine ⟨p9, _, rfl, SqL.of upd_same, ?_⟩
  rw [List.all_map]
  have e3 : L.all (id ∘ clB k (dedup L)) = L.all (clB k L) := by
    have : clB k (dedup L) = clB k L := by
      funext st
      unfold clB
      congr 1
      funext g
      rw [decide_eq_decide]
      exact mem_dedup
    rw [this]
    rfl
  rw [e3]
  exact q _ (s1.trans (s18.trans (s9.trans (Same.new hp9 _))))
end
end My

namespace My
open PySem PySem.Spec PyProof.Rows L2
abbrev s_search : Stmt := top 38
theorem lay_row (row : List (List Int)) : (toD (rowT row)).canLay0 = true := by
  unfold rowT toD PyData.canLay0
  exact layAll fun t ht => by obtain ⟨g, _, rfl⟩ := List.mem_map.mp ht; exact lay_tI g
theorem eqv_row0 (row : List (List Int)) : PyData.eqv (toD (rowT row)) (toD (.lst [])) = decide (row = []) := by
  cases row with
  | nil => rfl
  | cons g r =>
    unfold rowT toD PyData.eqv
    rw [List.map_cons]
    unfold toDs
    simp [PyData.eqvAll]
theorem lv_iff {k : Int} {c : List Int} (C : Cnt k c) : lvB k c = true ↔ gP k c = [] ∧ 0 < c.sum := by
  have k1 := C.k1
  have hs := sum_ge C.each
  have hw := ws_nil C.each
  have hgn : gP k c = [] ↔ gL k c = [] := by
    constructor
    · intro h
      cases hh : gL k c with
      | nil => rfl
      | cons g r =>
        have : g ∈ gP k c := (mem_gP (by omega)).mpr (mem_gL.mp (by rw [hh]; exact List.mem_cons_self))
        rw [h] at this
        cases this
    · intro h
      cases hh : gP k c with
      | nil => rfl
      | cons g r =>
        have : g ∈ gL k c := mem_gL.mpr ((mem_gP (by omega)).mp (by rw [hh]; exact List.mem_cons_self))
        rw [h] at this
        cases this
  rw [hgn, gL_nil k1]
  unfold lvB
  rw [Bool.and_eq_true, decide_eq_true_eq, decide_eq_true_eq]
  constructor
  · rintro ⟨h1, h2⟩
    refine ⟨h2, ?_⟩
    have : c.sum ≠ 0 := fun z => by
      rw [hw.mpr z] at h1
      exact absurd h1 (by decide)
    omega
  · rintro ⟨h1, h2⟩
    refine ⟨?_, h1⟩
    have : (ws c).length ≠ 0 := fun z => by
      have := hw.mp (List.length_eq_zero_iff.mp z)
      omega
    omega
/-- a stand that is near has been found, at its own depth -/
theorem near {α : Type} {k : Int} {cs : List Int} {d i : Nat} {R : List (En α)} {N L : List (List Int)} (hk : 1 ≤ k) (b : Bf k cs d R N L i) : ∀ (row : List (List Int)) (st : List Int), mLeft k cs row = some st → row.length ≤ d → ∃ r ∈ R, r.1 = st ∧ r.2.1.length = row.length := by
  have go : ∀ (row : List (List Int)) (c st : List Int) (m : Nat), (∃ r ∈ R, r.1 = c ∧ r.2.1.length = m) → mLeft k c row = some st → m + row.length ≤ d → ∃ r ∈ R, r.1 = st ∧ r.2.1.length = m + row.length := by
    intro row
    induction row with
    | nil =>
      intro c st m h e _
      cases e
      exact h
    | cons g r ih =>
      intro c st m ⟨q, hq, e1, e2⟩ e hd
      unfold mLeft at e
      split at e
      · rename_i hg
        have hd : m + (r.length + 1) ≤ d := hd
        have h1 := b.cl q hq (by omega) g (by rw [e1]; exact hg)
        rw [e1] at h1
        obtain ⟨q', hq', e3⟩ := mem_keysE.mp h1
        have s1 := (left_sum hk (b.way q' hq')).1
        have s2 := (left_sum hk (mLeft_snoc (by rw [← e1]; exact b.way q hq) hg)).1
        rw [e3] at s1
        rw [List.length_append, List.length_singleton, e2] at s2
        have s3 : k * (q'.2.1.length : Int) = k * ((m + 1 : Nat) : Int) := by omega
        have s4 := Int.eq_of_mul_eq_mul_left (by omega) s3
        obtain ⟨q2, h2, h3, h4⟩ := ih _ st (m + 1) ⟨q', hq', e3, by omega⟩ e (by omega)
        exact ⟨q2, h2, h3, by rw [List.length_cons]; omega⟩
      · cases e
  intro row st h hd
  obtain ⟨q, hq, e⟩ := mem_keysE.mp b.first
  have s1 := (left_sum hk (b.way q hq)).1
  rw [e] at s1
  have s3 : k * (q.2.1.length : Int) = k * ((0 : Nat) : Int) := by
    show _ = k * 0
    omega
  have s4 := Int.eq_of_mul_eq_mul_left (by omega) s3
  obtain ⟨r, h1, h2, h3⟩ := go row cs st 0 ⟨q, hq, e, by omega⟩ h (by omega)
  exact ⟨r, h1, h2, by omega⟩
/-- what the search tells -/
noncomputable def SeIs (k : Int) (cs : List Int) (ks : List (List Int)) (j : Int) : Prop :=
  (j = -1 ∧ ks.Nodup ∧ (∀ st, st ∈ ks ↔ ∃ row, mLeft k cs row = some st) ∧ ∀ st ∈ ks, lvB k st = false) ∨
  (∃ n : Nat, j = (n : Int) ∧ (∃ row st, mLeft k cs row = some st ∧ row.length = n ∧ lvB k st = true) ∧ ∀ row st, mLeft k cs row = some st → lvB k st = true → n ≤ row.length)
noncomputable def spSe : Sp := fun vs H Q _ => ∃ k cs vm, vs = [vm] ∧ Cnt k cs ∧ Is H (eMt k cs) vm ∧ ∀ a d ks j H', Same H H' → H' a = some (.tup [.ref d, .int j]) → DAt H' d ks → SeIs k cs ks j → Q (.ref a) H'
structure InS (H2 : Hp) (d fa : Addr) (k : Int) (cs : List Int) (dep : Nat) (H' : Hp) (R : List (En Unit)) (N L : List (List Int)) (i : Nat) : Prop where
  b : But2 d fa H2 H'
  d : DAt H' d (keysE R)
  bf : Bf k cs dep R N L i
  f : ∃ ys, H' fa = some (.lst ys) ∧ L2.IsL H' (L.map tI) ys
  len : L.length ≤ R.length
  no : ∀ r ∈ R, r.2.1.length < dep → lvB k r.1 = false
  non : ∀ st ∈ N.take i, lvB k st = false
theorem InS.same {H2 H' H'' : Hp} {d f : Addr} {k : Int} {cs : List Int} {dep i : Nat} {R : List (En Unit)} {N L : List (List Int)} (x : InS H2 d f k cs dep H' R N L i) (s : Same H' H'') : InS H2 d f k cs dep H'' R N L i := by
  obtain ⟨ys, e, il⟩ := x.f
  exact ⟨x.b.trans s.but2, x.d.same s, x.bf, ⟨ys, s _ _ e, il.mono s⟩, x.len, x.no, x.non⟩
theorem few_U {k : Int} {cs : List Int} {R : List (En Unit)} (C : Cnt k cs) (nd : (keysE R).Nodup) (way : ∀ r ∈ R, mLeft k cs r.2.1 = some r.1) : R.length ≤ 3125 := by
  have := vec_few C.n5 nd fun g hg => by
    obtain ⟨r, hr, rfl⟩ := mem_keysE.mp hg
    exact ⟨(left_sum C.k1 (way r hr)).2.1, (C.left (way r hr)).each⟩
  unfold keysE at this
  rwa [List.length_map] at this
end My

namespace My
open PySem PySem.Spec PyProof.Rows L2
section
variable {P : Program} {w : World} {K : PySem.W.Frag} {mg : Str → Option Value} {base : Heap}
theorem sc_search : FnScope ["meeting", "k", "counts", "known", "level", "depth", "fresh", "here", "some", "group", "there"] ["meeting"] (defScope s_search) := ⟨rfl, rfl, rfl, by decide +kernel, rfl, by decide +kernel, by decide +kernel⟩
theorem ok_search (D : Def K mg "_law_e_search" s_search) (T : Txt K mg) (o1 : Ok P w K mg base "_law_e_groups" 1 ["k", "counts"] spLg) (o2 : Ok P w K mg base "_law_e_met" 1 ["counts", "group"] spLm) : Ok P w K mg base "_law_e_search" 2 ["meeting"] spSe := by
  refine mkOk D sc_search (fun _ _ _ _ _ _ us hl => (match us, hl with | [_], _ => rfl)) (fun vs H Q E ⟨_, _, _, e, _⟩ => by rw [e]; rfl) fun f cdv A outer s H vs Q E hr h => ?_
  obtain ⟨k, cs, vm, rfl, C, hm, kk⟩ := h
  have nd := sc_search.nd
  have hun := hr.units
  have hu1 := Nat.lt_of_le_of_lt (Nat.add_le_add_left (by decide : 1 ≤ 64) _) hun
  refine ⟨_, pss_cons (ps_asg (pv 0) (pg_tup rfl (pgs_cons (pg_name (i := 1) nd rfl (Or.inl rfl)) (pgs_cons (pg_name (i := 2) nd rfl (Or.inl rfl)) pgs_nil))))
    (pss_cons (ps_set (i := 3) nd rfl (Or.inl rfl) (pe_disp1 hr.units0 (pv 2) pe_int))
    (pss_cons (ps_set (i := 4) nd rfl (Or.inl rfl) (pe_lstR (pa_cons (pv 2) pa_nil)))
    (pss_cons (ps_set (i := 5) nd rfl (Or.inl rfl) pe_int)
    (pss_cons (ps_while PassesOwn.never (pt_cmpR (op_neL0 hr.units0) (pv 4) (pe_lstR pa_nil) (nomark _))
      (pss_cons (ps_set (i := 6) nd rfl (Or.inl rfl) (pe_lstR pa_nil))
      (pss_cons (ps_for PassesOwn.never rfl (pi_list (pv 4)) (pg_name (i := 7) nd rfl (Or.inl rfl))
        (pss_cons (ps_set (i := 8) nd rfl (Or.inl rfl) (pe_fn o1 hr (pa_cons (pv 1) (pa_cons (pv 7) pa_nil))))
        (pss_cons (ps_if (PW.pt (pw_and (pt_cmpR (op_eqTrR hun) (pv 8) (pe_lstR pa_nil) (nomark _)) (pw_and1 (pt_cmpR op_gt (pe_callB (call_sumT rfl) rfl T.sum bt_sum (pa_cons (pv 7) pa_nil)) pe_int (nomark _))))) (pss_one (ps_ret (pe_tupR (pa_cons (pv 3) (pa_cons (pv 5) pa_nil))))) pss_nil)
        (pss_one (ps_for PassesOwn.never rfl (pi_list (pv 8)) (pg_name (i := 9) nd rfl (Or.inl rfl))
          (pss_cons (ps_set (i := 10) nd rfl (Or.inl rfl) (pe_fn o2 hr (pa_cons (pv 7) (pa_cons (pv 9) pa_nil))))
          (pss_one (ps_if (pt_cmp (pc_dnotin hu1 (pv 10) (pv 3))) (pss_cons (ps_dput hu1 (pv 3) (pv 10) (pe_op op_add (pv 5) pe_int) rfl) (pss_one (ps_expr (pe_bm PySem.F.plainAttrs_list PySem.F.slot_list_append PySem.F.type_list_append mt_append (pv 6) (pa_cons (pv 10) pa_nil))))) pss_nil))))))))
      (pss_cons (ps_set (i := 5) nd rfl (Or.inl rfl) (pe_op op_add (pv 5) pe_int))
      (pss_one (ps_set (i := 4) nd rfl (Or.inl rfl) (pv 6)))))))
    (pss_one (ps_ret (pe_tupR (pa_cons (pv 3) (pa_cons (pe_un un_neg pe_int) pa_nil))))))))), ?_⟩
  have k1 := C.k1
  have k5 := C.k5
  have n5 := C.n5
  have hs20 := sum_ge C.each
  obtain ⟨am, vc, rfl, ham, ic⟩ := mt_open hm
  refine ⟨_, rfl, am, _, rfl, SqT.of ham, rfl, _, _, rfl, _, _, rfl, rfl, ?_⟩
  refine fun d hd0 => ⟨_, rfl, cs, ic.mono (Same.new hd0 _), upd_same, ?_⟩
  have s0 : Same H (upd (upd H d (.dT [])) d (.dT [(kI cs, .int 0)])) := fun b o e => by rw [upd_ne (ne_of_none e hd0), upd_ne (ne_of_none e hd0)]; exact e
  have hD0 : DAt (upd (upd H d (.dT [])) d (.dT [(kI cs, .int 0)])) d [cs] := ⟨_, upd_same, rfl⟩
  generalize upd (upd H d (.dT [])) d (.dT [(kI cs, .int 0)]) = H0 at s0 hD0 ⊢
  refine ⟨_, rfl, by show 1 ≤ 1000; decide, fun lv H1 s1 hlv g1 => ?_⟩
  have s01 := s0.trans s1
  refine ⟨fun n σ H' => ∃ lv N, ∃ R : List (En Unit), ∃ dep : Nat, ∃ x6 x7 x8 x9 x10, σ = [some (.ref am), some (.int k), some vc, some (.ref d), some (.ref lv), some (.int (dep : Int)), x6, x7, x8, x9, x10] ∧ Same H H' ∧ DAt H' d (keysE R) ∧ Bf k cs dep R N [] 0 ∧ Is H' (rowT N) (.ref lv) ∧ n + dep = 21 ∧ N.length ≤ 3125 ∧ (∀ r ∈ R, r.2.1.length < dep → lvB k r.1 = false),
    ⟨21, lv, [cs], [(cs, [], ())], 0, none, none, none, none, none, rfl, s01, hD0.same s1, Bf.start (), ⟨lv, _, rfl, g1, IsL.one (ic.mono s01)⟩, rfl, by show 1 ≤ 3125; decide, fun r _ h => absurd h (Nat.not_lt_zero _)⟩, ?_⟩
  rintro n σ H2 ⟨lv, N, R, dep, x6, x7, x8, x9, x10, rfl, s2, hD, bf, iL, hn, hfew, hno⟩
  obtain ⟨_, xs, el, hl, ixs⟩ := iL
  cases el
  have hxl := ixs.length
  rw [List.length_map] at hxl
  refine ⟨_, rfl, by show 0 ≤ 1000; decide, fun p3 H3 s3 hp3 g3 => ?_⟩
  refine ⟨lv, p3, _, rfl, rfl, SqL.of (s3 _ _ hl), SqL.of g3, _, rfl, ite2 (fun z => ?_) (fun z => ?_)⟩
  rotate_left
  · refine ⟨_, rfl, 1, rfl, by show 2 ≤ 1000; decide, fun a H4 s4 ha g4 => ?_⟩
    have hN : N = [] := by
      cases xs with
      | nil => exact List.length_eq_zero_iff.mp hxl.symm
      | cons _ _ => exact absurd rfl z
    rw [hN] at bf
    have bd := bf.end'
    refine kk a d (keysE R) _ H4 (s2.trans (s3.trans s4)) g4 (hD.same (s3.trans s4)) (.inl ⟨rfl, bd.nd, fun st => ⟨fun h => ?_, fun ⟨row, h⟩ => bd.all row st h⟩, fun st h => ?_⟩)
    · obtain ⟨r, hr, rfl⟩ := mem_keysE.mp h
      exact ⟨r.2.1, bd.way r hr⟩
    · obtain ⟨r, hr, rfl⟩ := mem_keysE.mp h
      refine hno r hr ?_
      have h1 := bf.top r hr
      have h2 : r.2.1.length ≠ dep := fun e => by have := bf.new r hr e; cases this
      have h3 : r.2.1.length ≠ dep + 1 := fun e => by have := bf.lat r hr e; cases this
      omega
  have hne : N ≠ [] := fun y => by
    rw [y] at hxl
    have : xs = [] := List.length_eq_zero_iff.mp hxl
    rw [this] at z
    exact absurd z (by decide)
  have hdep20 : dep ≤ 20 := by
    cases hg : N with
    | nil => exact absurd hg hne
    | cons g r =>
      obtain ⟨q, hq, e1, e2⟩ := bf.nr g (by rw [hg]; exact List.mem_cons_self)
      obtain ⟨h1, h2, _⟩ := left_sum k1 (bf.way q hq)
      have h3 := (sum_ge (C.left (bf.way q hq)).each).1
      have h4 : 1 * (q.2.1.length : Int) ≤ k * (q.2.1.length : Int) := Int.mul_le_mul_of_nonneg_right k1 (by omega)
      omega
  refine ⟨fun σ' H' => ∃ n', n' < n ∧ ∃ lv N, ∃ R : List (En Unit), ∃ dep : Nat, ∃ x6 x7 x8 x9 x10, σ' = [some (.ref am), some (.int k), some vc, some (.ref d), some (.ref lv), some (.int (dep : Int)), x6, x7, x8, x9, x10] ∧ Same H H' ∧ DAt H' d (keysE R) ∧ Bf k cs dep R N [] 0 ∧ Is H' (rowT N) (.ref lv) ∧ n' + dep = 21 ∧ N.length ≤ 3125 ∧ (∀ r ∈ R, r.2.1.length < dep → lvB k r.1 = false), fun σ' H' h => h, ?_⟩
  refine ⟨by show 0 ≤ 1000; decide, fun fr H4 s4 hfr g4 => ?_⟩
  have s24 := s3.trans s4
  have s04 := s2.trans s24
  have hD4 := hD.same s24
  obtain ⟨kv4, hd4, _⟩ := id hD4
  have hl4 := s24 _ _ hl
  have hi4 := ixs.mono s24
  have hfrH : H fr = none := sm_none (s2.trans s3) hfr
  have nfd : fr ≠ d := fun y => by rw [y, hd4] at g4; cases g4
  have nld : lv ≠ d := fun y => by rw [y, hd4] at hl4; cases hl4
  have nlf : lv ≠ fr := fun y => by rw [← y, s3 _ _ hl] at hfr; cases hfr
  have HS : ∀ {H' : Hp}, But2 d fr H4 H' → Same H H' := fun b c o e => b c o (ne_of_none e hd0) (ne_of_none e hfrH) (s04 _ _ e)
  have I4 : InS H4 d fr k cs dep H4 R N [] 0 := ⟨But2.refl _ _ _, hD4, bf, ⟨[], g4, rfl⟩, Nat.zero_le _, hno, fun st h => (by cases h)⟩
  refine ⟨_, rfl, lv, rfl, ⟨_, SqL.of hl4⟩, ?_⟩
  refine for_list (xs := xs) (fun i σ H' => ∃ R : List (En Unit), ∃ L x7 x8 x9 x10, σ = [some (.ref am), some (.int k), some vc, some (.ref d), some (.ref lv), some (.int (dep : Int)), some (.ref fr), x7, x8, x9, x10] ∧ InS H4 d fr k cs dep H' R N L i) ⟨R, [], _, _, _, _, rfl, I4⟩ (fun i σ H' _ ⟨_, _, _, _, _, _, _, x⟩ => SqL.of (x.b _ _ nld nlf hl4)) ?_ ?_
  rotate_left
  · rintro σ H5 ⟨R', L, y7, y8, y9, y10, rfl, I5⟩
    refine ⟨_, rfl, _, _, rfl, rfl, ?_⟩
    obtain ⟨ys, gf, iff⟩ := I5.f
    have hRl5 := few_U C I5.bf.nd I5.bf.way
    have := I5.len
    have bf5 := I5.bf
    have non5 := I5.non
    rw [hxl] at bf5 non5
    rw [List.take_length] at non5
    refine ⟨_, rfl, n - 1, by omega, fr, L, R', dep + 1, _, _, _, _, _, rfl, HS I5.b, I5.d, bf5.level, ⟨fr, ys, rfl, gf, iff⟩, by omega, by omega, fun r hr h => ?_⟩
    by_cases y : r.2.1.length < dep
    · exact I5.no r hr y
    · exact non5 r.1 (I5.bf.new r hr (by omega))
  rintro i x σ H5 hx ⟨R', L, y7, y8, y9, y10, rfl, I5⟩
  obtain ⟨g, eg, ig4⟩ := get_tI hi4 hx
  have hgN := List.mem_of_getElem? eg
  have tp5 := I5.b.tups hd4 g4
  have ig := ig4.tups tp5 (fro_tI g)
  obtain ⟨r5, hr5, er5, lr5⟩ := I5.bf.nr g hgN
  have Cg : Cnt k g := by rw [← er5]; exact C.left (I5.bf.way r5 hr5)
  have hgl : g.length ≤ 5 := Cg.n5
  refine ⟨_, rfl, _, rfl, k, g, x, rfl, ig, hgl, k1, fun gs lg ys H6 s6 pg hlg g6 i6 => ?_⟩
  have I6 := I5.same s6
  have ig6 := ig.mono s6
  obtain ⟨ag, rfl, hag⟩ := tI_open ig6
  have ss := sum63 Cg
  have hgs0 : gs = [] ↔ gP k g = [] := by
    constructor
    · intro h
      cases hh : gP k g with
      | nil => rfl
      | cons q r =>
        have : q ∈ gs := (gp_mem k1 pg).mpr (by rw [hh]; exact List.mem_cons_self)
        rw [h] at this
        cases this
    · intro h
      cases hh : gs with
      | nil => rfl
      | cons q r =>
        have : q ∈ gP k g := (gp_mem k1 pg).mp (by rw [hh]; exact List.mem_cons_self)
        rw [h] at this
        cases this
  dsimp only [gName, tSeq, tAsg, tC, tNext]
  refine with_nx (t := tIfS _ _ _) (fun σ' H' => σ' = [some (.ref am), some (.int k), some vc, some (.ref d), some (.ref lv), some (.int (dep : Int)), some (.ref fr), some (.ref ag), some (.ref lg), y9, y10] ∧ Same H6 H' ∧ lvB k g = false) ?_ (fun fin => ?_)
  rotate_left
  · refine ⟨_, rfl, by show 0 ≤ 1000; decide, fun p7 H7 s7 _ g7 => ?_⟩
    refine ⟨rowT gs, .lst [], ⟨lg, ys, rfl, s7 _ _ g6, i6.mono s7⟩, ⟨p7, [], rfl, g7, rfl⟩, lay_row gs, by kernel_rfl, by decide +kernel, _, rfl, ?_⟩
    rw [show id (PyData.eqv (toD (rowT gs)) (toD (.lst []))) = decide (gs = []) from eqv_row0 gs]
    by_cases hgs : gs = []
    · rw [decide_eq_true hgs]
      refine iteT ⟨_, rfl, ag, g, rfl, SqT.of (s7 _ _ hag), ss.1, ss.2, _, _, rfl, rfl, _, rfl, ite2 (fun y => ?_) (fun y => fin _ _ ⟨rfl, s7, ?_⟩)⟩
      · refine ⟨_, rfl, _, rfl, by show 2 ≤ 1000; decide, fun a H8 s8 ha g8 => ?_⟩
        have I8 := (I6.same s7).same s8
        have hlvg : lvB k g = true := (lv_iff Cg).mpr ⟨hgs0.mp hgs, of_decide_eq_true y⟩
        refine kk a d (keysE R') _ H8 (HS I8.b) g8 I8.d (.inr ⟨dep, rfl, ⟨r5.2.1, g, by rw [← er5]; exact I5.bf.way r5 hr5, lr5, hlvg⟩, fun row st hm hl => ?_⟩)
        by_cases c : dep ≤ row.length
        · exact c
        · exfalso
          obtain ⟨q, hq, e1, e2⟩ := near k1 I5.bf row st hm (by omega)
          have := I5.no q hq (by omega)
          rw [e1, hl] at this
          cases this
      · cases y2 : lvB k g with
        | false => rfl
        | true => exact absurd (decide_eq_true ((lv_iff Cg).mp y2).2) y
    · rw [decide_eq_false hgs]
      refine iteF (iteF (fin _ _ ⟨rfl, s7, ?_⟩))
      cases y2 : lvB k g with
      | false => rfl
      | true => exact absurd (hgs0.mpr ((lv_iff Cg).mp y2).1) hgs
  rintro σ' H7 ⟨rfl, s7, hlvg⟩
  have I7 := I6.same s7
  have g7 := s7 _ _ g6
  have i7 := i6.mono s7
  have hyl := i7.length
  rw [List.length_map] at hyl
  obtain ⟨kv7, hd7, _⟩ := id I7.d
  obtain ⟨yf7, gf7, _⟩ := id I7.f
  have nlg : lg ≠ d ∧ lg ≠ fr := by
    obtain ⟨kv5, hd5, _⟩ := I5.d
    obtain ⟨yf5, gf5, _⟩ := I5.f
    exact ⟨fun y => (by rw [y, hd5] at hlg; cases hlg), fun y => (by rw [y, gf5] at hlg; cases hlg)⟩
  refine ⟨_, rfl, lg, rfl, ⟨_, SqL.of g7⟩, ?_⟩
  refine for_list (xs := ys) (fun j σ H' => ∃ R : List (En Unit), ∃ L x9 x10, σ = [some (.ref am), some (.int k), some vc, some (.ref d), some (.ref lv), some (.int (dep : Int)), some (.ref fr), some (.ref ag), some (.ref lg), x9, x10] ∧ But2 d fr H7 H' ∧ InS H4 d fr k cs dep H' R N L i ∧ ∀ g' ∈ gs.take j, mMet g g' ∈ keysE R) ⟨R', L, _, _, rfl, But2.refl _ _ _, I7, fun g' h => (by cases h)⟩ (fun j σ H' _ ⟨_, _, _, _, _, b, _⟩ => SqL.of (b _ _ nlg.1 nlg.2 g7)) ?_ ?_
  rotate_left
  · rintro σ H8 ⟨R8, L8, z9, z10, rfl, b8, I8, hcl⟩
    rw [hyl, List.take_length] at hcl
    refine ⟨R8, L8, _, _, _, _, rfl, I8.b, I8.d, I8.bf.done eg (fun g' hg' => hcl g' ((gp_mem k1 pg).mpr hg')), I8.f, I8.len, I8.no, fun st hst => ?_⟩
    rw [List.take_add_one, eg] at hst
    rcases List.mem_append.mp hst with y | y
    · exact I8.non st y
    · have y : st ∈ [g] := y
      rw [List.mem_singleton.mp y]
      exact hlvg
  rintro j x σ H8 hx ⟨R8, L8, z9, z10, rfl, b8, I8, hcl⟩
  have tp8 := b8.tups hd7 gf7
  obtain ⟨g', eg', ig'7⟩ := get_tI i7 hx
  have ig' := ig'7.tups tp8 (fro_tI g')
  have hgP : g' ∈ gP k g := (gp_mem k1 pg).mp (List.mem_of_getElem? eg')
  have hsub := ((mem_gP (show (0 : Int) ≤ k by omega)).mp hgP).1
  have igx : Is H8 (tI g) (.ref ag) := (ig6.mono s7).tups tp8 (fro_tI g)
  refine ⟨_, rfl, _, rfl, g, g', .ref ag, x, rfl, igx, ig', gp_of hsub, fun u H9 s9 iu => ?_⟩
  have I9 := I8.same s9
  have b9 := b8.trans (Same.but2 (d := d) (f := fr) s9)
  obtain ⟨au, rfl, hau⟩ := tI_open iu
  obtain ⟨o, hg, ho⟩ := I9.d.get iu
  refine ⟨_, rfl, _, rfl, d, o, rfl, hg, _, rfl, ?_⟩
  rw [ho]
  have step1 : ∀ {K2 : List (List Int)}, (∀ st, st ∈ keysE R8 → st ∈ K2) → mMet g g' ∈ K2 → ∀ g2 ∈ gs.take (j + 1), mMet g g2 ∈ K2 := fun h1 h2 g2 hg2 => by
    rw [List.take_add_one, eg'] at hg2
    rcases List.mem_append.mp hg2 with y | y
    · exact h1 _ (hcl g2 y)
    · have y : g2 ∈ [g'] := y
      rw [List.mem_singleton.mp y]
      exact h2
  by_cases z : mMet g g' ∈ keysE R8
  · rw [decide_eq_true z]
    exact iteF ⟨R8, L8, _, _, rfl, b9, I9, step1 (fun _ h => h) z⟩
  rw [decide_eq_false z]
  refine iteT ?_
  have hRl8 := few_U C I9.bf.nd I9.bf.way
  have hkl : (keysE R8).length = R8.length := by unfold keysE; rw [List.length_map]
  obtain ⟨o', hput, hD10⟩ := I9.d.put (v := .int ((dep : Int) + 1)) iu (by omega)
  refine ⟨_, rfl, _, _, rfl, rfl, _, rfl, _, rfl, d, _, rfl, hput, ?_⟩
  obtain ⟨yf9, gf9, if9⟩ := I9.f
  obtain ⟨kv9, hd9, _⟩ := id I9.d
  have tpd : Tups H9 (upd H9 d o') := Tups.upd hd9 (fun zs z => by cases z)
  have gf10 : upd H9 d o' fr = some (.lst yf9) := by rw [upd_ne nfd]; exact gf9
  have b10 : But2 d fr H9 (upd H9 d o') := But2.updD
  have iu10 := iu.tups tpd (fro_tI _)
  have if10 := if9.tups tpd (fro_row L8)
  generalize upd H9 d o' = H10 at hD10 gf10 b10 iu10 if10 ⊢
  have hfl := if10.length
  rw [List.length_map] at hfl
  have hl2 := I9.len
  refine ⟨_, rfl, .inl ⟨rfl, _, SqL.of gf10⟩, _, rfl, fr, yf9, _, rfl, rfl, gf10, big_lt (by omega), ?_⟩
  have tpf : Tups H10 (upd H10 fr (.lst (yf9 ++ [.ref au]))) := Tups.upd gf10 (fun zs z => by cases z)
  have b11 : But2 d fr H10 (upd H10 fr (.lst (yf9 ++ [.ref au]))) := But2.updF
  have gf11 : upd H10 fr (.lst (yf9 ++ [.ref au])) fr = some (.lst (yf9 ++ [.ref au])) := upd_same
  obtain ⟨r8, hr8, er8, lr8⟩ := I9.bf.nr g hgN
  have bf11 := I9.bf.step (r := r8) (g := g') hr8 lr8 (by rw [er8]; exact hgP) (by rw [er8]; exact z) ()
  rw [er8] at bf11
  have eK : keysE (R8 ++ [(mMet g g', r8.2.1 ++ [g'], ())]) = addK (keysE R8) (mMet g g') := by
    rw [keysE_snoc]
    unfold addK
    rw [if_neg z]
  have hD11 : DAt (upd H10 fr (.lst (yf9 ++ [.ref au]))) d (keysE (R8 ++ [(mMet g g', r8.2.1 ++ [g'], ())])) := by
    rw [eK]
    obtain ⟨kv, h1, h2⟩ := hD10
    exact ⟨kv, by rw [upd_ne (Ne.symm nfd)]; exact h1, h2⟩
  have iu11 := iu10.tups tpf (fro_tI _)
  have if11 := if10.tups tpf (fro_row L8)
  generalize upd H10 fr (.lst (yf9 ++ [.ref au])) = H11 at b11 gf11 hD11 iu11 if11 ⊢
  refine ⟨R8 ++ [(mMet g g', r8.2.1 ++ [g'], ())], L8 ++ [mMet g g'], _, _, rfl, b9.trans (b10.trans b11), ⟨I9.b.trans (b10.trans b11), hD11, bf11, ⟨_, gf11, ?_⟩, ?_, fun r hr h => ?_, I9.non⟩, step1 (fun st h => ?_) ?_⟩
  · rw [List.map_append]
    exact IsL.append if11 (IsL.one iu11)
  · rw [List.length_append, List.length_append, List.length_singleton, List.length_singleton]
    omega
  · rcases List.mem_append.mp hr with y | y
    · exact I9.no r y h
    · rw [List.mem_singleton.mp y] at h
      have h : (r8.2.1 ++ [g']).length < dep := h
      rw [List.length_append, List.length_singleton] at h
      omega
  · rw [keysE_snoc]
    exact List.mem_append_left _ h
  · rw [keysE_snoc]
    exact List.mem_append_right _ (List.mem_singleton.mpr rfl)
end
end My

namespace My
open PySem PySem.Spec PyProof.Rows L2
abbrev s_lleft : Stmt := top 36
abbrev s_lisRow : Stmt := top 37
abbrev s_lright : Stmt := top 39
noncomputable def wholeTE (K : PySem.W.Frag) : TE := tAndV (tCB (rIsi K) (tCons (tVar 0) (tCons (tC (.ty "int")) tNil))) (tNotV (tCB (rIsi K) (tCons (tVar 0) (tCons (tC (.ty "bool")) tNil))))
noncomputable def spIr : Sp := fun vs H Q _ => ∃ l row, vs = [.ref l] ∧ Rb H l row ∧ ∀ H', Same H H' → Q (.bl true) H'
theorem decStr (x : Str) : decide (V.str x = V.str x) = true := decide_eq_true rfl
section
variable {P : Program} {w : World} {K : PySem.W.Frag} {mg : Str → Option Value} {base : Heap}
theorem sc_lleft : FnScope ["meeting", "row", "k", "counts", "group"] ["meeting", "row"] (defScope s_lleft) := ⟨rfl, rfl, rfl, by decide +kernel, rfl, by decide +kernel, by decide +kernel⟩
theorem ok_lleft (D : Def K mg "_law_e_left" s_lleft) (T : Txt K mg) (o1 : Ok P w K mg base "_law_e_groups" 1 ["k", "counts"] spLg) (o2 : Ok P w K mg base "_law_e_met" 1 ["counts", "group"] spLm) : Ok P w K mg base "_law_e_left" 2 ["meeting", "row"] spBy := by
  refine mkOk D sc_lleft (fun _ _ _ _ _ _ us hl => (match us, hl with | [_, _], _ => rfl)) (fun vs H Q E ⟨_, _, _, _, _, e, _⟩ => by rw [e]; rfl) fun f cdv A outer s H vs Q E hr h => ?_
  obtain ⟨k, cs, vm, l, row, rfl, C, hm, R, k1, k2⟩ := h
  have nd := sc_lleft.nd
  refine ⟨_, pss_cons (ps_asg (pv 0) (pg_tup rfl (pgs_cons (pg_name (i := 2) nd rfl (Or.inl rfl)) (pgs_cons (pg_name (i := 3) nd rfl (Or.inl rfl)) pgs_nil))))
    (pss_cons (ps_for PassesOwn.never rfl (pi_list (pv 1)) (pg_name (i := 4) nd rfl (Or.inl rfl))
      (pss_cons (ps_if (pt_cmpR (op_notInTr hr.units) (pv 4) (pe_fn o1 hr (pa_cons (pv 2) (pa_cons (pv 3) pa_nil))) rfl) (pss_one (ps_ret pe_non)) pss_nil)
      (pss_one (ps_set (i := 3) nd rfl (Or.inl rfl) (pe_fn o2 hr (pa_cons (pv 3) (pa_cons (pv 4) pa_nil)))))))
    (pss_one (ps_ret (pv 3)))), ?_⟩
  obtain ⟨xs, hl, ixs⟩ := R.at'
  have hxl := ixs.length
  rw [List.length_map] at hxl
  obtain ⟨am, vc, rfl, ham, ic⟩ := mt_open hm
  refine ⟨_, rfl, am, _, rfl, SqT.of ham, rfl, _, _, rfl, _, _, rfl, rfl, ?_⟩
  refine ⟨_, rfl, l, rfl, ⟨_, SqL.of hl⟩, ?_⟩
  refine for_list (xs := xs) (fun i σ H' => ∃ c v x3, σ = [some (.ref am), some (.ref l), some (.int k), some v, x3] ∧ Same H H' ∧ mLeft k cs row = mLeft k c (row.drop i) ∧ Cnt k c ∧ Is H' (tI c) v) ⟨cs, vc, none, rfl, Same.refl H, rfl, C, ic⟩ (fun i σ H' _ ⟨_, _, _, _, s', _⟩ => SqL.of (s' _ _ hl)) ?_ ?_
  · rintro i x σ H3 hx ⟨c, v, x3, rfl, s3, er, Cc, iv⟩
    obtain ⟨g, eg, ig⟩ := get_tI (ixs.mono s3) hx
    have ed : row.drop i = g :: row.drop (i + 1) := by
      obtain ⟨hi, e⟩ := List.getElem?_eq_some_iff.mp eg
      rw [List.drop_eq_getElem_cons hi, e]
    rw [ed] at er
    have n5 := Cc.n5
    refine ⟨_, rfl, _, rfl, _, rfl, k, c, v, rfl, iv, n5, Cc.k1, fun gs lg ys H4 s4 pg _ g4 i4 => ?_⟩
    refine ⟨lg, ys, _, tI g, rfl, SqL.of g4, i4, ig.mono s4, (fun t ht => by obtain ⟨g', _, rfl⟩ := List.mem_map.mp ht; exact lay_tI g'), lay_tI g, depth_tI g, _, rfl, ?_⟩
    rw [show (if (true = true) then !((gs.map tI).any fun t => PyData.eqv (toD t) (toD (tI g))) else ((gs.map tI).any fun t => PyData.eqv (toD t) (toD (tI g)))) = !decide (g ∈ gs) from congrArg (!·) (any_tI _ _)]
    by_cases z : g ∈ gs
    · rw [decide_eq_true z]
      have z := (gp_mem Cc.k1 pg).mp z
      have er2 : mLeft k cs row = mLeft k (mMet c g) (row.drop (i + 1)) := by
        rw [er]
        conv => lhs; unfold mLeft
        rw [if_pos z]
      have k1 := Cc.k1
      refine iteF ⟨_, rfl, _, rfl, c, g, v, x, rfl, iv.mono s4, ig.mono s4, gp_of ((mem_gP (by omega)).mp z).1, fun u H5 s5 iu => ?_⟩
      exact ⟨_, u, _, rfl, s3.trans (s4.trans s5), er2, Cc.met z, iu⟩
    · rw [decide_eq_false z]
      have z : g ∉ gP k c := fun y => z ((gp_mem Cc.k1 pg).mpr y)
      refine iteT (k1 ?_ H4 (s3.trans s4))
      rw [er]
      unfold mLeft
      rw [if_neg z]
  · rintro σ H3 ⟨c, v, x3, rfl, s3, er, Cc, iv⟩
    rw [hxl, List.drop_length] at er
    exact ⟨_, rfl, k2 c v H3 (by rw [er]; rfl) s3 iv⟩
theorem sc_lisRow : FnScope ["found", "group"] ["found"] (defScope s_lisRow) := ⟨rfl, rfl, rfl, by decide +kernel, rfl, by decide +kernel, by decide +kernel⟩
theorem ok_lisRow (D : Def K mg "_law_e_is_row" s_lisRow) (T : Txt K mg) : Ok P w K mg base "_law_e_is_row" 1 ["found"] spIr := by
  refine mkOk D sc_lisRow (fun _ _ _ _ _ _ us hl => (match us, hl with | [_], _ => rfl)) (fun vs H Q E ⟨_, _, e, _⟩ => by rw [e]; rfl) fun f cdv A outer s H vs Q E hr h => ?_
  obtain ⟨l, row, rfl, R, kk⟩ := h
  have nd := sc_lisRow.nd
  refine ⟨_, pss_cons (ps_if (pt_not (pt_val (pe_isi T.isi T.list bt_list (pv 0)))) (pss_one (ps_ret pe_bl)) pss_nil)
    (pss_cons (ps_for PassesOwn.never rfl (pi_list (pv 0)) (pg_name (i := 1) nd rfl (Or.inl rfl))
      (pss_cons (ps_if (pt_not (pt_val (pe_isi T.isi T.tuple bt_tuple (pv 1)))) (pss_one (ps_ret pe_bl)) pss_nil)
      (pss_one (ps_if (pt_not (pt_val (pe_callB (call_all rfl) rfl T.all bt_all (pa_cons (pe_lc (own := ["hand"]) (cap := []) (te := wholeTE K) rfl (lcScope (defScope s_lisRow) rfl rfl (by decide +kernel) (by decide +kernel) (by decide +kernel) trivial) (pi_tup (pv 1))
        (fun _ _ _ _ => pg_name (i := 0) (by show (["hand"] : List Str).Nodup; decide +kernel) rfl (Or.inl rfl)) (fun _ _ _ _ => pif_nil) (fun _ _ _ _ => pe_and (pe_isi T.isi T.int bt_int (pv 0)) (pe_one (pe_not (pe_isi T.isi T.bool bt_bool (pv 0)))))) pa_nil)))) (pss_one (ps_ret pe_bl)) pss_nil))))
    (pss_one (ps_ret pe_bl))), ?_⟩
  refine ⟨_, rfl, _, "list", _, _, rfl, R.ty, kit_list, _, rfl, iteF ?_⟩
  obtain ⟨xs, hl, ixs⟩ := R.at'
  refine ⟨_, rfl, l, rfl, ⟨_, SqL.of hl⟩, ?_⟩
  refine for_list (xs := xs) (fun i σ H' => Same H H' ∧ ∃ x1, σ = [some (.ref l), x1]) ⟨Same.refl H, none, rfl⟩ (fun i σ H' _ ⟨s', _⟩ => SqL.of (s' _ _ hl)) ?_ ?_
  · rintro i x σ H1 hx ⟨s1, x1, rfl⟩
    obtain ⟨g, eg, ig⟩ := get_tI (ixs.mono s1) hx
    have hgl := R.short g (List.mem_of_getElem? eg)
    refine ⟨_, rfl, x, "tuple", _, _, rfl, ig.ty, kit_tuple K (tI g), _, rfl, iteF ?_⟩
    obtain ⟨a, rfl, ha⟩ := tI_open ig
    refine ⟨_, rfl, a, rfl, ⟨_, SqT.of ha⟩, ?_⟩
    refine lc_tup (xs := g.map V.int) (fun i ys H' => Same H1 H' ∧ ys = (List.replicate i true).map V.bl) ⟨Same.refl H1, rfl⟩ (fun i ys H' hi ⟨s2, e⟩ => ⟨SqT.of (s2 _ _ ha), by rw [e, List.length_map, List.length_replicate]; rw [List.length_map] at hi; exact small_le (by omega)⟩) ?_ ?_
    · rintro i x ys H' hx ⟨s2, rfl⟩
      refine gIf0 ?_
      obtain ⟨hi, rfl⟩ := gets hx
      refine ⟨_, rfl, _, "int", _, _, rfl, (show Is H' (.int (g.getD i 0)) (.int (g.getD i 0)) from rfl).ty, kit_int K (.int (g.getD i 0)), _, rfl, iteT ?_⟩
      refine ⟨_, rfl, _, "bool", _, _, rfl, (show Is H' (.int (g.getD i 0)) (.int (g.getD i 0)) from rfl).ty, kit_bool K (.int (g.getD i 0)), _, rfl, s2, ?_⟩
      rw [List.replicate_succ', List.map_append]
      rfl
    · rintro ys H' ⟨s2, rfl⟩ p hp
      refine ⟨p, _, rfl, SqL.of upd_same, _, rfl, ?_⟩
      have e : (List.replicate (g.map V.int).length true).all id = true := by simp
      rw [e]
      exact iteF ⟨s1.trans (s2.trans (Same.new hp _)), _, rfl⟩
  · rintro σ H1 ⟨s1, x1, rfl⟩
    exact kk H1 s1
end
end My

namespace My
theorem sub_len {α : Type} [DecidableEq α] : ∀ {L M : List α}, L.Nodup → (∀ x ∈ L, x ∈ M) → L.length ≤ M.length
  | [], M, _, _ => Nat.zero_le _
  | a :: L, M, h, hm => by
    obtain ⟨h1, h2⟩ := List.nodup_cons.mp h
    have ha := hm a List.mem_cons_self
    have hl : (M.erase a).length + 1 = M.length := by
      rw [List.length_erase_of_mem ha]
      have : 0 < M.length := List.length_pos_of_mem ha
      omega
    have := sub_len (L := L) (M := M.erase a) h2 fun x hx => (List.mem_erase_of_ne (show x ≠ a from fun z => h1 (by rw [← z]; exact hx))).mpr (hm x (List.mem_cons_of_mem _ hx))
    rw [List.length_cons]
    omega
theorem len_mem {L M : List (List Int)} (h1 : L.Nodup) (h2 : M.Nodup) (h : ∀ x, x ∈ L ↔ x ∈ M) : L.length = M.length := Nat.le_antisymm (sub_len h1 fun x hx => (h x).mp hx) (sub_len h2 fun x hx => (h x).mpr hx)
theorem closed {k : Int} {A : List (List Int)} (hA : ∀ c ∈ A, ∀ g ∈ gP k c, mMet c g ∈ A) : ∀ {row : List (List Int)} {c st : List Int}, c ∈ A → mLeft k c row = some st → st ∈ A
  | [], c, st, hc, h => by cases h; exact hc
  | g :: r, c, st, hc, h => by
    unfold mLeft at h
    split at h
    · rename_i hg
      exact closed hA (hA c hc g hg) h
    · cases h
/-- the groups of a row -/
theorem left_each {k : Int} (hk : 1 ≤ k) : ∀ {row : List (List Int)} {cs st : List Int}, mLeft k cs row = some st → ∀ g ∈ row, (g.length : Int) = k
  | [], _, _, _ => fun g hg => by cases hg
  | g :: r, cs, st, h => by
    unfold mLeft at h
    split at h
    · rename_i hg
      intro g' hg'
      rcases List.mem_cons.mp hg' with rfl | z
      · exact ((mem_gP (by omega)).mp hg).2
      · exact left_each hk h g' z
    · cases h
/-! fives of fours by four -/
noncomputable def F4 : List Int := [4, 4, 4, 4, 4]
theorem f4_near : mLeft 4 F4 [[0, 1, 2, 3], [0, 1, 2, 3], [0, 1, 2, 3], [0, 1, 2, 3]] = some [0, 0, 0, 0, 4] := by decide +kernel
theorem f4_far {row : List (List Int)} {st : List Int} (h : mLeft 4 F4 row = some st) (hr : row.length < 4) : (ws st).length = 5 := by
  obtain ⟨_, h2, h3⟩ := left_sum (by decide) h
  have h2 : st.length = 5 := h2
  have e : ∀ j, j < 5 → st.getD j 0 > 0 := fun j hj => by
    have := h3 j
    have e4 : F4.getD j 0 = 4 := by
      match j, hj with
      | 0, _ => rfl
      | 1, _ => rfl
      | 2, _ => rfl
      | 3, _ => rfl
      | 4, _ => rfl
    rw [e4] at this
    omega
  unfold ws wsI
  rw [List.length_map, h2, List.filter_eq_self.mpr, List.length_range]
  intro j hj
  exact decide_eq_true (e j (List.mem_range.mp hj))
/-! fives of fours by five -/
noncomputable def A5 : List (List Int) := [[0, 0, 0, 0, 0], [1, 1, 1, 1, 1], [2, 2, 2, 2, 2], [3, 3, 3, 3, 3], [4, 4, 4, 4, 4]]
theorem a5_cl : ∀ c ∈ A5, ∀ g ∈ gP 5 c, mMet c g ∈ A5 := by decide +kernel
theorem a5_iff (st : List Int) : (∃ row, mLeft 5 F4 row = some st) ↔ st ∈ A5 := by
  constructor
  · rintro ⟨row, h⟩
    exact closed a5_cl (by decide +kernel) h
  · intro h
    have : ∀ st ∈ A5, ∃ n ∈ List.range 5, mLeft 5 F4 (List.replicate n [0, 1, 2, 3, 4]) = some st := by decide +kernel
    obtain ⟨n, _, e⟩ := this st h
    exact ⟨_, e⟩
theorem a5_nd : A5.Nodup := by decide +kernel
theorem a5_no : ∀ st ∈ A5, (ws st).length = 0 ∨ (ws st).length = 5 := by decide +kernel
/-! fives of twos by one -/
noncomputable def T2 : List Int := [2, 2, 2, 2, 2]
noncomputable def D3 : List Int := [0, 1, 2]
noncomputable def A1 : List (List Int) := D3.flatMap fun a => D3.flatMap fun b => D3.flatMap fun c => D3.flatMap fun d => D3.map fun e => [a, b, c, d, e]
noncomputable def rowT2 (st : List Int) : List (List Int) := (List.range 5).flatMap fun (j : Nat) => List.replicate (2 - st.getD j 0).toNat [(j : Int)]
theorem a1_len : A1.length = 243 := by decide +kernel
theorem a1_nd : A1.Nodup := by decide +kernel
theorem a1_cl : ∀ c ∈ A1, ∀ g ∈ gP 1 c, mMet c g ∈ A1 := by decide +kernel
theorem a1_at : ∀ st ∈ A1, mLeft 1 T2 (rowT2 st) = some st := by decide +kernel
theorem a1_iff (st : List Int) : (∃ row, mLeft 1 T2 row = some st) ↔ st ∈ A1 :=
  ⟨fun ⟨_, h⟩ => closed a1_cl (by decide +kernel) h, fun h => ⟨_, a1_at st h⟩⟩
end My

namespace My
open PySem PySem.Spec PyProof.Rows L2
noncomputable def spRi : Sp := fun vs H Q _ => ∃ H0 k cs vm a, vs = [vm, .ref a] ∧ Cnt k cs ∧ Is H (eMt k cs) vm ∧ EverIs k cs H0 H a ∧ ∀ H', Same H H' → Q (.bl true) H'
theorem no_str {x y : Str} (h : x ≠ y) : decide (V.str x = V.str y) = false := decide_eq_false (fun z => h (by injection z))
theorem dec_int (i j : Int) : decide (V.int i = V.int j) = decide (i = j) := by
  rw [decide_eq_decide]
  exact ⟨fun h => by injection h, fun h => by rw [h]⟩
/-- what ever tells of a list of stands -/
structure EvL (k : Int) (cs : List Int) (ks : List (List Int)) : Prop where
  few : ks.length ≤ 3125
  each : ∀ g ∈ ks, g.length = cs.length
theorem ev_few {k : Int} {cs : List Int} {ks : List (List Int)} (C : Cnt k cs) (nd : ks.Nodup) (h : ∀ st, st ∈ ks ↔ ∃ row, mLeft k cs row = some st) : EvL k cs ks := by
  refine ⟨vec_few C.n5 nd fun g hg => ?_, fun g hg => ?_⟩
  · obtain ⟨row, e⟩ := (h g).mp hg
    exact ⟨(left_sum C.k1 e).2.1, (C.left e).each⟩
  · obtain ⟨row, e⟩ := (h g).mp hg
    exact (left_sum C.k1 e).2.1
theorem left_few {k : Int} {cs st : List Int} {row : List (List Int)} (C : Cnt k cs) (h : mLeft k cs row = some st) : row.length ≤ 20 ∧ ∀ g ∈ row, g.length ≤ 5 := by
  have k1 := C.k1
  have k5 := C.k5
  have n5 := C.n5
  have hs := sum_ge C.each
  have h1 := (left_sum k1 h).1
  have h3 := (sum_ge (C.left h).each).1
  have h4 : 1 * (row.length : Int) ≤ k * (row.length : Int) := Int.mul_le_mul_of_nonneg_right k1 (by omega)
  refine ⟨by omega, fun g hg => ?_⟩
  have := left_each k1 h g hg
  omega
section
variable {P : Program} {w : World} {K : PySem.W.Frag} {mg : Str → Option Value} {base : Heap}
theorem sc_lright : FnScope ["meeting", "found", "known", "depth", "left"] ["meeting", "found"] (defScope s_lright) := ⟨rfl, rfl, rfl, by decide +kernel, rfl, by decide +kernel, by decide +kernel⟩
theorem ok_lright (D : Def K mg "_law_e_right" s_lright) (T : Txt K mg) (o1 : Ok P w K mg base "_law_e_search" 2 ["meeting"] spSe) (o2 : Ok P w K mg base "_law_e_is_row" 1 ["found"] spIr) (o3 : Ok P w K mg base "_law_e_left" 2 ["meeting", "row"] spBy) (o4 : Ok P w K mg base "_law_e_groups" 1 ["k", "counts"] spLg) : Ok P w K mg base "_law_e_right" 3 ["meeting", "found"] spRi := by
  refine mkOk D sc_lright (fun _ _ _ _ _ _ us hl => (match us, hl with | [_, _], _ => rfl)) (fun vs H Q E ⟨_, _, _, _, _, e, _⟩ => by rw [e]; rfl) fun f cdv A outer s H vs Q E hr h => ?_
  obtain ⟨H0, k, cs, vm, a, rfl, C, hm, ev, kk⟩ := h
  have nd := sc_lright.nd
  have hun := hr.units
  have hu1 := Nat.lt_of_le_of_lt (Nat.add_le_add_left (by decide : 1 ≤ 64) _) hun
  have hu8 := Nat.lt_of_le_of_lt (Nat.add_le_add_left (by decide : 8 ≤ 64) _) hun
  have r1 := hr.mono (show 1 ≤ 2 by decide)
  refine ⟨_, pss_cons (ps_asg (pe_fn o1 hr (pa_cons (pv 0) pa_nil)) (pg_tup rfl (pgs_cons (pg_name (i := 2) nd rfl (Or.inr rfl)) (pgs_cons (pg_name (i := 3) nd rfl (Or.inl rfl)) pgs_nil))))
    (pss_cons (ps_if (PW.pt (pw_or (pt_not (pt_val (pe_isi T.isi T.tuple bt_tuple (pv 1)))) (pw_or (pt_cmpR op_ne (pe_callB call_len_seq rfl T.len bt_len (pa_cons (pv 1) pa_nil)) pe_int (nomark _)) (pw_or1 (pt_not (pt_val (pe_fn o2 r1 (pa_cons (pe_ix ix_tup (pv 1) pe_int (fun _ _ => rfl)) pa_nil)))))))) (pss_one (ps_ret pe_bl)) pss_nil)
    (pss_cons (ps_if (pt_cmpR op_lt (pv 3) pe_int (nomark _))
      (pss_cons (ps_if (PW.pt (pw_or (pt_cmpR op_ne (pe_ix ix_tup (pv 1) pe_int (fun _ _ => rfl)) pe_str (nomark _)) (pw_or1 (pt_cmpR op_ne (pe_callB call_len_seq rfl T.len bt_len (pa_cons (pe_ix ix_tup (pv 1) pe_int (fun _ _ => rfl)) pa_nil)) (pe_callB call_lenT rfl T.len bt_len (pa_cons (pv 2) pa_nil)) (nomark _))))) (pss_one (ps_ret pe_bl)) pss_nil)
      (pss_one (ps_ret (pe_and (pe_cmpR op_eq (pe_callB call_lenS rfl T.len bt_len (pa_cons (pe_callTy (call_setI rfl hu8) rfl T.set bt_set (pa_cons (pe_ix ix_tup (pv 1) pe_int (fun _ _ => rfl)) pa_nil)) pa_nil)) (pe_callB call_lenT rfl T.len bt_len (pa_cons (pv 2) pa_nil)) (nomark _))
        (pe_one (pe_callB (call_all rfl) rfl T.all bt_all (pa_cons (pe_lc (own := ["counts"]) (cap := [2]) rfl (lcScope (defScope s_lright) rfl rfl (by decide +kernel) (by decide +kernel) (by decide +kernel) ⟨⟨_, rfl, .inl rfl, noLoc rfl⟩, trivial⟩) (pi_list (pe_ix ix_tup (pv 1) pe_int (fun _ _ => rfl)))
          (fun _ _ _ _ => pg_name (i := 0) (by show (["counts", "known"] : List Str).Nodup; decide +kernel) rfl (Or.inl rfl)) (fun _ _ _ _ => pif_nil) (fun _ _ _ _ => pe_cmp (pc_din hu1 (pv 0) (pv 1)))) pa_nil)))))))
      pss_nil)
    (pss_cons (ps_set (i := 4) nd rfl (Or.inl rfl) (pe_fn o3 hr (pa_cons (pv 0) (pa_cons (pe_ix ix_tup (pv 1) pe_int (fun _ _ => rfl)) pa_nil))))
    (pss_cons (ps_if (PW.pt (pw_or (pt_cmpR op_ne (pe_ix ix_tup (pv 1) pe_int (fun _ _ => rfl)) pe_str (nomark _)) (pw_or (pt_cmpR op_ne (pe_callB call_len_seq rfl T.len bt_len (pa_cons (pe_ix ix_tup (pv 1) pe_int (fun _ _ => rfl)) pa_nil)) (pv 3) (nomark _)) (pw_or1 (pt_cmpR op_isN (pv 4) pe_non (nomark _)))))) (pss_one (ps_ret pe_bl)) pss_nil)
    (pss_one (ps_ret (pe_and (pe_cmpR op_gt (pe_callB (call_sumT rfl) rfl T.sum bt_sum (pa_cons (pv 4) pa_nil)) pe_int (nomark _)) (pe_one (pe_cmpR (op_eqTrR hun) (pe_fn o4 r1 (pa_cons (pe_ix ix_tup (pv 0) pe_int (fun _ _ => rfl)) (pa_cons (pv 4) pa_nil))) (pe_lstR pa_nil) (nomark _)))))))))), ?_⟩
  have k1 := C.k1
  have n5 := C.n5
  refine ⟨_, rfl, k, cs, vm, rfl, C, hm, fun b d ks j H1 s1 hb hD se => ?_⟩
  refine ⟨b, _, rfl, SqT.of hb, rfl, _, _, rfl, _, _, rfl, rfl, ?_⟩
  obtain ⟨x, l, L, ha, iL, hL7, hL1⟩ : ∃ x l L, H a = some (.tup [.str x, .ref l]) ∧ Is H (rowT L) (.ref l) ∧ L.length ≤ 7000 ∧ ∀ g ∈ L, g.length ≤ 100 := by
    rcases ev with ⟨l, row, st, h1, _, h2, h3, _⟩ | ⟨l, L, h1, _, h2, h3, h4, _⟩
    · obtain ⟨z1, z2⟩ := left_few C h3
      exact ⟨_, l, row, h1, h2, by omega, fun g hg => by have := z2 g hg; omega⟩
    · have z := ev_few C h3 h4
      exact ⟨_, l, L, h1, h2, by have := z.few; omega, fun g hg => by have := z.each g hg; omega⟩
  have ha1 := s1 _ _ ha
  refine ⟨_, rfl, _, "tuple", _, _, rfl, .tup ha1, kit_tuple K (.tup []), _, rfl, iteF ?_⟩
  refine ⟨_, rfl, a, _, rfl, .inr (SqT.of ha1), rfl, _, rfl, iteF ?_⟩
  refine ⟨_, rfl, a, _, _, _, rfl, rfl, SqT.of ha1, at1, l, L, rfl, Rb.of (iL.mono s1) hL7 hL1, fun H2 s2 => ⟨_, rfl, iteF ?_⟩⟩
  have s02 := s1.trans s2
  have hD2 := hD.same s2
  have ha2 := s02 _ _ ha
  refine ⟨_, rfl, _, _, rfl, rfl, _, rfl, ?_⟩
  rcases se with ⟨rfl, snd, sall, sno⟩ | ⟨n, rfl, ⟨rw0, st0, q1, q2, q3⟩, smin⟩
  · refine iteT ?_
    rcases ev with ⟨l', row, st, h1, _, h2, h3, h4, _⟩ | ⟨l', L', h1, _, h2, h3, h4, _⟩
    · exfalso
      have := sno st ((sall st).mpr ⟨row, h3⟩)
      rw [h4] at this
      cases this
    have e := ha.symm.trans h1
    cases e
    have hlen := len_mem h3 snd fun st => (h4 st).trans (sall st).symm
    obtain ⟨_, xs, e, gl, il⟩ := h2.mono s02
    cases e
    have hxl := il.length
    rw [List.length_map] at hxl
    have z := (ev_few C h3 h4).few
    refine ⟨_, rfl, a, _, _, _, rfl, rfl, SqT.of ha2, at0, rfl, _, rfl, ?_⟩
    rw [decStr]
    refine iteF ⟨_, rfl, a, _, _, _, rfl, rfl, SqT.of ha2, at1, l, xs, rfl, .inl (SqL.of gl), _, rfl, d, ks, rfl, hD2, rfl, _, rfl, ?_⟩
    rw [dec_int, hxl, hlen, decide_eq_true rfl]
    refine iteF ?_
    refine ⟨_, rfl, a, _, _, _, rfl, rfl, SqT.of ha2, at1, l, xs, L', rfl, gl, il, h3, by omega, fun dd H3 s3 hdd hS => ?_⟩
    refine ⟨dd, _, rfl, hS, _, rfl, d, ks, rfl, hD2.same s3, rfl, _, rfl, ?_⟩
    rw [dec_int, hlen, decide_eq_true rfl]
    refine iteT ?_
    have gl3 := s3 _ _ gl
    have hD3 := hD2.same s3
    refine ⟨_, rfl, a, _, _, _, rfl, rfl, SqT.of (s3 _ _ ha2), at1, l, rfl, ⟨_, SqL.of gl3⟩, ?_⟩
    refine lc_list (xs := xs) (fun i ys H' => Same H3 H' ∧ ys = (List.replicate i true).map V.bl) ⟨Same.refl H3, rfl⟩ (fun i ys H' hi ⟨s', e⟩ => ⟨SqL.of (s' _ _ gl3), by rw [e, List.length_map, List.length_replicate]; exact big_le (by omega)⟩) ?_ ?_
    · rintro i y ys H4 hy ⟨s4, rfl⟩
      refine gIf0 ?_
      obtain ⟨g, eg, ig⟩ := get_tI (il.mono (s3.trans s4)) hy
      obtain ⟨ag, rfl, _⟩ := tI_open ig
      obtain ⟨o, hg, ho⟩ := (hD3.same s4).get ig
      refine ⟨_, rfl, _, rfl, d, o, rfl, hg, s4, ?_⟩
      rw [ho, decide_eq_true ((sall g).mpr ((h4 g).mp (List.mem_of_getElem? eg))), List.replicate_succ', List.map_append]
      rfl
    · rintro ys H4 ⟨s4, rfl⟩ p hp
      refine ⟨p, _, rfl, SqL.of upd_same, ?_⟩
      have e : (List.replicate xs.length true).all id = true := by simp
      rw [e]
      exact kk _ (s02.trans (s3.trans (s4.trans (Same.new hp _))))
  · rw [decide_eq_false (by omega)]
    refine iteF ?_
    rcases ev with ⟨l', row, st, h1, _, h2, h3, h4, hmin⟩ | ⟨l', L', h1, _, h2, h3, h4, h5⟩
    rotate_left
    · exfalso
      have := h5 st0 ((h4 st0).mpr ⟨rw0, q1⟩)
      rw [q3] at this
      cases this
    have e := ha.symm.trans h1
    cases e
    obtain ⟨z1, z2⟩ := left_few C h3
    have hn : row.length = n := by
      have := hmin rw0 st0 q1 q3
      have := smin row st h3 h4
      omega
    have Cs := C.left h3
    refine ⟨_, rfl, _, rfl, a, _, _, _, rfl, rfl, SqT.of ha2, at1, k, cs, vm, l, row, rfl, C, hm.mono s02, Rw.of (h2.mono s02) (by omega) (fun g hg => by have := z2 g hg; omega), fun e => (by rw [h3] at e; cases e), fun c v H3 e s3 iv => ?_⟩
    rw [h3] at e
    cases e
    have s03 := s02.trans s3
    obtain ⟨av, rfl, hav⟩ := tI_open iv
    obtain ⟨_, xs, e, gl, il⟩ := h2.mono s03
    cases e
    have hxl := il.length
    rw [List.length_map] at hxl
    have ss := sum63 Cs
    obtain ⟨g1, g2⟩ := (lv_iff Cs).mp h4
    refine ⟨_, rfl, a, _, _, _, rfl, rfl, SqT.of (s3 _ _ ha2), at0, rfl, _, rfl, ?_⟩
    rw [decStr]
    refine iteF ⟨_, rfl, a, _, _, _, rfl, rfl, SqT.of (s3 _ _ ha2), at1, l, xs, rfl, .inl (SqL.of gl), _, rfl, rfl, _, rfl, ?_⟩
    rw [dec_int, hxl, hn, decide_eq_true rfl]
    refine iteF ⟨_, rfl, rfl, _, rfl, iteF ?_⟩
    refine ⟨_, rfl, av, st, rfl, SqT.of hav, ss.1, ss.2, _, _, rfl, rfl, _, rfl, ?_⟩
    rw [decide_eq_true g2]
    obtain ⟨am, vc, rfl, ham, _⟩ := mt_open (hm.mono s03)
    refine iteT ⟨_, rfl, am, _, _, _, rfl, rfl, SqT.of ham, at0, _, rfl, k, st, _, rfl, iv, Cs.n5, k1, fun gs lg ys H4 s4 pg hlg g4 i4 => ?_⟩
    have hgs : gs = [] := by
      cases hh : gs with
      | nil => rfl
      | cons q r =>
        have : q ∈ gP k st := (gp_mem k1 pg).mp (by rw [hh]; exact List.mem_cons_self)
        rw [g1] at this
        cases this
    refine ⟨by show 0 ≤ 1000; decide, fun p5 H5 s5 _ g5 => ?_⟩
    refine ⟨rowT gs, .lst [], ⟨lg, ys, rfl, s5 _ _ g4, i4.mono s5⟩, ⟨p5, [], rfl, g5, rfl⟩, lay_row gs, by kernel_rfl, by decide +kernel, ?_⟩
    rw [show id (PyData.eqv (toD (rowT gs)) (toD (.lst []))) = decide (gs = []) from eqv_row0 gs, decide_eq_true hgs]
    exact kk _ (s03.trans (s4.trans s5))
end
end My

namespace My
open PySem PySem.Spec PyProof.Rows L2
abbrev s_lawY : Stmt := top 40
noncomputable def Bt (tb : Addr) (H H' : Hp) : Prop := ∀ b o, b ≠ tb → H b = some o → H' b = some o
noncomputable def IsTb (tb : Addr) (H : Hp) : Prop := ∃ ps, H tb = some (.tbl ps)
theorem tb_is {tb : Addr} {pos : Pos} {qual : Str} {H : Hp} (h : TbOk tb pos qual H) : IsTb tb H := let ⟨ps, h, _⟩ := h; ⟨ps, h⟩
theorem Bt.tups {tb : Addr} {H H' : Hp} (b : Bt tb H H') (t : IsTb tb H) : Tups H H' := fun c xs e => b c _ (fun z => by obtain ⟨ps, h⟩ := t; rw [z, h] at e; cases e) e
theorem Bt.row {tb l : Addr} {H H' : Hp} {row : List (List Int)} (b : Bt tb H H') (t : IsTb tb H) (r : Is H (rowT row) (.ref l)) : Is H' (rowT row) (.ref l) :=
  row_keep (b.tups t) (fun xs e => b l _ (fun z => by obtain ⟨ps, h⟩ := t; rw [z, h] at e; cases e) e) r
theorem fro_mt (k : Int) (cs : List Int) : Fro (eMt k cs) := by
  unfold eMt Fro FroL
  exact ⟨trivial, fro_tI cs, trivial⟩
noncomputable def tLstK (K : PySem.W.Frag) (t : TA) : TE := fun σ H Q => t σ H fun xs H1 => xs.length ≤ sizeLine ∧ ∀ p, H1 p = none → K.lookup p = none → Q (.ref p) (upd H1 p (.lst xs))
theorem pe_lstK {X : Cx} {es : List Expr} {t : TA} {pos : Pos} (h : PA X es t) : PE X (.List es pos) (tLstK X.K t) := by
  intro pins s σ H Q I hq
  refine wpAny_List_spliced (thn (h pos pins s σ H _ I hq) fun us s1 ⟨xs, H1, I1, r, z, q⟩ => ⟨by rw [← r.length]; exact z, ?_⟩)
  have hf : H1 s1.heap.objs.size = none := I1.hok.fresh (Nat.le_refl _)
  have hk : X.K.lookup s1.heap.objs.size = none := by
    cases e : X.K.lookup s1.heap.objs.size with
    | none => rfl
    | some o => exact absurd (Heap.lt_size (I1.kIn _ _ e)) (Nat.lt_irrefl _)
  exact ⟨.ref s1.heap.objs.size, upd H1 s1.heap.objs.size (.lst xs), I1.laid (t' := s1.toks) (fun b u e => Heap.get?_push_of_some _ e) (Nat.le_refl _) ⟨z, us, 0, r, Heap.get?_push_size _ rfl⟩, rfl, q _ hf hk⟩
theorem sq_bt {K : PySem.W.Frag} {tb s : Addr} {H H' : Hp} {xs : List V} (h : SqL K H s xs) (b : Bt tb H H') (t : IsTb tb H) : SqL K H' s xs := by
  obtain ⟨ps, ht⟩ := t
  rcases h with (q | ⟨o, q⟩) | q
  · exact .inl (.inl (b s _ (fun z => by rw [z, ht] at q; cases q) q))
  · exact .inl (.inr ⟨o, b s _ (fun z => by rw [z, ht] at q; cases q) q⟩)
  · exact .inr q
theorem tape_bt {K : PySem.W.Frag} {tb a s : Addr} {H H' : Hp} {ns : List Int} (h : Tape K H a s ns) (b : Bt tb H H') (t : IsTb tb H) : Tape K H' a s ns := by
  obtain ⟨⟨p, r, e, h1, h2⟩, q, n, l⟩ := h
  exact ⟨⟨p, r, b a _ (fun z => by obtain ⟨ps, ht⟩ := t; rw [z, ht] at e; cases e) e, h1, h2⟩, sq_bt q b t, n, l⟩
theorem tb_but {tb a : Addr} {pos : Pos} {qual : Str} {H H' : Hp} {xs : List V} (h : TbOk tb pos qual H) (b : But a H H') (ha : H a = some (.lst xs)) : TbOk tb pos qual H' := by
  obtain ⟨ps, h1, h2, h3⟩ := h
  exact ⟨ps, b _ _ (fun z => by rw [z, ha] at h1; cases h1) h1, h2, h3.imp id fun ⟨c, oc, x, y, d⟩ => ⟨c, oc, x, b _ _ (fun z => by rw [z, ha] at y; cases y) y, d⟩⟩
noncomputable def spLaw (tb : Addr) (K : PySem.W.Frag) : Sp := fun vs H Q _ => ∃ (a : Addr) (ns : List Int), vs = [.ref a] ∧ SqL K H a (ns.map V.int) ∧ ns.length ≤ 63 ∧ TbOk tb lmPos lmQual H ∧ ∀ H', Q (.bl true) H'
theorem tIf_and {t1 t2 : TT} {tb tn : TS} {D : Ends} {σ : L2.St} {H : Hp} (G : Hp → Prop) (b : Bool) (g : G H) (h1 : ∀ Q : Bool → Hp → Prop, Q b H → t1 σ H Q) (s : ∀ H', G H' → tn D σ H')
    (r : (∀ H', G H' → tn D σ H') → b = true → t2 σ H fun c H1 => if c = true then tb D σ H1 else tn D σ H1) : tIfS (tAnd t1 t2) tb tn D σ H := by
  refine h1 _ ?_
  cases b with
  | true => exact iteT (r s rfl)
  | false => exact iteF (iteF (s H g))
theorem for_range2 {lo : Int} {n : Nat} {g : TG} {tb : TS} {D : Ends} {σ : L2.St} {H : Hp} (Fi : L2.St → Hp → Prop) (Pv : Nat → L2.St → Hp → Prop) (h0 : Pv 0 σ H) (fin : ∀ σ H, Fi σ H → D.nx σ H)
    (hs : (∀ σ H, Fi σ H → D.nx σ H) → ∀ i σ H, i < n → Pv i σ H → g (.int (lo + i)) σ H fun σ2 H2 => tb { D with nx := Pv (i + 1), ct := Pv (i + 1), bk := D.nx } σ2 H2) (hd : ∀ σ H, Pv n σ H → Fi σ H) :
    ∃ W : Nat → Nat → L2.St → Hp → Prop, (∃ m, W 0 m σ H) ∧ ∀ i m σ H, W i m σ H →
      ((Itr lo n).stop i H ∧ D.nx σ H) ∨ ((Itr lo n).go i H ∧ ∃ N : L2.St → Hp → Prop, (∀ σ' H', N σ' H' → ∃ m', m' < m ∧ W (i + 1) m' σ' H') ∧ ∀ x H', (Itr lo n).yld i H x H' → g x σ H' fun σ2 H2 => tb { D with nx := N, ct := N, bk := D.nx } σ2 H2) :=
  for_range Pv h0 (hs fin) (fun σ H p => fin σ H (hd σ H p))
theorem mt_new {H : Hp} {k : Int} {cs : List Int} {a b : Addr} (h : H a = some (.tup [.int k, .ref b])) (hb : H b = some (.tup (cs.map V.int))) : Is H (eMt k cs) (.ref a) := ⟨a, _, rfl, h, IsL.two rfl (tI_new hb)⟩
theorem cF4 {k : Int} (h1 : 1 ≤ k) (h5 : k ≤ 5) : Cnt k F4 := ⟨h1, h5, by decide, by decide, by decide⟩
theorem cT2 : Cnt 1 T2 := ⟨by decide, by decide, by decide, by decide, by decide⟩
theorem ever_val {k : Int} {cs : List Int} {L : List (List Int)} (C : Cnt k cs) (nd : L.Nodup) (h : ∀ st, st ∈ L ↔ ∃ row, mLeft k cs row = some st) (no : ∀ st ∈ L, lvB k st = false) : mEver k cs L = true := by
  unfold mEver
  have h1 : L.all (likeB cs) = true := List.all_eq_true.mpr fun g hg => by
    obtain ⟨row, e⟩ := (h g).mp hg
    unfold likeB
    rw [Bool.and_eq_true]
    refine ⟨decide_eq_true (left_sum C.k1 e).2.1, List.all_eq_true.mpr fun c hc => ?_⟩
    have := (C.left e).each c hc
    rw [Bool.and_eq_true]
    exact ⟨decide_eq_true this.1, decide_eq_true this.2⟩
  have h2 : cs ∈ L := (h cs).mpr ⟨[], rfl⟩
  have h3 : L.any (lvB k) = false := by
    rw [List.any_eq_false]
    intro g hg
    rw [no g hg]
    decide
  have h4 : L.all (clB k L) = true := List.all_eq_true.mpr fun g hg => by
    obtain ⟨row, e⟩ := (h g).mp hg
    unfold clB
    exact List.all_eq_true.mpr fun q hq => decide_eq_true ((h _).mpr ⟨_, mLeft_snoc e hq⟩)
  rw [h1, h3, h4, decide_eq_true nd, decide_eq_true h2]
  rfl
theorem left_is {k : Int} {cs st : List Int} {row : List (List Int)} (h : mLeft k cs row = some st) (hl : lvB k st = true) : mLv k cs row = true := by
  unfold mLv
  rw [h]
  exact hl
theorem ev4 {H0 H' : Hp} {a : Addr} (e : EverIs 4 F4 H0 H' a) : ∃ l row, H' a = some (.tup [.str "left", .ref l]) ∧ Is H' (rowT row) (.ref l) ∧ row.length = 4 ∧ (∀ g ∈ row, g.length ≤ 5) ∧ mLv 4 F4 row = true := by
  rcases e with ⟨l, row, st, h1, _, h2, h3, h4, h5⟩ | ⟨l, L, h1, _, h2, h3, h4, h5⟩
  · refine ⟨l, row, h1, h2, ?_, (left_few (cF4 (by decide) (by decide)) h3).2, left_is h3 h4⟩
    have z1 := h5 _ _ f4_near (by decide +kernel)
    have z1 : row.length ≤ 4 := z1
    by_cases z2 : row.length < 4
    · exfalso
      have := f4_far h3 z2
      unfold lvB at h4
      rw [this] at h4
      exact absurd h4 (by decide)
    · omega
  · exfalso
    have := h5 _ ((h4 _).mpr ⟨_, f4_near⟩)
    exact absurd this (by decide +kernel)
theorem ev1 {H0 H' : Hp} {a : Addr} (e : EverIs 1 T2 H0 H' a) : ∃ l ks, H' a = some (.tup [.str "ever", .ref l]) ∧ Is H' (rowT ks) (.ref l) ∧ ks.Nodup ∧ ks.length = 243 := by
  rcases e with ⟨l, row, st, h1, _, h2, h3, h4, h5⟩ | ⟨l, L, h1, _, h2, h3, h4, h5⟩
  · exfalso
    unfold lvB at h4
    rw [Bool.and_eq_true] at h4
    have a1 := of_decide_eq_true h4.1
    have a2 := of_decide_eq_true h4.2
    omega
  · exact ⟨l, L, h1, h2, h3, (len_mem h3 a1_nd fun st => (h4 st).trans (a1_iff st)).trans a1_len⟩
theorem ev5 {H0 H' : Hp} {a : Addr} (e : EverIs 5 F4 H0 H' a) : ∃ l ks, H' a = some (.tup [.str "ever", .ref l]) ∧ Is H' (rowT ks) (.ref l) ∧ ks.Nodup ∧ ∀ st, st ∈ ks ↔ st ∈ A5 := by
  rcases e with ⟨l, row, st, h1, _, h2, h3, h4, h5⟩ | ⟨l, L, h1, _, h2, h3, h4, h5⟩
  · exfalso
    have := a5_no st ((a5_iff st).mp ⟨row, h3⟩)
    unfold lvB at h4
    rw [Bool.and_eq_true] at h4
    have a1 := of_decide_eq_true h4.1
    have a2 := of_decide_eq_true h4.2
    omega
  · exact ⟨l, L, h1, h2, h3, fun st => (h4 st).trans (a5_iff st)⟩
theorem lexI_irr : ∀ g : List Int, lexI g g = false
  | [] => rfl
  | p :: r => by unfold lexI; rw [if_pos rfl]; exact lexI_irr r
theorem lexI_asym : ∀ g g' : List Int, lexI g g' = true → lexI g' g = true → g = g'
  | [], [], _, _ => rfl
  | [], _ :: _, _, h => by cases h
  | _ :: _, [], h, _ => by cases h
  | p :: r, q :: t, h, h' => by
    unfold lexI at h h'
    by_cases c : p = q
    · rw [if_pos c] at h
      rw [if_pos c.symm] at h'
      rw [c, lexI_asym r t h h']
    · rw [if_neg c] at h
      rw [if_neg (fun z => c z.symm)] at h'
      have a1 := of_decide_eq_true h
      have a2 := of_decide_eq_true h'
      omega
theorem a5_up : A5.Pairwise (fun g g' => lexI g g' = true) := by decide +kernel
theorem perm_of {L M : List (List Int)} (h1 : L.Nodup) (h2 : M.Nodup) (h : ∀ x, x ∈ L ↔ x ∈ M) : L.Perm M := (List.perm_ext_iff_of_nodup h1 h2).mpr h
theorem a5_get : ∀ i : Nat, i < 5 → A5[i]? = some (List.replicate 5 (i : Int)) := by decide +kernel
section
variable {P : Program} {w : World} {K : PySem.W.Frag} {mg : Str → Option Value} {base : Heap}
theorem sc_lawY : FnScope ["script", "deck", "k", "meeting", "turn", "found", "fours"] ["script"] (defScope s_lawY) := ⟨rfl, rfl, rfl, by decide +kernel, rfl, by decide +kernel, by decide +kernel⟩
theorem ok_lawY {tb f0 : Addr} {fd0 : FuncData} (F : Fun K "law" "law" s_lawY f0 fd0) (T : Txt K mg) (o1 : Ok P w K mg base "_law_e_meeting" 3 ["deck", "great"] (spMt K)) (o2 : Ok P w K mg base "ever" 6 ["meeting"] (spEr tb)) (o3 : Ok P w K mg base "_law_e_right" 3 ["meeting", "found"] spRi) (o4 : Ok P w K mg base "are_ever" 6 ["meeting", "stands"] spAe) (o5 : Ok P w K mg base "is_left" 6 ["meeting", "row"] (spRow mLv)) :
    FnOk P w K mg base CX0 7 f0 fd0 ["script"] (spLaw tb K) := by
  refine F.ok sc_lawY (fun vs H Q E ⟨_, _, e, _⟩ => by rw [e]; rfl) fun cdv A outer sh H vs Q E hr h => ?_
  obtain ⟨s, ns, rfl, hS, h63, hT, kk⟩ := h
  have nd := sc_lawY.nd
  have hun := hr.units
  have hu8 := Nat.lt_of_le_of_lt (Nat.add_le_add_left (by decide : 8 ≤ 64) _) hun
  have r3 := hr.mono (show 3 ≤ 6 by decide)
  refine ⟨_, pss_cons (ps_set (i := 1) nd rfl (Or.inl rfl) (pe_lstK (pa_cons (pv 0) (pa_cons pe_int (pa_cons pe_int pa_nil)))))
    (pss_cons (ps_for PassesOwn.never rfl (pi_range1 rfl T.range (pa_cons pe_int pa_nil)) (pg_name (i := 2) nd rfl (Or.inl rfl))
      (pss_cons (ps_if (PW.pt (pw_and (pt_cmpR op_gt (pv 2) pe_int (nomark _)) (pw_and1 (pt_cmpR op_ge (pe_ix ix_list (pv 1) pe_int (fun _ _ => rfl)) (pe_callB call_len_seq (by rfl) T.len bt_len (pa_cons (pv 0) pa_nil)) (nomark _))))) (pss_one ps_break) pss_nil)
      (pss_cons (ps_set (i := 3) nd rfl (Or.inl rfl) (pe_fn o1 r3 (pa_cons (pv 1) (pa_cons pe_bl pa_nil))))
      (pss_one (ps_for PassesOwn.never rfl (pi_range1 rfl T.range (pa_cons pe_int pa_nil)) (pg_name (i := 4) nd rfl (Or.inl rfl))
        (pss_cons (ps_set (i := 5) nd rfl (Or.inl rfl) (pe_fn o2 hr (pa_cons (pv 3) pa_nil)))
        (pss_cons (ps_if (pt_not (pt_val (pe_fn o3 r3 (pa_cons (pv 3) (pa_cons (pv 5) pa_nil))))) (pss_one (ps_ret pe_bl)) pss_nil)
        (pss_cons (ps_if (PW.pt (pw_and (pt_cmpR op_eq (pe_ix ix_tup (pv 5) pe_int (fun _ _ => rfl)) pe_str (nomark _)) (pw_and1 (pt_cmpR op_isnotB (pe_fn o4 hr (pa_cons (pv 3) (pa_cons (pe_ix ix_tup (pv 5) pe_int (fun _ _ => rfl)) pa_nil))) pe_bl (nomark _))))) (pss_one (ps_ret pe_bl)) pss_nil)
        (pss_cons (ps_if (PW.pt (pw_and (pt_cmpR op_eq (pe_ix ix_tup (pv 5) pe_int (fun _ _ => rfl)) pe_str (nomark _)) (pw_and1 (pt_cmpR op_isnotB (pe_fn o5 hr (pa_cons (pv 3) (pa_cons (pe_ix ix_tup (pv 5) pe_int (fun _ _ => rfl)) pa_nil))) pe_bl (nomark _))))) (pss_one (ps_ret pe_bl)) pss_nil)
        (pss_one (ps_expr (pe_bm PySem.F.plainAttrs_list PySem.F.slot_list_append PySem.F.type_list_append mt_append (pe_ix ix_tup (pv 5) pe_int (fun _ _ => rfl)) (pa_cons pe_non pa_nil)))))))))))))
    (pss_cons (ps_set (i := 6) nd rfl (Or.inl rfl) (pe_tupR (pa_cons pe_int (pa_cons pe_int (pa_cons pe_int (pa_cons pe_int (pa_cons pe_int pa_nil)))))))
    (pss_cons (ps_set (i := 5) nd rfl (Or.inl rfl) (pe_fn o2 hr (pa_cons (pe_tupR (pa_cons pe_int (pa_cons (pv 6) pa_nil))) pa_nil)))
    (pss_cons (ps_if (PW.pt (pw_or (pt_cmpR op_ne (pe_ix ix_tup (pv 5) pe_int (fun _ _ => rfl)) pe_str (nomark _)) (pw_or (pt_cmpR op_ne (pe_callB call_len_seq rfl T.len bt_len (pa_cons (pe_ix ix_tup (pv 5) pe_int (fun _ _ => rfl)) pa_nil)) pe_int (nomark _)) (pw_or1 (pt_cmpR op_isnotB (pe_fn o5 hr (pa_cons (pe_tupR (pa_cons pe_int (pa_cons (pv 6) pa_nil))) (pa_cons (pe_ix ix_tup (pv 5) pe_int (fun _ _ => rfl)) pa_nil))) pe_bl (nomark _)))))) (pss_one (ps_ret pe_bl)) pss_nil)
    (pss_cons (ps_set (i := 5) nd rfl (Or.inl rfl) (pe_fn o2 hr (pa_cons (pe_tupR (pa_cons pe_int (pa_cons (pe_tupR (pa_cons pe_int (pa_cons pe_int (pa_cons pe_int (pa_cons pe_int (pa_cons pe_int pa_nil)))))) pa_nil))) pa_nil)))
    (pss_cons (ps_if (PW.pt (pw_or (pt_cmpR op_ne (pe_ix ix_tup (pv 5) pe_int (fun _ _ => rfl)) pe_str (nomark _)) (pw_or (pt_cmpR op_ne (pe_callB call_lenS rfl T.len bt_len (pa_cons (pe_callTy (call_setI rfl hu8) rfl T.set bt_set (pa_cons (pe_ix ix_tup (pv 5) pe_int (fun _ _ => rfl)) pa_nil)) pa_nil)) pe_int (nomark _)) (pw_or1 (pt_cmpR op_ne (pe_callB call_len_seq rfl T.len bt_len (pa_cons (pe_ix ix_tup (pv 5) pe_int (fun _ _ => rfl)) pa_nil)) pe_int (nomark _)))))) (pss_one (ps_ret pe_bl)) pss_nil)
    (pss_cons (ps_set (i := 5) nd rfl (Or.inl rfl) (pe_fn o2 hr (pa_cons (pe_tupR (pa_cons pe_int (pa_cons (pv 6) pa_nil))) pa_nil)))
    (pss_one (ps_ret (pe_and (pe_cmpR op_eq (pe_ix ix_tup (pv 5) pe_int (fun _ _ => rfl)) pe_str (nomark _)) (pe_one (pe_cmpR (op_eqTrR hun) (pe_callB call_sortU rfl T.sorted bt_sorted (pa_cons (pe_ix ix_tup (pv 5) pe_int (fun _ _ => rfl)) pa_nil)) (pe_lc (own := ["count"]) (cap := []) rfl (lcScope (defScope s_lawY) rfl rfl (by decide +kernel) (by decide +kernel) (by decide +kernel) trivial) (pi_range1 rfl T.range (pa_cons pe_int pa_nil))
      (fun _ _ _ _ => pg_name (i := 0) (by show (["count"] : List Str).Nodup; decide +kernel) rfl (Or.inl rfl)) (fun _ _ _ _ => pif_nil) (fun _ _ _ _ => pe_op (op_repTr (S := fun _ => False)) (pe_tupR (pa_cons (pv 0) pa_nil)) pe_int)) (nomark _))))))))))))), ?_⟩
  refine ⟨_, rfl, (by show 3 ≤ sizeLine; decide), fun a ha hKa => ?_⟩
  have sa := Same.new ha (.lst [.ref s, .int 0, .int 0])
  have T0 : Tape K (upd H a (.lst [.ref s, .int 0, .int 0])) a s ns := by
    have e : s ≠ a := fun z => by
      rcases hS with (q | ⟨o, q⟩) | ⟨o, its, n, q, _⟩
      · rw [z, ha] at q; cases q
      · rw [z, ha] at q; cases q
      · have hKa : K.lookup a = none := hKa
        rw [z, hKa] at q; cases q
    exact ⟨⟨0, 0, upd_same, Int.le_refl 0, Int.le_refl 0⟩, sa.seq hS, e, h63⟩
  have hT0 := hT.same sa
  generalize upd H a (.lst [.ref s, .int 0, .int 0]) = H0 at T0 sa hT0 ⊢
  refine ⟨3, rfl, by decide, by decide, ?_⟩
  refine for_range2 (lo := 0) (n := (3 : Int).toNat) (fun σ H' => TbOk tb lmPos lmQual H' ∧ ∃ x2 x3 x4 x5 x6, σ = [some (.ref s), some (.ref a), x2, x3, x4, x5, x6]) (fun i σ H' => Tape K H' a s ns ∧ TbOk tb lmPos lmQual H' ∧ ∃ x2 x3 x4 x5 x6, σ = [some (.ref s), some (.ref a), x2, x3, x4, x5, x6]) ⟨T0, hT0, none, none, none, none, none, rfl⟩ ?_ ?_ (fun σ H' q => q.2)
  · rintro σ H1 ⟨hT1, x2, x3, x4, x5, x6, rfl⟩
    refine ⟨by show 5 ≤ 1000; decide, fun pf H2 s2 hpf g2 => ?_⟩
    have hT2 := hT1.same s2
    have g2 : H2 pf = some (.tup (F4.map V.int)) := g2
    -- by four
    refine ⟨_, rfl, by show 2 ≤ 1000; decide, fun p3 H3 s3 hp3 g3 => ?_⟩
    refine ⟨4, F4, .ref p3, rfl, cF4 (by decide) (by decide), mt_new g3 (s3 _ _ g2), hT2.same s3, fun a4 H4 b4 hT4 ev => ?_⟩
    have i3 := tb_is (hT2.same s3)
    have tp4 : Tups H3 H4 := Bt.tups b4 i3
    have g4 := tp4 _ _ (s3 _ _ g2)
    obtain ⟨l, row, h1, h2, h3, h4, h5⟩ := ev4 ev
    obtain ⟨_, xs, e, gl, il⟩ := id h2
    cases e
    have hxl := il.length
    rw [List.length_map] at hxl
    refine ⟨_, rfl, a4, _, _, _, rfl, rfl, SqT.of h1, at0, rfl, _, rfl, ?_⟩
    rw [decStr]
    refine iteF ⟨_, rfl, a4, _, _, _, rfl, rfl, SqT.of h1, at1, l, xs, rfl, .inl (SqL.of gl), rfl, _, rfl, ?_⟩
    rw [dec_int, hxl, h3]
    refine iteF ⟨_, rfl, by show 2 ≤ 1000; decide, fun p5 H5 s5 hp5 g5 => ?_⟩
    refine ⟨_, rfl, a4, _, _, _, rfl, rfl, SqT.of (s5 _ _ h1), at1, 4, F4, .ref p5, l, row, rfl, cF4 (by decide) (by decide), mt_new g5 (s5 _ _ g4), Rw.of (h2.mono s5) (by omega) (fun g hg => by have := h4 g hg; omega), fun H6 s6 => ?_⟩
    rw [h5]
    refine ⟨_, _, rfl, rfl, _, rfl, iteF ?_⟩
    have hT6 := hT4.same (s5.trans s6)
    have g6 := (s5.trans s6) _ _ g4
    clear ev h1 h2 gl il hxl hp3 g3 tp4 b4 i3 s5 s6 hT4 h5 h4 h3
    -- by one
    refine ⟨by show 5 ≤ 1000; decide, fun p7 H7 s7 hp7 g7 => ?_⟩
    refine ⟨by show 2 ≤ 1000; decide, fun p8 H8 s8 hp8 g8 => ?_⟩
    have hT8 := hT6.same (s7.trans s8)
    refine ⟨1, T2, .ref p8, rfl, cT2, mt_new g8 (s8 _ _ g7), hT8, fun a9 H9 b9 hT9 ev => ?_⟩
    have g9 := Bt.tups b9 (tb_is hT8) _ _ ((s7.trans s8) _ _ g6)
    obtain ⟨l9, ks, h1, h2, h3, h4⟩ := ev1 ev
    obtain ⟨_, xs, e, gl, il⟩ := id h2
    cases e
    have hxl := il.length
    rw [List.length_map] at hxl
    refine ⟨_, rfl, a9, _, _, _, rfl, rfl, SqT.of h1, at0, rfl, _, rfl, ?_⟩
    rw [decStr]
    refine iteF ⟨_, rfl, a9, _, _, _, rfl, rfl, SqT.of h1, at1, l9, xs, ks, rfl, gl, il, h3, by omega, fun dd H10 s10 hdd hSs => ?_⟩
    refine ⟨dd, _, rfl, hSs, rfl, _, rfl, ?_⟩
    rw [dec_int, h4]
    refine iteF ⟨_, rfl, a9, _, _, _, rfl, rfl, SqT.of (s10 _ _ h1), at1, l9, xs, rfl, .inl (SqL.of (s10 _ _ gl)), rfl, _, rfl, ?_⟩
    rw [dec_int, hxl, h4]
    refine iteF ?_
    have hT10 := hT9.same s10
    have g10 := s10 _ _ g9
    clear ev h1 h2 gl il hxl hp8 g8 b9 hSs hdd s10 hT9 h4 h3
    -- by five
    refine ⟨_, rfl, by show 2 ≤ 1000; decide, fun p11 H11 s11 hp11 g11 => ?_⟩
    refine ⟨5, F4, .ref p11, rfl, cF4 (by decide) (by decide), mt_new g11 (s11 _ _ g10), hT10.same s11, fun a12 H12 b12 hT12 ev => ?_⟩
    obtain ⟨l, ks, h1, h2, h3, h4⟩ := ev5 ev
    obtain ⟨_, xs, e, gl, il⟩ := id h2
    cases e
    have hxl := il.length
    rw [List.length_map] at hxl
    have pm := perm_of h3 a5_nd h4
    have hk5 : ks.length = 5 := pm.length_eq
    refine ⟨_, rfl, a12, _, _, _, rfl, rfl, SqT.of h1, at0, rfl, _, rfl, ?_⟩
    rw [decStr]
    refine iteT ⟨_, rfl, a12, _, _, _, rfl, rfl, SqT.of h1, at1, l, ks, xs, rfl, SqL.of gl, il, fun g hg z => ?_, by omega, h3, fun gs' xs' l' pg up il' hl' => ?_⟩
    · have := (h4 g).mp hg
      rw [z] at this
      exact absurd this (by decide +kernel)
    have hgs : gs' = A5 := List.Perm.eq_of_pairwise (fun g g' _ _ => lexI_asym g g') up a5_up (pg.trans pm)
    subst hgs
    have s13 := Same.new hl' (.lst xs')
    have g13 : upd H12 l' (.lst xs') l' = some (.lst xs') := upd_same
    have i13 := il'.mono s13
    generalize upd H12 l' (.lst xs') = H13 at s13 g13 i13 ⊢
    refine ⟨5, rfl, by decide, by decide, ?_⟩
    refine lc_range (lo := 0) (n := (5 : Int).toNat) (fun i ys H' => Same H13 H' ∧ L2.IsL H' ((A5.take i).map tI) ys) ⟨Same.refl _, rfl⟩ (fun i ys H' hi ⟨_, e⟩ => by rw [e.length, List.length_map, List.length_take]; exact small_le (by have : A5.length = 5 := rfl; omega)) ?_ ?_
    · rintro i ys H14 hi ⟨s14, iy⟩
      refine gIf0 ?_
      rw [Int.zero_add]
      refine ⟨_, rfl, by show 1 ≤ 1000; decide, fun p H15 s15 hp g15 => ?_⟩
      refine ⟨[.int (i : Int)], 5, (show Is H15 (.tup [.int (i : Int)]) (.ref p) from ⟨p, _, rfl, g15, IsL.one rfl⟩).off0, rfl, fun b hb => hb.elim, by simp, (by show 1 ≤ 10; decide), by decide, by decide, fun v H16 s16 iv => ⟨s14.trans (s15.trans s16), ?_⟩⟩
      rw [List.take_add_one, a5_get i hi, List.map_append]
      exact IsL.append (iy.mono (s15.trans s16)) (IsL.one iv.off)
    · rintro ys H14 ⟨s14, iy⟩ p hp
      have s15 := Same.new hp (.lst ys)
      have g15 : upd H14 p (.lst ys) p = some (.lst ys) := upd_same
      generalize upd H14 p (.lst ys) = H15 at s15 g15 ⊢
      refine ⟨rowT A5, rowT A5, ⟨l', xs', rfl, (s14.trans s15) _ _ g13, i13.mono (s14.trans s15)⟩, ⟨p, ys, rfl, g15, iy.mono s15⟩, lay_row _, lay_row _, by decide +kernel, ?_⟩
      rw [SeqAt.eqv_refl _ (lay_row A5)]
      exact kk _
  rintro fin i σ H1 hi ⟨T1, hT1, x2, x3, x4, x5, x6, rfl⟩
  obtain ⟨p1, q1, hta, _, _⟩ := id T1.at'
  dsimp only [tSeq, tNext]
  refine tIf_and (fun H' => H' = H1) _ rfl (fun Q q => ⟨_, rfl, _, _, rfl, rfl, _, rfl, q⟩) (fun H' e => ?_) (fun rest _ => ?_)
  rotate_left
  · exact ⟨_, rfl, a, _, _, _, rfl, rfl, SqL.of hta, rfl, _, rfl, s, _, rfl, .inl T1.seq, _, _, rfl, rfl, _, rfl, ite2 (fun _ => fin _ _ ⟨hT1, _, _, _, _, _, rfl⟩) (fun _ => rest H1 rfl)⟩
  subst e
  dsimp only [tSeq, tNext]
  refine ⟨_, rfl, a, s, ns, false, rfl, T1, fun k cs vm H2 C b2 T2 hv => ?_⟩
  have hT2 := tb_but hT1 b2 hta
  refine ⟨2, rfl, by decide, by decide, ?_⟩
  refine for_range (lo := 0) (n := (2 : Int).toNat) (fun j σ H' => Tape K H' a s ns ∧ TbOk tb lmPos lmQual H' ∧ Is H' (eMt k cs) vm ∧ ∃ y4 y5, σ = [some (.ref s), some (.ref a), some (.int (0 + (i : Int))), some vm, y4, y5, x6]) ⟨T2, hT2, hv, _, _, rfl⟩ ?_ ?_
  rotate_left
  · rintro σ H3 ⟨T3, hT3, _, y4, y5, rfl⟩
    exact ⟨T3, hT3, _, _, _, _, _, rfl⟩
  rintro j σ H3 hj ⟨T3, hT3, hv3, y4, y5, rfl⟩
  have i3 := tb_is hT3
  refine ⟨_, rfl, k, cs, vm, rfl, C, hv3, hT3, fun a4 H4 b4 hT4 ev => ?_⟩
  have tp4 : Tups H3 H4 := Bt.tups b4 i3
  have hv4 := hv3.tups tp4 (fro_mt k cs)
  refine ⟨_, rfl, _, rfl, H3, k, cs, vm, a4, rfl, C, hv4, ev, fun H5 s5 => ⟨_, rfl, iteF ?_⟩⟩
  have hv5 := hv4.mono s5
  have last : ∀ {H6 : Hp} {l : Addr} {xs : List V}, Same H4 H6 → H3 l = none → H6 l = some (.lst xs) → Tape K (upd H6 l (.lst (xs ++ [.non]))) a s ns ∧ TbOk tb lmPos lmQual (upd H6 l (.lst (xs ++ [.non]))) ∧ Is (upd H6 l (.lst (xs ++ [.non]))) (eMt k cs) vm := fun {H6 l xs} s6 hl gl => by
    have bt : Bt tb H3 (upd H6 l (.lst (xs ++ [.non]))) := fun b o n e => by
      rw [upd_ne (ne_of_none e hl)]
      exact s6 _ _ (b4 b o n e)
    exact ⟨tape_bt T3 bt i3, tb_but (hT4.same s6) (fun b o n e => by rw [upd_ne n]; exact e) gl, hv3.tups (bt.tups i3) (fro_mt k cs)⟩
  rcases ev with ⟨l, row, st, h1, hl0, h2, h3, h4, h5⟩ | ⟨l, L, h1, hl0, h2, h3, h4, h5⟩
  · obtain ⟨z1, z2⟩ := left_few C h3
    refine ⟨_, rfl, a4, _, _, _, rfl, rfl, SqT.of (s5 _ _ h1), at0, rfl, _, rfl, ?_⟩
    rw [no_str (by decide +kernel)]
    refine iteF (iteF ?_)
    refine ⟨_, rfl, a4, _, _, _, rfl, rfl, SqT.of (s5 _ _ h1), at0, rfl, _, rfl, ?_⟩
    rw [decStr]
    refine iteT ⟨_, rfl, _, rfl, a4, _, _, _, rfl, rfl, SqT.of (s5 _ _ h1), at1, k, cs, vm, l, row, rfl, C, hv5, Rw.of (h2.mono s5) (by omega) (fun g hg => by have := z2 g hg; omega), fun H6 s6 => ?_⟩
    rw [left_is h3 h4]
    refine ⟨_, _, rfl, rfl, _, rfl, iteF ?_⟩
    have s46 := s5.trans s6
    obtain ⟨_, xs, e, gl, il⟩ := h2.mono s46
    cases e
    have hxl := il.length
    rw [List.length_map] at hxl
    refine ⟨_, rfl, a4, _, _, _, rfl, rfl, SqT.of (s46 _ _ h1), at1, .inl ⟨rfl, _, SqL.of gl⟩, l, xs, _, rfl, rfl, gl, big_lt (by omega), ?_⟩
    obtain ⟨q1, q2, q3⟩ := last s46 hl0 gl
    exact ⟨q1, q2, q3, _, _, rfl⟩
  · have zf := (ev_few C h3 h4).few
    have ze := (ev_few C h3 h4).each
    have n5 := C.n5
    refine ⟨_, rfl, a4, _, _, _, rfl, rfl, SqT.of (s5 _ _ h1), at0, rfl, _, rfl, ?_⟩
    rw [decStr]
    refine iteT ⟨_, rfl, _, rfl, a4, _, _, _, rfl, rfl, SqT.of (s5 _ _ h1), at1, k, cs, vm, l, L, rfl, C, hv5, Rb.of (h2.mono s5) (by omega) (fun g hg => by have := ze g hg; omega), fun H6 s6 => ?_⟩
    rw [ever_val C h3 h4 h5]
    refine ⟨_, _, rfl, rfl, _, rfl, iteF ?_⟩
    have s46 := s5.trans s6
    refine ⟨_, rfl, a4, _, _, _, rfl, rfl, SqT.of (s46 _ _ h1), at0, rfl, _, rfl, ?_⟩
    rw [no_str (by decide +kernel)]
    refine iteF (iteF ?_)
    obtain ⟨_, xs, e, gl, il⟩ := h2.mono s46
    cases e
    have hxl := il.length
    rw [List.length_map] at hxl
    refine ⟨_, rfl, a4, _, _, _, rfl, rfl, SqT.of (s46 _ _ h1), at1, .inl ⟨rfl, _, SqL.of gl⟩, l, xs, _, rfl, rfl, gl, big_lt (by omega), ?_⟩
    obtain ⟨q1, q2, q3⟩ := last s46 hl0 gl
    exact ⟨q1, q2, q3, _, _, rfl⟩
end
end My

namespace My
open PySem PySem.Spec PyProof.Rows L2
theorem def_of {K : PySem.W.Frag} {h : Heap} {mg : Str → Option Value} {x : Str} {st : Stmt} {f : Addr} {oc : Value} {od an : Option Addr} {osl : Array (Option Value)} {kV doc pm cdv ct : Value} (X : K.In h) (G : h.Ns mainGlobals mg) (e : PySem.W.nsIn K mainGlobals x = some (some (.ref f)))
    (l : K.lookup f = some ⟨oc, od, .func (PySem.W.fnOf x x (defArgs st) (defBody st) (defScope st) .none kV doc pm an cdv ct), osl⟩) (c : PySem.W.codeIn K cdv x = true) (k : PySem.W.keepIn K (.ref f) = true) : Def K mg x st := ⟨f, _, fun_mk l c k, PySem.W.mg_of X G e⟩
theorem def_ofC {K : PySem.W.Frag} {h : Heap} {mg : Str → Option Value} {x : Str} {st : Stmt} {f cc : Addr} {oc : Value} {od an : Option Addr} {osl : Array (Option Value)} {kV doc pm cdv ct : Value} (X : K.In h) (G : h.Ns mainGlobals mg) (e : PySem.W.nsIn K mainGlobals x = some (some (.ref f)))
    (l : K.lookup f = some ⟨oc, od, .func (PySem.W.fnOf x x (defArgs st) (defBody st) (defScope st) .none kV doc pm an cdv ct), osl⟩) (c : PySem.W.codeIn K cdv x = true) (k : PySem.W.keepIn K (.ref f) = true) (hc : cdv = .ref cc) : DefC K mg x st cc := ⟨f, _, fun_mk l c k, PySem.W.mg_of X G e, hc⟩
structure Tops (K : PySem.W.Frag) (mg : Str → Option Value) (cc : Addr) : Prop where
  d_is_whole : Def K mg "is_whole" s_is_whole
  d_is_within : Def K mg "is_within" s_is_within
  d_is_tuple_within : Def K mg "is_tuple_within" s_is_tuple_within
  d_is_name : Def K mg "is_name" s_isName
  d_rows_to_all : Def K mg "rows_to_all" s_rowsTo
  d_are_wanted : Def K mg "are_wanted" s_are_wanted
  d_is_counted : Def K mg "is_counted" s_is_counted
  d_need_counted : Def K mg "need_counted" s_needC
  d_wanting : Def K mg "wanting" s_wanting
  d_groups : Def K mg "groups" s_groups
  d_met : Def K mg "met" s_met
  d_steps_from : Def K mg "steps_from" s_stepsFrom
  d_leaves_some : Def K mg "leaves_some" s_leaves
  d_stand_by : Def K mg "stand_by" s_standBy
  d_ever : DefC K mg "ever" s_ever cc
  d_is_left : Def K mg "is_left" s_isLeft
  d_is_stand_like : Def K mg "is_stand_like" s_standLike
  d_is_closed_at : Def K mg "is_closed_at" s_closedAt
  d_are_ever : Def K mg "are_ever" s_areEver
  d_law_e_mixed : Def K mg "_law_e_mixed" s_mixed
  d_law_e_pick : Def K mg "_law_e_pick" s_pick
  d_law_e_meeting : Def K mg "_law_e_meeting" s_meeting
  d_law_e_groups : Def K mg "_law_e_groups" s_lgroups
  d_law_e_met : Def K mg "_law_e_met" s_lmet
  d_law_e_left : Def K mg "_law_e_left" s_lleft
  d_law_e_is_row : Def K mg "_law_e_is_row" s_lisRow
  d_law_e_search : Def K mg "_law_e_search" s_search
  d_law_e_right : Def K mg "_law_e_right" s_lright
  d_law : Def K mg "law" s_lawY
  txt : Txt K mg
section
variable {P : Program} {w : World} {K : PySem.W.Frag} {mg : Str → Option Value} {base : Heap}
theorem whole {cc tb : Addr} (B : BMain mg base) (CH : PySem.W.CodeHd base cc tb) (A : Tops K mg cc) {f0 : Addr} {fd0 : FuncData} (F : Fun K "law" "law" s_lawY f0 fd0) : FnOk P w K mg base CX0 7 f0 fd0 ["script"] (spLaw tb K) := by
  have T := A.txt
  have o1 := ok_is_whole (P := P) (w := w) (base := base) A.d_is_whole T
  have o2 := ok_is_within A.d_is_within T o1
  have o3 := ok_is_tuple_within (P := P) (w := w) (base := base) A.d_is_tuple_within T
  have o4 := ok_are_wanted A.d_are_wanted T o2
  have o5 := ok_is_counted A.d_is_counted T o3 o2 o4
  have o6 := ok_mixed (P := P) (w := w) (base := base) A.d_law_e_mixed
  have o7 := ok_pick A.d_law_e_pick T o6
  have o8 := ok_meeting A.d_law_e_meeting T o7
  have n1 := ok_wanting (P := P) (w := w) (base := base) A.d_wanting T
  have n2 := ok_groups A.d_groups T n1
  have n3 := ok_met (P := P) (w := w) (base := base) A.d_met T
  have n5 := ok_needC A.d_need_counted T o5
  have n6 := ok_isName A.d_is_name T o1
  have n7 := ok_standBy A.d_stand_by T n6 n2 n3
  have e1 := ok_lgroups (P := P) (w := w) (base := base) A.d_law_e_groups T
  have e2 := ok_lmet (P := P) (w := w) (base := base) A.d_law_e_met T
  have m1 := ok_stepsFrom A.d_steps_from T n2 n3
  have m2 := ok_leaves A.d_leaves_some T n1
  have m3 := ok_rowsTo A.d_rows_to_all T m1
  have m4 := ok_ever B CH A.d_ever T n5 m3 m2
  have m5 := ok_isLeft A.d_is_left T n5 n7 m2
  have a1 := ok_standLike A.d_is_stand_like T o3 o4
  have a2 := ok_closedAt A.d_is_closed_at T m1
  have a3 := ok_areEver A.d_are_ever T n5 a1 m2 a2
  have b1 := ok_search A.d_law_e_search T e1 e2
  have b2 := ok_lleft A.d_law_e_left T e1 e2
  have b3 := ok_lisRow (P := P) (w := w) (base := base) A.d_law_e_is_row T
  have b4 := ok_lright A.d_law_e_right T b1 b3 b2 e1
  exact ok_lawY F T o8 m4 b4 a3 m5
end
theorem all_mk {l : PySem.W.OpenLaw} {w : World} {K : PySem.W.Frag} {h : Heap} {mg : Str → Option Value} {fa : Addr} (X : K.In h) (G : h.Ns mainGlobals mg) (hfa : mg "law" = some (.ref fa))
    {f0 : Addr} {od0 an0 : Option Addr} {sl0 : Array (Option Value)} {oc0 kV0 dc0 pm0 cd0 ct0 : Value}
    {f1 : Addr} {od1 an1 : Option Addr} {sl1 : Array (Option Value)} {oc1 kV1 dc1 pm1 cd1 ct1 : Value}
    {f2 : Addr} {od2 an2 : Option Addr} {sl2 : Array (Option Value)} {oc2 kV2 dc2 pm2 cd2 ct2 : Value}
    {f3 : Addr} {od3 an3 : Option Addr} {sl3 : Array (Option Value)} {oc3 kV3 dc3 pm3 cd3 ct3 : Value}
    {f4 : Addr} {od4 an4 : Option Addr} {sl4 : Array (Option Value)} {oc4 kV4 dc4 pm4 cd4 ct4 : Value}
    {f5 : Addr} {od5 an5 : Option Addr} {sl5 : Array (Option Value)} {oc5 kV5 dc5 pm5 cd5 ct5 : Value}
    {f6 : Addr} {od6 an6 : Option Addr} {sl6 : Array (Option Value)} {oc6 kV6 dc6 pm6 cd6 ct6 : Value}
    {f7 : Addr} {od7 an7 : Option Addr} {sl7 : Array (Option Value)} {oc7 kV7 dc7 pm7 cd7 ct7 : Value}
    {f8 : Addr} {od8 an8 : Option Addr} {sl8 : Array (Option Value)} {oc8 kV8 dc8 pm8 cd8 ct8 : Value}
    {f9 : Addr} {od9 an9 : Option Addr} {sl9 : Array (Option Value)} {oc9 kV9 dc9 pm9 cd9 ct9 : Value}
    {f10 : Addr} {od10 an10 : Option Addr} {sl10 : Array (Option Value)} {oc10 kV10 dc10 pm10 cd10 ct10 : Value}
    {f11 : Addr} {od11 an11 : Option Addr} {sl11 : Array (Option Value)} {oc11 kV11 dc11 pm11 cd11 ct11 : Value}
    {f12 : Addr} {od12 an12 : Option Addr} {sl12 : Array (Option Value)} {oc12 kV12 dc12 pm12 cd12 ct12 : Value}
    {f13 : Addr} {od13 an13 : Option Addr} {sl13 : Array (Option Value)} {oc13 kV13 dc13 pm13 cd13 ct13 : Value}
    {f14 : Addr} {od14 an14 : Option Addr} {sl14 : Array (Option Value)} {oc14 kV14 dc14 pm14 cd14 ct14 : Value}
    {f15 : Addr} {od15 an15 : Option Addr} {sl15 : Array (Option Value)} {oc15 kV15 dc15 pm15 cd15 ct15 : Value}
    {f16 : Addr} {od16 an16 : Option Addr} {sl16 : Array (Option Value)} {oc16 kV16 dc16 pm16 cd16 ct16 : Value}
    {f17 : Addr} {od17 an17 : Option Addr} {sl17 : Array (Option Value)} {oc17 kV17 dc17 pm17 cd17 ct17 : Value}
    {f18 : Addr} {od18 an18 : Option Addr} {sl18 : Array (Option Value)} {oc18 kV18 dc18 pm18 cd18 ct18 : Value}
    {f19 : Addr} {od19 an19 : Option Addr} {sl19 : Array (Option Value)} {oc19 kV19 dc19 pm19 cd19 ct19 : Value}
    {f20 : Addr} {od20 an20 : Option Addr} {sl20 : Array (Option Value)} {oc20 kV20 dc20 pm20 cd20 ct20 : Value}
    {f21 : Addr} {od21 an21 : Option Addr} {sl21 : Array (Option Value)} {oc21 kV21 dc21 pm21 cd21 ct21 : Value}
    {f22 : Addr} {od22 an22 : Option Addr} {sl22 : Array (Option Value)} {oc22 kV22 dc22 pm22 cd22 ct22 : Value}
    {f23 : Addr} {od23 an23 : Option Addr} {sl23 : Array (Option Value)} {oc23 kV23 dc23 pm23 cd23 ct23 : Value}
    {f24 : Addr} {od24 an24 : Option Addr} {sl24 : Array (Option Value)} {oc24 kV24 dc24 pm24 cd24 ct24 : Value}
    {f25 : Addr} {od25 an25 : Option Addr} {sl25 : Array (Option Value)} {oc25 kV25 dc25 pm25 cd25 ct25 : Value}
    {f26 : Addr} {od26 an26 : Option Addr} {sl26 : Array (Option Value)} {oc26 kV26 dc26 pm26 cd26 ct26 : Value}
    {f27 : Addr} {od27 an27 : Option Addr} {sl27 : Array (Option Value)} {oc27 kV27 dc27 pm27 cd27 ct27 : Value}
    {f28 : Addr} {od28 an28 : Option Addr} {sl28 : Array (Option Value)} {oc28 kV28 dc28 pm28 cd28 ct28 : Value}
    {t0 : Tok}
    {t1 : Tok}
    {t2 : Tok}
    {t3 : Tok}
    {cc tb : Addr}
    (a0 : PySem.W.nsIn K mainGlobals "is_whole" = some (some (.ref f0))) (l0 : K.lookup f0 = some ⟨oc0, od0, .func (PySem.W.fnOf "is_whole" "is_whole" (defArgs s_is_whole) (defBody s_is_whole) (defScope s_is_whole) .none kV0 dc0 pm0 an0 cd0 ct0), sl0⟩) (c0 : PySem.W.codeIn K cd0 "is_whole" = true) (k0 : PySem.W.keepIn K (.ref f0) = true)
    (a1 : PySem.W.nsIn K mainGlobals "is_within" = some (some (.ref f1))) (l1 : K.lookup f1 = some ⟨oc1, od1, .func (PySem.W.fnOf "is_within" "is_within" (defArgs s_is_within) (defBody s_is_within) (defScope s_is_within) .none kV1 dc1 pm1 an1 cd1 ct1), sl1⟩) (c1 : PySem.W.codeIn K cd1 "is_within" = true) (k1 : PySem.W.keepIn K (.ref f1) = true)
    (a2 : PySem.W.nsIn K mainGlobals "is_tuple_within" = some (some (.ref f2))) (l2 : K.lookup f2 = some ⟨oc2, od2, .func (PySem.W.fnOf "is_tuple_within" "is_tuple_within" (defArgs s_is_tuple_within) (defBody s_is_tuple_within) (defScope s_is_tuple_within) .none kV2 dc2 pm2 an2 cd2 ct2), sl2⟩) (c2 : PySem.W.codeIn K cd2 "is_tuple_within" = true) (k2 : PySem.W.keepIn K (.ref f2) = true)
    (a3 : PySem.W.nsIn K mainGlobals "is_name" = some (some (.ref f3))) (l3 : K.lookup f3 = some ⟨oc3, od3, .func (PySem.W.fnOf "is_name" "is_name" (defArgs s_isName) (defBody s_isName) (defScope s_isName) .none kV3 dc3 pm3 an3 cd3 ct3), sl3⟩) (c3 : PySem.W.codeIn K cd3 "is_name" = true) (k3 : PySem.W.keepIn K (.ref f3) = true)
    (a4 : PySem.W.nsIn K mainGlobals "rows_to_all" = some (some (.ref f4))) (l4 : K.lookup f4 = some ⟨oc4, od4, .func (PySem.W.fnOf "rows_to_all" "rows_to_all" (defArgs s_rowsTo) (defBody s_rowsTo) (defScope s_rowsTo) .none kV4 dc4 pm4 an4 cd4 ct4), sl4⟩) (c4 : PySem.W.codeIn K cd4 "rows_to_all" = true) (k4 : PySem.W.keepIn K (.ref f4) = true)
    (a5 : PySem.W.nsIn K mainGlobals "are_wanted" = some (some (.ref f5))) (l5 : K.lookup f5 = some ⟨oc5, od5, .func (PySem.W.fnOf "are_wanted" "are_wanted" (defArgs s_are_wanted) (defBody s_are_wanted) (defScope s_are_wanted) .none kV5 dc5 pm5 an5 cd5 ct5), sl5⟩) (c5 : PySem.W.codeIn K cd5 "are_wanted" = true) (k5 : PySem.W.keepIn K (.ref f5) = true)
    (a6 : PySem.W.nsIn K mainGlobals "is_counted" = some (some (.ref f6))) (l6 : K.lookup f6 = some ⟨oc6, od6, .func (PySem.W.fnOf "is_counted" "is_counted" (defArgs s_is_counted) (defBody s_is_counted) (defScope s_is_counted) .none kV6 dc6 pm6 an6 cd6 ct6), sl6⟩) (c6 : PySem.W.codeIn K cd6 "is_counted" = true) (k6 : PySem.W.keepIn K (.ref f6) = true)
    (a7 : PySem.W.nsIn K mainGlobals "need_counted" = some (some (.ref f7))) (l7 : K.lookup f7 = some ⟨oc7, od7, .func (PySem.W.fnOf "need_counted" "need_counted" (defArgs s_needC) (defBody s_needC) (defScope s_needC) .none kV7 dc7 pm7 an7 cd7 ct7), sl7⟩) (c7 : PySem.W.codeIn K cd7 "need_counted" = true) (k7 : PySem.W.keepIn K (.ref f7) = true)
    (a8 : PySem.W.nsIn K mainGlobals "wanting" = some (some (.ref f8))) (l8 : K.lookup f8 = some ⟨oc8, od8, .func (PySem.W.fnOf "wanting" "wanting" (defArgs s_wanting) (defBody s_wanting) (defScope s_wanting) .none kV8 dc8 pm8 an8 cd8 ct8), sl8⟩) (c8 : PySem.W.codeIn K cd8 "wanting" = true) (k8 : PySem.W.keepIn K (.ref f8) = true)
    (a9 : PySem.W.nsIn K mainGlobals "groups" = some (some (.ref f9))) (l9 : K.lookup f9 = some ⟨oc9, od9, .func (PySem.W.fnOf "groups" "groups" (defArgs s_groups) (defBody s_groups) (defScope s_groups) .none kV9 dc9 pm9 an9 cd9 ct9), sl9⟩) (c9 : PySem.W.codeIn K cd9 "groups" = true) (k9 : PySem.W.keepIn K (.ref f9) = true)
    (a10 : PySem.W.nsIn K mainGlobals "met" = some (some (.ref f10))) (l10 : K.lookup f10 = some ⟨oc10, od10, .func (PySem.W.fnOf "met" "met" (defArgs s_met) (defBody s_met) (defScope s_met) .none kV10 dc10 pm10 an10 cd10 ct10), sl10⟩) (c10 : PySem.W.codeIn K cd10 "met" = true) (k10 : PySem.W.keepIn K (.ref f10) = true)
    (a11 : PySem.W.nsIn K mainGlobals "steps_from" = some (some (.ref f11))) (l11 : K.lookup f11 = some ⟨oc11, od11, .func (PySem.W.fnOf "steps_from" "steps_from" (defArgs s_stepsFrom) (defBody s_stepsFrom) (defScope s_stepsFrom) .none kV11 dc11 pm11 an11 cd11 ct11), sl11⟩) (c11 : PySem.W.codeIn K cd11 "steps_from" = true) (k11 : PySem.W.keepIn K (.ref f11) = true)
    (a12 : PySem.W.nsIn K mainGlobals "leaves_some" = some (some (.ref f12))) (l12 : K.lookup f12 = some ⟨oc12, od12, .func (PySem.W.fnOf "leaves_some" "leaves_some" (defArgs s_leaves) (defBody s_leaves) (defScope s_leaves) .none kV12 dc12 pm12 an12 cd12 ct12), sl12⟩) (c12 : PySem.W.codeIn K cd12 "leaves_some" = true) (k12 : PySem.W.keepIn K (.ref f12) = true)
    (a13 : PySem.W.nsIn K mainGlobals "stand_by" = some (some (.ref f13))) (l13 : K.lookup f13 = some ⟨oc13, od13, .func (PySem.W.fnOf "stand_by" "stand_by" (defArgs s_standBy) (defBody s_standBy) (defScope s_standBy) .none kV13 dc13 pm13 an13 cd13 ct13), sl13⟩) (c13 : PySem.W.codeIn K cd13 "stand_by" = true) (k13 : PySem.W.keepIn K (.ref f13) = true)
    (a14 : PySem.W.nsIn K mainGlobals "ever" = some (some (.ref f14))) (l14 : K.lookup f14 = some ⟨oc14, od14, .func (PySem.W.fnOf "ever" "ever" (defArgs s_ever) (defBody s_ever) (defScope s_ever) .none kV14 dc14 pm14 an14 cd14 ct14), sl14⟩) (c14 : PySem.W.codeIn K cd14 "ever" = true) (k14 : PySem.W.keepIn K (.ref f14) = true)
    (a15 : PySem.W.nsIn K mainGlobals "is_left" = some (some (.ref f15))) (l15 : K.lookup f15 = some ⟨oc15, od15, .func (PySem.W.fnOf "is_left" "is_left" (defArgs s_isLeft) (defBody s_isLeft) (defScope s_isLeft) .none kV15 dc15 pm15 an15 cd15 ct15), sl15⟩) (c15 : PySem.W.codeIn K cd15 "is_left" = true) (k15 : PySem.W.keepIn K (.ref f15) = true)
    (a16 : PySem.W.nsIn K mainGlobals "is_stand_like" = some (some (.ref f16))) (l16 : K.lookup f16 = some ⟨oc16, od16, .func (PySem.W.fnOf "is_stand_like" "is_stand_like" (defArgs s_standLike) (defBody s_standLike) (defScope s_standLike) .none kV16 dc16 pm16 an16 cd16 ct16), sl16⟩) (c16 : PySem.W.codeIn K cd16 "is_stand_like" = true) (k16 : PySem.W.keepIn K (.ref f16) = true)
    (a17 : PySem.W.nsIn K mainGlobals "is_closed_at" = some (some (.ref f17))) (l17 : K.lookup f17 = some ⟨oc17, od17, .func (PySem.W.fnOf "is_closed_at" "is_closed_at" (defArgs s_closedAt) (defBody s_closedAt) (defScope s_closedAt) .none kV17 dc17 pm17 an17 cd17 ct17), sl17⟩) (c17 : PySem.W.codeIn K cd17 "is_closed_at" = true) (k17 : PySem.W.keepIn K (.ref f17) = true)
    (a18 : PySem.W.nsIn K mainGlobals "are_ever" = some (some (.ref f18))) (l18 : K.lookup f18 = some ⟨oc18, od18, .func (PySem.W.fnOf "are_ever" "are_ever" (defArgs s_areEver) (defBody s_areEver) (defScope s_areEver) .none kV18 dc18 pm18 an18 cd18 ct18), sl18⟩) (c18 : PySem.W.codeIn K cd18 "are_ever" = true) (k18 : PySem.W.keepIn K (.ref f18) = true)
    (a19 : PySem.W.nsIn K mainGlobals "_law_e_mixed" = some (some (.ref f19))) (l19 : K.lookup f19 = some ⟨oc19, od19, .func (PySem.W.fnOf "_law_e_mixed" "_law_e_mixed" (defArgs s_mixed) (defBody s_mixed) (defScope s_mixed) .none kV19 dc19 pm19 an19 cd19 ct19), sl19⟩) (c19 : PySem.W.codeIn K cd19 "_law_e_mixed" = true) (k19 : PySem.W.keepIn K (.ref f19) = true)
    (a20 : PySem.W.nsIn K mainGlobals "_law_e_pick" = some (some (.ref f20))) (l20 : K.lookup f20 = some ⟨oc20, od20, .func (PySem.W.fnOf "_law_e_pick" "_law_e_pick" (defArgs s_pick) (defBody s_pick) (defScope s_pick) .none kV20 dc20 pm20 an20 cd20 ct20), sl20⟩) (c20 : PySem.W.codeIn K cd20 "_law_e_pick" = true) (k20 : PySem.W.keepIn K (.ref f20) = true)
    (a21 : PySem.W.nsIn K mainGlobals "_law_e_meeting" = some (some (.ref f21))) (l21 : K.lookup f21 = some ⟨oc21, od21, .func (PySem.W.fnOf "_law_e_meeting" "_law_e_meeting" (defArgs s_meeting) (defBody s_meeting) (defScope s_meeting) .none kV21 dc21 pm21 an21 cd21 ct21), sl21⟩) (c21 : PySem.W.codeIn K cd21 "_law_e_meeting" = true) (k21 : PySem.W.keepIn K (.ref f21) = true)
    (a22 : PySem.W.nsIn K mainGlobals "_law_e_groups" = some (some (.ref f22))) (l22 : K.lookup f22 = some ⟨oc22, od22, .func (PySem.W.fnOf "_law_e_groups" "_law_e_groups" (defArgs s_lgroups) (defBody s_lgroups) (defScope s_lgroups) .none kV22 dc22 pm22 an22 cd22 ct22), sl22⟩) (c22 : PySem.W.codeIn K cd22 "_law_e_groups" = true) (k22 : PySem.W.keepIn K (.ref f22) = true)
    (a23 : PySem.W.nsIn K mainGlobals "_law_e_met" = some (some (.ref f23))) (l23 : K.lookup f23 = some ⟨oc23, od23, .func (PySem.W.fnOf "_law_e_met" "_law_e_met" (defArgs s_lmet) (defBody s_lmet) (defScope s_lmet) .none kV23 dc23 pm23 an23 cd23 ct23), sl23⟩) (c23 : PySem.W.codeIn K cd23 "_law_e_met" = true) (k23 : PySem.W.keepIn K (.ref f23) = true)
    (a24 : PySem.W.nsIn K mainGlobals "_law_e_left" = some (some (.ref f24))) (l24 : K.lookup f24 = some ⟨oc24, od24, .func (PySem.W.fnOf "_law_e_left" "_law_e_left" (defArgs s_lleft) (defBody s_lleft) (defScope s_lleft) .none kV24 dc24 pm24 an24 cd24 ct24), sl24⟩) (c24 : PySem.W.codeIn K cd24 "_law_e_left" = true) (k24 : PySem.W.keepIn K (.ref f24) = true)
    (a25 : PySem.W.nsIn K mainGlobals "_law_e_is_row" = some (some (.ref f25))) (l25 : K.lookup f25 = some ⟨oc25, od25, .func (PySem.W.fnOf "_law_e_is_row" "_law_e_is_row" (defArgs s_lisRow) (defBody s_lisRow) (defScope s_lisRow) .none kV25 dc25 pm25 an25 cd25 ct25), sl25⟩) (c25 : PySem.W.codeIn K cd25 "_law_e_is_row" = true) (k25 : PySem.W.keepIn K (.ref f25) = true)
    (a26 : PySem.W.nsIn K mainGlobals "_law_e_search" = some (some (.ref f26))) (l26 : K.lookup f26 = some ⟨oc26, od26, .func (PySem.W.fnOf "_law_e_search" "_law_e_search" (defArgs s_search) (defBody s_search) (defScope s_search) .none kV26 dc26 pm26 an26 cd26 ct26), sl26⟩) (c26 : PySem.W.codeIn K cd26 "_law_e_search" = true) (k26 : PySem.W.keepIn K (.ref f26) = true)
    (a27 : PySem.W.nsIn K mainGlobals "_law_e_right" = some (some (.ref f27))) (l27 : K.lookup f27 = some ⟨oc27, od27, .func (PySem.W.fnOf "_law_e_right" "_law_e_right" (defArgs s_lright) (defBody s_lright) (defScope s_lright) .none kV27 dc27 pm27 an27 cd27 ct27), sl27⟩) (c27 : PySem.W.codeIn K cd27 "_law_e_right" = true) (k27 : PySem.W.keepIn K (.ref f27) = true)
    (a28 : PySem.W.nsIn K mainGlobals "law" = some (some (.ref f28))) (l28 : K.lookup f28 = some ⟨oc28, od28, .func (PySem.W.fnOf "law" "law" (defArgs s_lawY) (defBody s_lawY) (defScope s_lawY) .none kV28 dc28 pm28 an28 cd28 ct28), sl28⟩) (c28 : PySem.W.codeIn K cd28 "law" = true) (k28 : PySem.W.keepIn K (.ref f28) = true)
    (n0 : PySem.W.nsIn K mainGlobals "MOST_AT_ONCE" = some (some (.int 5 t0)))
    (n1 : PySem.W.nsIn K mainGlobals "MOST_COUNTS" = some (some (.int 5 t1)))
    (n2 : PySem.W.nsIn K mainGlobals "MOST_WANTED" = some (some (.int 4 t2)))
    (n3 : PySem.W.nsIn K mainGlobals "MOST_STANDS" = some (some (.int 3125 t3)))
    (z0 : PySem.W.nsIn K mainGlobals "isinstance" = some none)
    (z1 : PySem.W.nsIn K mainGlobals "int" = some none)
    (z2 : PySem.W.nsIn K mainGlobals "bool" = some none)
    (z3 : PySem.W.nsIn K mainGlobals "str" = some none)
    (z4 : PySem.W.nsIn K mainGlobals "tuple" = some none)
    (z5 : PySem.W.nsIn K mainGlobals "list" = some none)
    (z6 : PySem.W.nsIn K mainGlobals "len" = some none)
    (z7 : PySem.W.nsIn K mainGlobals "all" = some none)
    (z8 : PySem.W.nsIn K mainGlobals "sum" = some none)
    (z9 : PySem.W.nsIn K mainGlobals "range" = some none)
    (z10 : PySem.W.nsIn K mainGlobals "enumerate" = some none)
    (z11 : PySem.W.nsIn K mainGlobals "sorted" = some none)
    (z12 : PySem.W.nsIn K mainGlobals "any" = some none)
    (z13 : PySem.W.nsIn K mainGlobals "dict" = some none)
    (z14 : PySem.W.nsIn K mainGlobals "set" = some none)
    (hcd : cd14 = .ref cc) (hhd : PySem.W.codeHdIn K cc tb = true) :
    (∃ c, PySem.W.codeHdIn K c tb = true) ∧ ∃ fd : FuncData, (∀ (s : Shared) (v : Value), BindsTo s fd ⟨[v], []⟩ [("script", v)]) ∧ ∀ base : Heap, K.In base → base.Ns mainGlobals mg → BMain mg base → FnOk l.prog w K mg base CX0 7 fa fd ["script"] (spLaw tb K) := by
  have e := hfa.symm.trans (PySem.W.mg_of X G a28)
  cases e
  have T : Txt K mg := ⟨⟨_, PySem.W.mg_of X G n0⟩, ⟨_, PySem.W.mg_of X G n1⟩, ⟨_, PySem.W.mg_of X G n2⟩, ⟨_, PySem.W.mg_of X G n3⟩, PySem.W.mg_none_of X G z0, PySem.W.mg_none_of X G z1, PySem.W.mg_none_of X G z2, PySem.W.mg_none_of X G z3, PySem.W.mg_none_of X G z4, PySem.W.mg_none_of X G z5, PySem.W.mg_none_of X G z6, PySem.W.mg_none_of X G z7, PySem.W.mg_none_of X G z8, PySem.W.mg_none_of X G z9, PySem.W.mg_none_of X G z10, PySem.W.mg_none_of X G z11, PySem.W.mg_none_of X G z12, PySem.W.mg_none_of X G z13, PySem.W.mg_none_of X G z14⟩
  have A : Tops K mg cc := ⟨def_of X G a0 l0 c0 k0, def_of X G a1 l1 c1 k1, def_of X G a2 l2 c2 k2, def_of X G a3 l3 c3 k3, def_of X G a4 l4 c4 k4, def_of X G a5 l5 c5 k5, def_of X G a6 l6 c6 k6, def_of X G a7 l7 c7 k7, def_of X G a8 l8 c8 k8, def_of X G a9 l9 c9 k9, def_of X G a10 l10 c10 k10, def_of X G a11 l11 c11 k11, def_of X G a12 l12 c12 k12, def_of X G a13 l13 c13 k13, def_ofC X G a14 l14 c14 k14 hcd, def_of X G a15 l15 c15 k15, def_of X G a16 l16 c16 k16, def_of X G a17 l17 c17 k17, def_of X G a18 l18 c18 k18, def_of X G a19 l19 c19 k19, def_of X G a20 l20 c20 k20, def_of X G a21 l21 c21 k21, def_of X G a22 l22 c22 k22, def_of X G a23 l23 c23 k23, def_of X G a24 l24 c24 k24, def_of X G a25 l25 c25 k25, def_of X G a26 l26 c26 k26, def_of X G a27 l27 c27 k27, def_of X G a28 l28 c28 k28, T⟩
  refine ⟨⟨cc, hhd⟩, PySem.W.fnOf "law" "law" (defArgs s_lawY) (defBody s_lawY) (defScope s_lawY) .none kV28 dc28 pm28 an28 cd28 ct28, fun s v => .of_eq rfl, fun base XB _ B => ?_⟩

  exact whole B (PySem.W.codeHd_of_K XB hhd) A (fun_mk (st := s_lawY) l28 c28 k28)
end My

namespace My
open PySem PySem.Spec PyProof.Rows L2
theorem walk {l : PySem.W.OpenLaw} {tb : Addr} {q : Program} {loose : List Str} {XP : (Str → Option Value) → Heap → Prop} {YP : World → Heap → Prop} {d : DefRec} {K : Params → PySem.W.Frag} (hn : l.most = some 63) (hdf : d.params.defaults = [])
    (hY : ∀ (w : World) (h : Heap), YP w h → (K w.params).In h ∧ h.get? tb = some (PySem.W.tabObj #[]))
    (F : ∀ (w : World) (mg : Str → Option Value) (fa : Addr) (h : Heap), (K w.params).In h → h.Ns mainGlobals mg → mg d.name = some (.ref fa) →
      (∃ c, PySem.W.codeHdIn (K w.params) c tb = true) ∧ ∃ fd : FuncData, (∀ (s : Shared) (u : Value), BindsTo s fd ⟨[u], []⟩ [("script", u)]) ∧ ∀ base : Heap, (K w.params).In base → base.Ns mainGlobals mg → BMain mg base → FnOk l.prog w (K w.params) mg base CX0 7 fa fd ["script"] (spLaw tb (K w.params)))
    (hKT : ∀ w : World, (K w.params).lookup tb = none) :
    PySem.W.WalkO q loose XP YP l.row.toRowW d [] (fun f vs => PySem.call f vs) :=
  L2.walk_ofT (n := 63) (k := 7) (x := "script") (CX := fun _ => CX0) (sp := fun w => spLaw tb (K w.params)) hn (by decide) hdf ⟨rfl, by decide, by decide⟩ hY hKT F (fun _ _ a ns hl hT hS => ⟨a, ns, rfl, hS, hl, TbOk.first hT, fun _ => rfl⟩) fun _ _ _ _ _ z => z
end My
open PySem PySem.W PyProof.Rows
set_option maxRecDepth 100000 in
set_option maxHeartbeats 0 in
theorem PySem.Challenge.cw_meetwall_k54_all_ever_come_through_holds : PySem.Challenge.rw_meetwall_k54_all_ever_come_through.Holds := by
  w_on; o_law; k_head; (case hw => w_witness2)
  k_fill
  refine My.walk (l := PySem.Challenge.rw_meetwall_k54_all_ever_come_through) rfl rfl (fun w h Y => ⟨PySem.W.km_in_of Y, PySem.W.km_tabs_of Y _ List.mem_cons_self⟩) ?F ?KT
  case KT => intro w; first | kernel_rfl | k_is
  case F =>
    intro w mg fa h KX G hmg
    refine' My.all_mk KX G hmg ?a0 ?l0 ?c0 ?k0 ?a1 ?l1 ?c1 ?k1 ?a2 ?l2 ?c2 ?k2 ?a3 ?l3 ?c3 ?k3 ?a4 ?l4 ?c4 ?k4 ?a5 ?l5 ?c5 ?k5 ?a6 ?l6 ?c6 ?k6 ?a7 ?l7 ?c7 ?k7 ?a8 ?l8 ?c8 ?k8 ?a9 ?l9 ?c9 ?k9 ?a10 ?l10 ?c10 ?k10 ?a11 ?l11 ?c11 ?k11 ?a12 ?l12 ?c12 ?k12 ?a13 ?l13 ?c13 ?k13 ?a14 ?l14 ?c14 ?k14 ?a15 ?l15 ?c15 ?k15 ?a16 ?l16 ?c16 ?k16 ?a17 ?l17 ?c17 ?k17 ?a18 ?l18 ?c18 ?k18 ?a19 ?l19 ?c19 ?k19 ?a20 ?l20 ?c20 ?k20 ?a21 ?l21 ?c21 ?k21 ?a22 ?l22 ?c22 ?k22 ?a23 ?l23 ?c23 ?k23 ?a24 ?l24 ?c24 ?k24 ?a25 ?l25 ?c25 ?k25 ?a26 ?l26 ?c26 ?k26 ?a27 ?l27 ?c27 ?k27 ?a28 ?l28 ?c28 ?k28 ?n0 ?n1 ?n2 ?n3 ?z0 ?z1 ?z2 ?z3 ?z4 ?z5 ?z6 ?z7 ?z8 ?z9 ?z10 ?z11 ?z12 ?z13 ?z14 ?hcd ?hhd
    (case a0 => k_is); (case l0 => k_is); (case c0 => k_is); (case k0 => k_is); (case a1 => k_is); (case l1 => k_is)
    (case c1 => k_is); (case k1 => k_is); (case a2 => k_is); (case l2 => k_is); (case c2 => k_is); (case k2 => k_is)
    (case a3 => k_is); (case l3 => k_is); (case c3 => k_is); (case k3 => k_is); (case a4 => k_is); (case l4 => k_is)
    (case c4 => k_is); (case k4 => k_is); (case a5 => k_is); (case l5 => k_is); (case c5 => k_is); (case k5 => k_is)
    (case a6 => k_is); (case l6 => k_is); (case c6 => k_is); (case k6 => k_is); (case a7 => k_is); (case l7 => k_is)
    (case c7 => k_is); (case k7 => k_is); (case a8 => k_is); (case l8 => k_is); (case c8 => k_is); (case k8 => k_is)
    (case a9 => k_is); (case l9 => k_is); (case c9 => k_is); (case k9 => k_is); (case a10 => k_is); (case l10 => k_is)
    (case c10 => k_is); (case k10 => k_is); (case a11 => k_is); (case l11 => k_is); (case c11 => k_is); (case k11 => k_is)
    (case a12 => k_is); (case l12 => k_is); (case c12 => k_is); (case k12 => k_is); (case a13 => k_is); (case l13 => k_is)
    (case c13 => k_is); (case k13 => k_is); (case a14 => k_is); (case l14 => k_is); (case c14 => k_is); (case k14 => k_is)
    (case a15 => k_is); (case l15 => k_is); (case c15 => k_is); (case k15 => k_is); (case a16 => k_is); (case l16 => k_is)
    (case c16 => k_is); (case k16 => k_is); (case a17 => k_is); (case l17 => k_is); (case c17 => k_is); (case k17 => k_is)
    (case a18 => k_is); (case l18 => k_is); (case c18 => k_is); (case k18 => k_is); (case a19 => k_is); (case l19 => k_is)
    (case c19 => k_is); (case k19 => k_is); (case a20 => k_is); (case l20 => k_is); (case c20 => k_is); (case k20 => k_is)
    (case a21 => k_is); (case l21 => k_is); (case c21 => k_is); (case k21 => k_is); (case a22 => k_is); (case l22 => k_is)
    (case c22 => k_is); (case k22 => k_is); (case a23 => k_is); (case l23 => k_is); (case c23 => k_is); (case k23 => k_is)
    (case a24 => k_is); (case l24 => k_is); (case c24 => k_is); (case k24 => k_is); (case a25 => k_is); (case l25 => k_is)
    (case c25 => k_is); (case k25 => k_is); (case a26 => k_is); (case l26 => k_is); (case c26 => k_is); (case k26 => k_is)
    (case a27 => k_is); (case l27 => k_is); (case c27 => k_is); (case k27 => k_is); (case a28 => k_is); (case l28 => k_is)
    (case c28 => k_is); (case k28 => k_is); (case n0 => k_is); (case n1 => k_is); (case n2 => k_is); (case n3 => k_is)
    (case z0 => k_is); (case z1 => k_is); (case z2 => k_is); (case z3 => k_is); (case z4 => k_is); (case z5 => k_is)
    (case z6 => k_is); (case z7 => k_is); (case z8 => k_is); (case z9 => k_is); (case z10 => k_is); (case z11 => k_is)
    (case z12 => k_is); (case z13 => k_is); (case z14 => k_is); (case hcd => exact rfl); (case hhd => first | kernel_rfl | k_is)

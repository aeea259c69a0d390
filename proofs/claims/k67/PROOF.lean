import PyProof.Rows.All
import Wide.All
import OpenK.AllK
import Wide.FinOn
import Lean
import PyProof.EqAt
import PyProof.EqKinds
import PyProof.TupleCall
import PyProof.TupleKey
import PyProof.DictFindH
import PyProof.NeData
import PyProof.ListRange
import PyProof.ZipIter
import PyProof.Rows.CallKwBuiltin
import PyProof.MinMaxWalk
import KE.KSortTup
import PyProof.MeetsStr
import PyProof.MeetsStr2
import PyProof.StrCalls
import PyProof.StrCalls2
import PyProof.FString
import KE.KIntText
import PyProof.StrOps2
import PyProof.RulesAssignMore
import KE.KDictSum
import PyProof.StrLawsTight
import PyProof.StrLawsChain
import PyProof.StrLawsFirst
import PyProof.StrLawsJoin
import PyProof.StrLawsIn
import PyProof.Rows.StrCase
import KE.IntTextLaws
import PySem.Challenge.RW_meetwall_k67_texts_that_write_no_house
set_option Elab.async false
set_option linter.all false
set_option maxRecDepth 100000
set_option maxHeartbeats 4000000
noncomputable section
namespace L2
open PySem PySem.Spec PyProof.Rows
noncomputable def _root_.aa:=@wpAny_bind
noncomputable def _root_.ae:=@List.length_map
noncomputable def _root_.ag:=@List.mem_cons
noncomputable def _root_.ai:=@Nat.le_refl
noncomputable def _root_.aj:=@wpAny_pure
noncomputable def _root_.ak:=@Ne.symm
noncomputable def _root_.al:=@Heap.lt_size
noncomputable def _root_.ao:=@List.mem_cons_self
noncomputable def _root_.ap:=@Heap.get?_push_of_some
noncomputable def _root_.aq:=@List.mem_cons_of_mem
noncomputable def _root_.ar:=@List.length_append
noncomputable def _root_.au:=@decide_eq_true
noncomputable def _root_.av:=@List.mem_singleton
noncomputable def _root_.aw:=@List.not_mem_nil
noncomputable def _root_.ax:=@List.mem_map
noncomputable def _root_.ay:=@List.getElem?_map
noncomputable def _root_.az:=@List.map_append
noncomputable def _root_.ba:=@List.mem_append
noncomputable def _root_.bd:=@Nat.zero_le
noncomputable def _root_.be:=@List.getElem?_eq_getElem
noncomputable def _root_.bh:=@List.map_cons
noncomputable def _root_.bi:=@List.length_cons
noncomputable def _root_.bj:=@Bool.true_and
noncomputable def _root_.bn:=@decide_eq_false
noncomputable def _root_.bo:=@Nat.ne_of_lt
noncomputable def _root_.bp:=@Nat.le_trans
noncomputable def _root_.bq:=@List.size_toArray
noncomputable def _root_.br:=@Nat.lt_of_lt_of_le
noncomputable def _root_.bu:=@Bool.and_eq_true
noncomputable def _root_.bv:=@Heap.get?_push_size
noncomputable def _root_.bz:=@List.mem_of_getElem?
noncomputable def _root_.c7:=@Bool.false_and
noncomputable def _root_.c8:=@Bool.false_ne_true
noncomputable def _root_.c9:=@List.getElem?_eq_some_iff
noncomputable def _root_.cb:=@of_decide_eq_true
noncomputable def _root_.ce:=@List.length_singleton
noncomputable def _root_.cg:=@List.length_take
noncomputable def _root_.ci:=@List.take_length
noncomputable def _root_.cj:=@Nat.lt_irrefl
noncomputable def _root_.ck:=@List.mem_append_right
noncomputable def _root_.cm:=@List.take_add_one
noncomputable def _root_.cn:=@wpAny_mono
noncomputable def _root_.cp:=@List.map_map
noncomputable def _root_.cq:=@List.all_eq_true
noncomputable def _root_.cr:=@List.nodup_cons
noncomputable def _root_.cu:=@List.getD_eq_getElem?_getD
noncomputable def _root_.cx:=@Nat.ne_of_gt
noncomputable def _root_.cy:=@wpAny_call_entry
noncomputable def _root_.cz:=@wpAny_newObj_type
noncomputable def _root_.d0:=@List.getElem?_append_left
noncomputable def _root_.db:=@Heap.size_push
noncomputable def _root_.dc:=@Int.emod_nonneg
noncomputable def _root_.df:=@Int.toNat_natCast
noncomputable def _root_.di:=@Int.emod_lt_of_pos
noncomputable def _root_.dj:=@List.mem_range
noncomputable def _root_.dk:=@List.mem_append_left
noncomputable def _root_.dm:=@List.length_eq_zero_iff
noncomputable def _root_.dr:=@List.mem_filter
noncomputable def _root_.du:=@wpAny_isInstance
abbrev Key := Sum Int Str
noncomputable def Kw : Key → Value → Bool
 | .inl k, v => Value.isInt k v
 | .inr x, v => Value.isStrOf x v
noncomputable def zto (w : World) : Key → Int
 | .inl k => hashInt k
 | .inr x => hashStr w x
theorem xn : ∀ {k : Key} {v : Value}, Kw k v = true → (∃ i t, k = Sum.inl i ∧ v = Value.int i t) ∨ (∃ x t, k = Sum.inr x ∧ v = Value.str x t)
 | .inl i, v, h => by
   obtain ⟨t, e⟩ := Value.isInt_shape (k := i) (v := v) h;exact .inl ⟨i, t, rfl, e⟩
 | .inr x, v, h => by
   obtain ⟨t, e⟩ := Value.isStrOf_shape (x := x) (v := v) h;exact .inr ⟨x, t, rfl, e⟩
theorem zhs (i : Int) (t : Tok) : Kw (.inl i) (.int i t) = true := by simp [Kw, Value.isInt]
theorem Vo (x : Str) (t : Tok) : Kw (.inr x) (.str x t) = true := by simp [Kw, Value.isStrOf]
theorem zph (a b : Int) : decide ((Sum.inl a : Key) = Sum.inl b) = (a == b) := by
 by_cases e : a = b
 · subst e; simp
 · have h : ¬ (Sum.inl a : Key) = Sum.inl b := fun q => e (Sum.inl.inj q);rw [bn h];exact (beq_eq_false_iff_ne.mpr e).symm
theorem zko (a b : Str) : decide ((Sum.inr a : Key) = Sum.inr b) = decide (a = b) := by
 by_cases e : a = b
 · subst e; simp
 · have h : ¬ (Sum.inr a : Key) = Sum.inr b := fun q => e (Sum.inr.inj q);rw [bn h, bn e]
theorem zpg (a : Int) (b : Str) : decide ((Sum.inl a : Key) = Sum.inr b) = false := bn (fun q => nomatch q)
theorem zpf (a : Str) (b : Int) : decide ((Sum.inr a : Key) = Sum.inl b) = false := bn (fun q => nomatch q)
noncomputable def yj (prog : Program) (w : World) : PySem.KeyKind prog w Key where
 is := Kw
 hash := zto w
 inj := fun v a b ha hb => by
  rcases xn ha with ⟨i, t, rfl, rfl⟩ | ⟨x, t, rfl, rfl⟩
  · rcases xn hb with ⟨j, u, rfl, e⟩ | ⟨y, u, rfl, e⟩
    · injection e with e1 _; rw [e1]
    · exact nomatch e
  · rcases xn hb with ⟨j, u, rfl, e⟩ | ⟨y, u, rfl, e⟩
    · exact nomatch e
    · injection e with e1 _; rw [e1]
 byValue := fun k v h => by
  rcases xn h with ⟨i, t, rfl, rfl⟩ | ⟨x, t, rfl, rfl⟩ <;> rfl
 pyHash := fun hv h => by
  rcases xn hv with ⟨i, t, rfl, rfl⟩ | ⟨x, t, rfl, rfl⟩
  · exact wpAny_pyHash_int h
  · exact wpAny_pyHash_str h
 eqBool := fun hu hv h => by
  rcases xn hu with ⟨i, t, rfl, rfl⟩ | ⟨x, t, rfl, rfl⟩
  · rcases xn hv with ⟨j, u, rfl, rfl⟩ | ⟨y, u, rfl, rfl⟩
    · rw [zph] at h; exact wpAny_eqBool_int h
    · rw [zpg] at h; exact SeqAt.EqAt.int_str i t y u _ _ _ _ h
  · rcases xn hv with ⟨j, u, rfl, rfl⟩ | ⟨y, u, rfl, rfl⟩
    · rw [zpf] at h; exact SeqAt.EqAt.str_int x t j u _ _ _ _ h
    · rw [zko] at h; exact wpAny_eqBool_str h
 «strs» := fun k x t v h => by
  rcases xn h with ⟨i, u, rfl, e⟩ | ⟨y, u, rfl, e⟩
  · exact nomatch e
  · injection e with e1 _;subst e1;cases v <;> rfl
theorem zcx (prog : Program) (w : World) (i : Int) (t : Tok) : (yj prog w).is (.inl i) (.int i t) = true := zhs i t
theorem zcw (prog : Program) (w : World) (x : Str) (t : Tok) : (yj prog w).is (.inr x) (.str x t) = true := Vo x t
inductive V where
 | non | bl (b : Bool) | int (i : Int) | str (x : Str) | byt (b : Array UInt8) | flt (b : UInt64) | ref (a : Addr) | ty (n : String)
 deriving DecidableEq
noncomputable def yq : V → Value → Prop
 | .non, u => u = Value.none
 | .bl b, u => u = Value.bool b
 | .int i, u => ∃ t, u = Value.int i t
 | .str x, u => ∃ t, u = Value.str x t
 | .byt b, u => ∃ t, u = Value.bytes b t
 | .flt b, u => ∃ t, u = Value.float b t
 | .ref a, u => u = Value.ref a
 | .ty n, u => u = Value.type n
abbrev yn : List V → List Value → Prop := Paired yq
theorem yn.length {xs : List V} {us : List Value} (r : yn xs us) : xs.length = us.length := Paired.length r
theorem yn.get : ∀ {xs : List V} {us : List Value} {i : Nat} {x : V}, yn xs us → xs[i]? = some x → ∃ u, us[i]? = some u ∧ yq x u
 | _, _, _, _, .nil, e => by simp at e
 | _, _, 0, _, .cons r _, e => by simp at e; subst e; exact ⟨_, rfl, r⟩
 | _, _, i + 1, x, .cons _ t, e => by
   obtain ⟨u, h1, h2⟩ := yn.get (i := i) (x := x) t (by simpa using e);exact ⟨u, by simpa using h1, h2⟩
theorem yn.set {x : V} {u : Value} (r : yq x u) : ∀ {xs : List V} {us : List Value} (i : Nat), yn xs us → yn (xs.set i x) (us.set i u)
 | _, _, _, .nil => .nil
 | _, _, 0, .cons _ t => .cons r t
 | _, _, i + 1, .cons q t => .cons q (yn.set r i t)
theorem yn.append : ∀ {xs ys : List V} {us ws : List Value}, yn xs us → yn ys ws → yn (xs ++ ys) (us ++ ws)
 | _, _, _, _, .nil, s => s
 | _, _, _, _, .cons r t, s => .cons r (yn.append t s)
theorem yn.take : ∀ {xs : List V} {us : List Value} (n : Nat), yn xs us → yn (xs.take n) (us.take n)
 | _, _, 0, _ => .nil
 | _, _, _ + 1, .nil => .nil
 | _, _, n + 1, .cons r t => .cons r (yn.take n t)
theorem yn.drop : ∀ {xs : List V} {us : List Value} (n : Nat), yn xs us → yn (xs.drop n) (us.drop n)
 | _, _, 0, r => r
 | _, _, _ + 1, .nil => .nil
 | _, _, n + 1, .cons _ t => yn.drop n t
noncomputable def W5 : Option V → Option Value → Prop
 | some v, some u => yq v u
 | none, none => True
 | _, _ => False
noncomputable def KV {κ : Type} : List (κ × V) → List (κ × Value) → Prop := Paired fun (p : κ × V) (q : κ × Value) => p.1 = q.1 ∧ yq p.2 q.2
noncomputable def kV : Key → V
 | .inl i => .int i
 | .inr x => .str x
inductive HO where
 | lst (xs : List V)
 | tup (xs : List V)
 | dK (kvs : List (Key × V)) | dT (kvs : List (List Key × V))
 | set (S : Int → Bool) (n : Nat)
 | ins (C dx : Addr) (fs : List (Str × V))
 | own (x : Addr)
 | xd (fs : List (Str × V))
 | met (f x : Addr)
 | rng (lo hi : Int)
 | frz (o : Obj) (u : HO)
 | tbl (ps : Array Value)
 | ext (φ : Heap → Prop)
abbrev Hp := Addr → Option HO
noncomputable def upd (H : Hp) (a : Addr) (o : HO) : Hp := fun b => if b = a then some o else H b
variable {a b : Addr} {o u : HO} {h h' : Heap} {H : Hp} {P : Program} {w : World}
theorem zf : upd H a o a = some o := by unfold upd; rw [if_pos rfl]
theorem zk (h : b ≠ a) : upd H a o b = H b := by unfold upd; rw [if_neg h]
theorem Ja (h : H a = some o) (h' : H b = some u) (d : o ≠ u) : a ≠ b := by
 intro e; subst e; rw [h] at h'; exact d (Option.some.inj h')
theorem zj (h : H a = some o) (h' : H b = none) : a ≠ b := by
 intro e; subst e; rw [h] at h'; cases h'
noncomputable def NoD (h : Heap) (a : Addr) : Prop := ∀ o, h.get? a = some o → o.dict = none
theorem NoD.of {o : Obj} (n : NoD h a) (e : h.get? a = some o) (e' : h'.get? a = some o) : NoD h' a := fun q hq => by rw [e'] at hq; cases hq; exact n o e
theorem NoD.push {h : Heap} {c : Value} {d : Data} {sl : Array (Option Value)} : NoD (h.push { cls := c, dict := none, data := d, slots := sl }) h.objs.size := fun q hq => by
 have e : (h.push { cls := c, dict := none, data := d, slots := sl }).get? h.objs.size = some q := hq;cases hf : ({ cls := c, dict := none, data := d, slots := sl } : Obj).isFreed with
 | false => rw [bv _ hf] at e; cases e; rfl
 | true =>
   simp [Heap.get?, Heap.push, hf] at e;split at e
   · cases e
   · cases e; rfl
section
variable (P : Program) (w : World)
noncomputable def yw (H : Hp) (h : Heap) (a : Addr) : HO → Prop
 | .lst xs => xs.length ≤ sizeLine ∧ ∃ (its : List Value) (n : Nat), yn xs its ∧ h.get? a = some { cls := .type "list", data := .seq its.toArray n }
 | .tup xs => xs.length ≤ sizeLine ∧ ∃ its : List Value, yn xs its ∧ IsTup h a its.toArray ∧ NoD h a
 | .dK kvs => kvs.length ≤ sizeLine ∧ (a == sysModules) = false ∧ ∃ vs, KV kvs vs ∧ h.DictOf (yj P w) a vs
 | .dT kvs => kvs.length ≤ sizeLine ∧ (a == sysModules) = false ∧ ∃ xs : List (List Key × Addr × Value),
  Paired (fun (p : List Key × V) (q : List Key × Addr × Value) => p.1 = q.1 ∧ H q.2.1 = some (.tup (p.1.map kV)) ∧ yq p.2 q.2.2) kvs xs ∧
  ∃ o es ep, h.get? a = some o ∧ o.ExactDict ∧ o.data = .dict es ep ∧ es.toList = xs.map (entryOfKey (tupleKind (yj P w))) ∧ (xs.map (·.1)).Nodup
 | .set S n => h.SetOf (intKind P w) a S n
 | .ins C dx fs => H dx = some (.own a) ∧ fs.length ≤ 1000 ∧ dx ≠ a ∧ h.get? a = some (PySem.W.instObj C dx) ∧
  ∃ mA, h.Ns1 dx mA ∧ (∀ f, W5 (fs.lookup f) (mA f)) ∧ PySem.Within mA (fs.map (·.1))
 | .own _ => ∃ o, h.get? a = some o
 | .xd fs => ∃ mA, h.Ns1 a mA ∧ ∀ f, W5 (fs.lookup f) (mA f)
 | .rng lo hi => ∃ t u v, h.get? a = some { cls := .type "range", data := .fields #[.int lo t, .int hi u, .int 1 v] }
 | .frz o u => h.get? a = some o ∧ yw H h a u
 | .tbl ps => h.get? a = some { cls := .none, data := .fields ps }
 | .met f x => h.get? a = some (PySem.W.methodObj (.ref f) (.ref x))
 | .ext φ => φ h ∧ (∃ o, h.get? a = some o) ∧ ∀ h1 h2 : Heap, φ h1 → (∀ o, h1.get? a = some o → h2.get? a = some o) → φ h2
noncomputable def HOk (H : Hp) (h : Heap) : Prop := ∀ a o, H a = some o → yw P w H h a o
end
section
variable {H' : Hp}
theorem yw.lt (x : yw P w H h a o) : a < h.objs.size := by
 cases o with
 | lst xs => obtain ⟨_, _, _, _, e⟩ := x; exact al e
 | tup xs => obtain ⟨_, _, _, p, _⟩ := x; exact p.lt
 | dK kvs => obtain ⟨_, _, _, _, o, _, _, e, _⟩ := x; exact al e
 | dT kvs => obtain ⟨_, _, _, _, o, _, _, e, _⟩ := x; exact al e
 | set S n => obtain ⟨o, _, _, _, e, _⟩ := x; exact al e
 | ins C dx fs => obtain ⟨_, _, _, e, _⟩ := x; exact al e
 | own y => obtain ⟨_, e⟩ := x; exact al e
 | xd fs => obtain ⟨_, ⟨_, _, _, e, _⟩, _⟩ := x; exact al e
 | rng lo hi => obtain ⟨_, _, _, e⟩ := x; exact al e
 | frz ob u => obtain ⟨e, _⟩ := x; exact al e
 | tbl ps => exact al (show h.get? a = some _ from x)
 | met f y => exact al (show h.get? a = some _ from x)
 | ext φ => obtain ⟨_, ⟨_, e⟩, _⟩ := x; exact al e
theorem Paired.mapP {α β : Type} {F G : α → β → Prop} : ∀ {l₁ : List α} {l₂ : List β}, Paired F l₁ l₂ → (∀ a b, F a b → G a b) → Paired G l₁ l₂
 | _, _, .nil, _ => .nil
 | _, _, .cons r t, f => .cons (f _ _ r) (Paired.mapP t f)
theorem yw.stay (x : yw P w H h a o) (k : ∀ b u, (b = a ∨ H b = some (.own a)) → h.get? b = some u → h'.get? b = some u)
  (ho : ∀ b, H b = some (.own a) → H' b = some (.own a)) (ht : ∀ b xs, H b = some (.tup xs) → H' b = some (.tup xs)) : yw P w H' h' a o := by
 induction o with
 | lst xs => obtain ⟨z, its, n, r, e⟩ := x; exact ⟨z, its, n, r, k _ _ (.inl rfl) e⟩
 | tup xs => obtain ⟨z, its, r, ⟨ob, e, c⟩, nd⟩ := x; exact ⟨z, its, r, ⟨ob, k _ _ (.inl rfl) e, c⟩, nd.of e (k _ _ (.inl rfl) e)⟩
 | dK kvs => obtain ⟨z, y, vs, r, ob, es, ep, e, c⟩ := x; exact ⟨z, y, vs, r, ob, es, ep, k _ _ (.inl rfl) e, c⟩
 | dT kvs =>
   obtain ⟨z, y, xs, r, ob, es, ep, e, c⟩ := x;exact ⟨z, y, xs, Paired.mapP r fun p q z => ⟨z.1, ht _ _ z.2.1, z.2.2⟩, ob, es, ep, k _ _ (.inl rfl) e, c⟩
 | set S n => obtain ⟨ob, es, ep, t, e, c⟩ := x; exact ⟨ob, es, ep, t, k _ _ (.inl rfl) e, c⟩
 | ins C dx fs =>
   obtain ⟨d, z, ne, e, mA, ⟨od, es, ep, e2, c⟩, r⟩ := x;exact ⟨ho _ d, z, ne, k _ _ (.inl rfl) e, mA, ⟨od, es, ep, k _ _ (.inr d) e2, c⟩, r⟩
 | own y => obtain ⟨ob, e⟩ := x; exact ⟨ob, k _ _ (.inl rfl) e⟩
 | xd fs => obtain ⟨mA, ⟨od, es, ep, e, c⟩, r⟩ := x; exact ⟨mA, ⟨od, es, ep, k _ _ (.inl rfl) e, c⟩, r⟩
 | rng lo hi => obtain ⟨t, u, v, e⟩ := x; exact ⟨t, u, v, k _ _ (.inl rfl) e⟩
 | frz ob u ih => obtain ⟨e, q⟩ := x; exact ⟨k _ _ (.inl rfl) e, ih q⟩
 | tbl ps =>
   have e : h.get? a = some { cls := .none, data := .fields ps } := x;show h'.get? a = some { cls := .none, data := .fields ps };exact k a _ (.inl rfl) e
 | met f y =>
   have e : h.get? a = some (PySem.W.methodObj (.ref f) (.ref y)) := x;show h'.get? a = some (PySem.W.methodObj (.ref f) (.ref y));exact k a _ (.inl rfl) e
 | ext φ => obtain ⟨p, ⟨o, e⟩, st⟩ := x; exact ⟨st _ _ p fun o q => k _ _ (.inl rfl) q, ⟨o, k _ _ (.inl rfl) e⟩, st⟩
theorem HOk.lt (x : HOk P w H h) (e : H a = some o) : a < h.objs.size := (x a o e).lt
theorem HOk.fresh (x : HOk P w H h) (e : h.objs.size ≤ a) : H a = none := by
 cases q : H a with
 | none => rfl
 | some u => exact absurd (br (x.lt q) e) (cj _)
theorem HOk.kept (x : HOk P w H h) (k : ∀ b u, h.get? b = some u → h'.get? b = some u) : HOk P w H h' := fun a o e =>
 (x a o e).stay (fun b u _ q => k b u q) (fun _ q => q) fun _ _ q => q
theorem HOk.laid (x : HOk P w H h) (k : ∀ b u, h.get? b = some u → h'.get? b = some u) (hp : h.objs.size ≤ a) (new : yw P w (upd H a o) h' a o) : HOk P w (upd H a o) h' := fun b u e => by
 have hn := x.fresh hp;by_cases hb : b = a
 · subst hb; rw [zf] at e; cases e; exact new
 · rw [zk hb] at e;exact (x b u e).stay (fun c v _ q => k c v q) (fun c q => by rw [zk (zj q hn)]; exact q) fun c xs q => by rw [zk (zj q hn)]; exact q
end
noncomputable def Rd (H : Hp) (a : Addr) (u : HO) : Prop := H a = some u ∨ ∃ o, H a = some (.frz o u)
theorem Rd.ok (r : Rd H a u) (x : HOk P w H h) : yw P w H h a u := by
 rcases r with r | ⟨o, r⟩
 · exact x a u r
 · obtain ⟨_, q⟩ := x a _ r;exact q
noncomputable def Mut : Option HO → Prop
 | some (.lst _) => True
 | some (.dK _) => True
 | some (.dT _) => True
 | some (.set _ _) => True
 | some (.ins _ _ _) => True
 | some (.ext _) => True
 | _ => False
section
variable {x e : Addr} {o' : HO}
theorem HOk.write (ok : HOk P w H h) (mu : Mut (H x)) (he : e = x ∨ H e = some (.own x)) (k : ∀ b u, b ≠ e → h.get? b = some u → h'.get? b = some u) (heo : ∃ u, h'.get? e = some u)
  (new : yw P w (upd H x o') h' x o') : HOk P w (upd H x o') h' := fun b u q => by
 have nown : ∀ c y, H c = some (.own y) → c ≠ x := fun c y r z => by subst z; rw [r] at mu; exact mu
 have ntup : ∀ c xs, H c = some (.tup xs) → c ≠ x := fun c xs r z => by subst z; rw [r] at mu; exact mu
 by_cases hb : b = x
 · subst hb; rw [zf] at q; cases q; exact new
 · rw [zk hb] at q;by_cases hbe : b = e
   · have q' : H b = some (.own x) := by
      rcases he with z | z
      · exact absurd (hbe.trans z) hb
      · rw [hbe]; exact z
     rw [q] at q'; cases q';obtain ⟨v, hv⟩ := heo;exact ⟨v, by rw [hbe]; exact hv⟩
   · refine (ok b u q).stay (fun c v hc r => k c v ?_ r) (fun c r => by rw [zk (nown c b r)]; exact r) fun c xs r => by rw [zk (ntup c xs r)]; exact r
     rcases hc with rfl | hc
     · exact hbe
     · rintro rfl;rcases he with z | z
       · exact nown c b hc z
       · rw [hc] at z; cases z; exact hb rfl
end
structure Un (fs ex : List Addr) (H H' : Hp) (h h' : Heap) : Prop where
 keep : ∀ b o, h.get? b = some o → H b = none → b ∉ fs → b ∉ ex → h'.get? b = some o
 slot : ∀ b o, h.get? b = some o → H b = none → b ∈ fs → b ∉ ex → ∃ sl, h'.get? b = some { o with slots := sl }
 free : ∀ b o, h.get? b = some o → H b = none → b ∉ ex → H' b = none
 there : ∀ b o, h.get? b = some o → b ∉ ex → ∃ o', h'.get? b = some o'
 tups : ∀ b xs, H b = some (.tup xs) → H' b = some (.tup xs)
 frzs : ∀ b o u, H b = some (.frz o u) → H' b = some (.frz o u)
 tbls : ∀ b ps, H b = some (.tbl ps) → ∃ more, H' b = some (.tbl (ps ++ more))
section
variable {fs fs' ex ex' : List Addr} {H1 H2 : Hp} {h1 h2 : Heap} {x e : Addr}
theorem Un.any (u : Un fs ex H H1 h h1) {ob : Obj} (q : h.get? b = some ob) (n : H b = none) (hx : b ∉ ex) : ∃ sl, h1.get? b = some { ob with slots := sl } := by
 by_cases hb : b ∈ fs
 · exact u.slot b ob q n hb hx
 · exact ⟨ob.slots, u.keep b ob q n hb hx⟩
theorem Un.kept (k : ∀ b u, h.get? b = some u → h'.get? b = some u) : Un fs ex H H h h' :=
 ⟨fun b ob q _ _ _ => k b ob q, fun b ob q _ _ _ => ⟨ob.slots, k b ob q⟩, fun _ _ _ n _ => n, fun b ob q _ => ⟨ob, k b ob q⟩, fun _ _ q => q, fun _ _ _ q => q, fun _ ps q => ⟨#[], by rw [q]; simp⟩⟩
theorem Un.refl : Un fs ex H H h h := Un.kept fun _ _ q => q
theorem Un.laid (k : ∀ b u, h.get? b = some u → h'.get? b = some u) (hp : h.objs.size ≤ a) (hn : H a = none) : Un fs ex H (upd H a o) h h' where
 keep := fun b u q _ _ _ => k b u q
 slot := fun b u q _ _ _ => ⟨u.slots, k b u q⟩
 free := fun b u q n _ => by rw [zk (bo (br (al q) hp))]; exact n
 there := fun b u q _ => ⟨u, k b u q⟩
 tups := fun b xs q => by rw [zk (zj q hn)]; exact q
 frzs := fun b u xs q => by rw [zk (zj q hn)]; exact q
 tbls := fun b ps q => ⟨#[], by rw [zk (zj q hn), q]; simp⟩
theorem Un.write (mu : Mut (H x)) (he : e = x ∨ H e = some (.own x)) (k : ∀ b u, b ≠ e → h.get? b = some u → h'.get? b = some u) (heo : ∃ u, h'.get? e = some u) : Un fs ex H (upd H x o) h h' := by
 have hx : ∀ b, H b = none → b ≠ x := fun b n z => by subst z; rw [n] at mu; exact mu
 have hb : ∀ b, H b = none → b ≠ e := fun b n z => by
  subst z;rcases he with r | r
  · exact hx b n r
  · rw [n] at r; cases r
 have hm : ∀ b u, H b = some u → ¬ Mut (some u) → b ≠ x := fun b u q nm z => by subst z; rw [q] at mu; exact nm mu
 refine ⟨fun b u q n _ _ => k b u (hb b n) q, fun b u q n _ _ => ⟨u.slots, k b u (hb b n) q⟩, fun b u q n _ => by rw [zk (hx b n)]; exact n, fun b u q _ => ?_,
  fun b xs q => by rw [zk (hm b _ q fun z => z)]; exact q, fun b u xs q => by rw [zk (hm b _ q fun z => z)]; exact q, fun b ps q => ⟨#[], by rw [zk (hm b _ q fun z => z), q]; simp⟩⟩
 by_cases hbe : b = e
 · subst hbe; exact heo
 · exact ⟨u, k b u hbe q⟩
end
noncomputable def trk (h : Heap) (H : Hp) : List Addr := (List.range h.objs.size).filter fun a => (H a).isSome
noncomputable def zbi (h : Heap) (H : Hp) : Heap := PySem.W.hideAll h (trk h H)
theorem zhv (h : Heap) (H : Hp) : (zbi h H).objs.size = h.objs.size := PySem.W.hideAll_size _ _
theorem zku {o : Obj} (e : h.get? b = some o) (n : H b = none) : (zbi h H).get? b = some o :=
 PySem.W.hideAll_get _ e fun hm => by
  have q : (H b).isSome = true := (dr.mp hm).2;rw [n] at q; simp at q
theorem zmu {o : Obj} (e : (zbi h H).get? b = some o) : h.get? b = some o ∧ H b = none := by
 have e' : h.get? b = some o := PySem.W.of_hideAll (trk h H) e;refine ⟨e', ?_⟩;cases q : H b with
 | none => rfl
 | some x =>
   have hm : b ∈ trk h H := dr.mpr ⟨dj.mpr (al e'), by simp [q]⟩;have z : (zbi h H).get? b = none := PySem.W.hideAll_none (trk h H) hm;rw [z] at e; cases e
noncomputable def znq (g h : Heap) (L : Addr) : List (Addr × Obj) := (List.range h.objs.size).filterMap fun a => if a = L ∨ (g.get? a).isSome = true then none else (h.get? a).map fun o => (a, o)
noncomputable def jk (g h : Heap) (L d : Addr) : List (Addr × Obj) := (znq g h L).filter fun p => decide (p.1 ≠ d)
structure Mod (K : PySem.W.Frag) (mg : Str → Option Value) (base : Heap) : Prop where
 kin : K.In base
 glob : base.Ns mainGlobals mg
 blt : ∃ mb, base.Ns builtinsNs mb ∧ ∀ x : Str, x ≠ "__name__" → mb x = bootBuiltins x
 nolimit : base.NoLimit
structure Cx where
 prog : Program
 w : World
 K : PySem.W.Frag
 mg : Str → Option Value
 base : Heap
 A : Around
 N : List Str
 s₀ : Shared
 H₀ : Hp
 env : Env
 outer : List Env
 stack : List Env
 ex : List Addr
 fn : Str → Bool
 calm : Bool
 pn : List (Addr × Obj)
 xe : Value → Shared → Prop
noncomputable def frs (l : List Env) : List Addr := l.filterMap (·.frame)
variable {A : Around} {pins pins' : List (Addr × Obj)} {σ : List (Option V)} {ch : List Addr} {N : List Str} {i t' : Nat} {s : Shared} {x : Str} {Q : Unit → Shared → Prop} {v : V} {u : Value} {E : Value → Shared → Prop}
abbrev Cx.fs (X : Cx) : List Addr := frs X.outer
noncomputable def Vis (sc : Scope) (x : Str) : Prop := sc.names.lookup x = some .local ∨ sc.names.lookup x = some .cell ∨ sc.names.lookup x = some .free
noncomputable def Loc (sc : Scope) (x : Str) : Prop := sc.names.lookup x = some .local ∨ sc.names.lookup x = some .cell
noncomputable def zs7 (env : Env) (h : Heap) (m : Str → Option Value) (x : Str) (u : Value) : Prop :=
 (env.kindOf x = some .local ∧ m x = some u) ∨ ((env.kindOf x = some .cell ∨ env.kindOf x = some .free) ∧ ∃ c, env.cells.lookup x = some c ∧ h.IsCell c (some u))
structure Cx.Ok (X : Cx) : Prop where
 mod : Mod X.K X.mg X.base
 kind : X.env.scope.kind = .function
 glob : X.env.globals = mainGlobals
 blt : X.env.builtins = builtinsNs
 above : X.s₀.heap.objs.size ≤ X.env.locals
 inj : ∀ x y c, X.env.cells.lookup x = some c → X.env.cells.lookup y = some c → x = y
 has : ∀ x, (X.env.kindOf x = some .cell ∨ X.env.kindOf x = some .free) → ∃ c, X.env.cells.lookup x = some c
 cab : ∀ x c, X.fn x = true → X.env.cells.lookup x = some c → X.s₀.heap.objs.size ≤ c
 hd : X.calm = true → X.A.handled = none
 frames : X.A.frames = some X.stack
 stk : X.stack = X.outer ∨ (X.stack = X.env :: X.outer ∧ X.env.frame = some X.env.locals)
 exf : ∀ b ∈ X.ex, b ≠ X.env.locals ∧ ∀ x c, X.env.cells.lookup x = some c → c ≠ b
 bs : ∀ b o, X.base.get? b = some o → X.s₀.heap.get? b = some o ∧ X.H₀ b = none
 bsz : X.base.objs.size ≤ X.s₀.heap.objs.size
 noex : ∀ b o, X.base.get? b = some o → b ∉ X.ex
 exfs : ∀ b ∈ X.ex, b ∉ X.fs
 funs : X.s₀.heap.FunFrames X.base X.outer
 frf : ∀ b ∈ X.fs, X.H₀ b = none
structure Inv (X : Cx) (pins : List (Addr × Obj)) (σ : List (Option V)) (H : Hp) (s : Shared) : Prop where
 ok : X.Ok
 os : s.os = X.s₀.os
 bare : AllBare s.gens
 base : Un X.fs X.ex X.H₀ H X.s₀.heap s.heap
 loc : ∃ m, s.heap.Ns X.env.locals m ∧ ∀ (i : Nat) (x : Str) (v : V), X.N[i]? = some x → σ[i]? = some (some v) → Vis X.env.scope x → ∃ u, yq v u ∧ zs7 X.env s.heap m x u
 cell : ∀ x c, X.env.cells.lookup x = some c → ∃ v, s.heap.IsCell c v
 free : H X.env.locals = none
 freeC : ∀ x c, X.env.cells.lookup x = some c → H c = none
 pin : ∀ p ∈ X.pn ++ pins, s.heap.get? p.1 = some p.2 ∧ H p.1 = none ∧ p.1 ≠ X.env.locals ∧ p.1 ∉ X.fs ∧ ∀ v, p.2.data ≠ .cell v
 hok : HOk X.prog X.w H s.heap
 len : σ.length = X.N.length
section
variable {X : Cx} {H' : Hp}
theorem Cx.Ok.nofr (ok : X.Ok) {o : Obj} (e : X.base.get? b = some o) : b ∉ X.fs := fun hb => by
 have := (ok.funs.mem hb).1;rw [e] at this; cases this
theorem Inv.bs (I : Inv X pins σ H s) : ∀ b o, X.base.get? b = some o → s.heap.get? b = some o ∧ H b = none := fun b o e =>
 ⟨I.base.keep b o (I.ok.bs b o e).1 (I.ok.bs b o e).2 (I.ok.nofr e) (I.ok.noex b o e), I.base.free b o (I.ok.bs b o e).1 (I.ok.bs b o e).2 (I.ok.noex b o e)⟩
theorem Inv.bk (I : Inv X pins σ H s) : ∀ b o, X.base.get? b = some o → s.heap.get? b = some o := fun b o e => (I.bs b o e).1
theorem Inv.mod (I : Inv X pins σ H s) : Mod X.K X.mg X.base := I.ok.mod
theorem Inv.kIn (I : Inv X pins σ H s) : X.K.In s.heap := I.ok.mod.kin.keeps I.bk
theorem Inv.lt (I : Inv X pins σ H s) : X.env.locals < s.heap.objs.size := let ⟨_, hn, _⟩ := I.loc; hn.lt
theorem Inv.sz (I : Inv X pins σ H s) : X.s₀.heap.objs.size ≤ s.heap.objs.size := bp I.ok.above (Nat.le_of_lt I.lt)
theorem Inv.nofs (I : Inv X pins σ H s) (h : s.heap.objs.size ≤ a) : a ∉ X.fs := fun hb => by
 obtain ⟨_, o, ho, _⟩ := I.ok.funs.mem hb;exact absurd (br (al ho) (bp I.sz h)) (cj _)
theorem Inv.cne (I : Inv X pins σ H s) : ∀ x c, X.env.cells.lookup x = some c → c ≠ X.env.locals := fun x c e z => by
 obtain ⟨v, o, ho, hd⟩ := I.cell x c e;obtain ⟨m, ⟨o', es, ep, ho', hd', _⟩, _⟩ := I.loc;rw [z, ho'] at ho; cases ho; rw [hd'] at hd; cases hd
theorem Inv.funs (I : Inv X pins σ H s) : s.heap.FunFrames X.base X.outer := by
 have all : ∀ (l : List Env), (∀ b ∈ frs l, b ∈ X.fs) → X.s₀.heap.FunFrames X.base l → s.heap.FunFrames X.base l := by
  intro l;induction l with
  | nil => intro _ _; trivial
  | cons env r ih =>
    intro hs hl;obtain ⟨hk, ⟨L, o, hf, hn, ho, hd⟩, hr⟩ := hl;have hL : L ∈ X.fs := hs L (by unfold frs; rw [List.filterMap_cons, hf]; exact ao);obtain ⟨sl, e⟩ := I.base.slot L o ho (I.ok.frf L hL) hL fun z => I.ok.exfs L z hL;exact ⟨hk, ⟨L, _, hf, hn, e, hd⟩, ih (fun b hb => hs b (by unfold frs; rw [List.filterMap_cons, hf]; exact aq _ hb)) hr⟩
 exact all X.outer (fun _ hb => hb) I.ok.funs
theorem Inv.stack (I : Inv X pins σ H s) : s.heap.FunFrames X.base X.stack := by
 rcases I.ok.stk with e | ⟨e, hf⟩
 · rw [e]; exact I.funs
 · rw [e];obtain ⟨m, hn, _⟩ := I.loc;refine .cons (by rw [I.ok.kind]; decide) hf hn ?_ I.funs;exact Heap.get?_none_of_le (bp I.ok.bsz I.ok.above)
theorem Inv.stkSub (I : Inv X pins σ H s) : ∀ b ∈ frs X.stack, b ∈ X.env.locals :: X.fs := fun b hb => by
 rcases I.ok.stk with e | ⟨e, hf⟩
 · rw [e] at hb; exact aq _ hb
 · rw [e] at hb;unfold frs at hb;rw [List.filterMap_cons, hf] at hb;exact hb
theorem Inv.stkFree (I : Inv X pins σ H s) : ∀ b ∈ frs X.stack, H b = none := fun b hb => by
 rcases ag.mp (I.stkSub b hb) with e | hb
 · rw [e]; exact I.free
 · obtain ⟨_, o, ho, _⟩ := I.ok.funs.mem hb;exact I.base.free b o ho (I.ok.frf b hb) fun z => I.ok.exfs b z hb
theorem Inv.step {g' : Array GenState} {d' : Drawn} (I : Inv X pins σ H s)
  (hch : ∀ b ∈ ch, (b ∈ X.ex ∨ X.s₀.heap.objs.size ≤ b) ∧ b ≠ X.env.locals ∧ (∀ x c, X.env.cells.lookup x = some c → c ≠ b) ∧ ∀ p ∈ X.pn ++ pins, p.1 ≠ b)
  (keep : ∀ b o, b ≠ X.env.locals → b ∉ X.fs → b ∉ ch → s.heap.get? b = some o → H b = none → h'.get? b = some o)
  (slot : ∀ b o, b ≠ X.env.locals → b ∈ X.fs → b ∉ ch → s.heap.get? b = some o → H b = none → ∃ sl, h'.get? b = some { o with slots := sl }) (free : ∀ b o, b ∉ ch → s.heap.get? b = some o → H b = none → H' b = none)
  (there : ∀ b o, b ∉ ch → s.heap.get? b = some o → ∃ o', h'.get? b = some o')
  (tups : ∀ b xs, H b = some (.tup xs) → H' b = some (.tup xs)) (frzs : ∀ b o u, H b = some (.frz o u) → H' b = some (.frz o u)) (tbls : ∀ b ps, H b = some (.tbl ps) → ∃ more, H' b = some (.tbl (ps ++ more)))
  (ns : ∀ m, s.heap.Ns X.env.locals m → h'.Ns X.env.locals m) (hok : HOk X.prog X.w H' h') (hg : AllBare g') :
  Inv X pins σ H' { s with heap := h', gens := g', drawn := d', toks := t' } := by
 have neL : ∀ b o, X.s₀.heap.get? b = some o → b ≠ X.env.locals := fun b o e => bo (br (al e) I.ok.above);have neC : ∀ b o, X.s₀.heap.get? b = some o → b ∉ X.ex → b ∉ ch := fun b o e hx hb => by
  rcases (hch b hb).1 with z | z
  · exact hx z
  · exact absurd (br (al e) z) (cj _)
 have cellK : ∀ x c, X.env.cells.lookup x = some c → ∀ v, s.heap.IsCell c v → h'.IsCell c v := fun x c e v ⟨o, ho, hd⟩ => by
  have nch : c ∉ ch := fun z => (hch c z).2.2.1 x c e rfl;by_cases hc : c ∈ X.fs
  · obtain ⟨sl, q⟩ := slot c o (I.cne x c e) hc nch ho (I.freeC x c e);exact ⟨_, q, hd⟩
  · exact ⟨o, keep c o (I.cne x c e) hc nch ho (I.freeC x c e), hd⟩
 refine ⟨I.ok, I.os, hg, ⟨fun b o e n hb hx => ?_, fun b o e n hb hx => ?_, fun b o e n hx => ?_, fun b o e hx => ?_, fun b xs e => tups b xs (I.base.tups b xs e), fun b o xs e => frzs b o xs (I.base.frzs b o xs e), fun b ps e => ?_⟩, ?_, fun x c e => ?_, ?_, fun x c e => ?_, fun p hp => ?_, hok, I.len⟩
 · exact keep b o (neL b o e) hb (neC b o e hx) (I.base.keep b o e n hb hx) (I.base.free b o e n hx)
 · obtain ⟨sl, e1⟩ := I.base.slot b o e n hb hx;obtain ⟨sl', e2⟩ := slot b _ (neL b o e) hb (neC b o e hx) e1 (I.base.free b o e n hx);exact ⟨sl', e2⟩
 · obtain ⟨o', e1⟩ := I.base.there b o e hx;exact free b o' (neC b o e hx) e1 (I.base.free b o e n hx)
 · obtain ⟨o', e1⟩ := I.base.there b o e hx;exact there b o' (neC b o e hx) e1
 · obtain ⟨m1, e1⟩ := I.base.tbls b ps e;obtain ⟨m2, e2⟩ := tbls b _ e1;exact ⟨m1 ++ m2, by rw [e2, Array.append_assoc]⟩
 · obtain ⟨m, hn, hl⟩ := I.loc;refine ⟨m, ns m hn, fun i x v e1 e2 e3 => ?_⟩;obtain ⟨u, r, l⟩ := hl i x v e1 e2 e3;refine ⟨u, r, ?_⟩;rcases l with l | ⟨k, c, e, z⟩
   · exact .inl l
   · exact .inr ⟨k, c, e, cellK x c e _ z⟩
 · obtain ⟨v, z⟩ := I.cell x c e;exact ⟨v, cellK x c e v z⟩
 · obtain ⟨m, ⟨o, _, _, ho, _⟩, _⟩ := I.loc;exact free _ o (fun z => (hch _ z).2.1 rfl) ho I.free
 · obtain ⟨v, o, ho, hd⟩ := I.cell x c e;exact free c o (fun z => (hch c z).2.2.1 x c e rfl) ho (I.freeC x c e)
 · obtain ⟨e, n, ne, nf, d⟩ := I.pin p hp;have nch : p.1 ∉ ch := fun z => (hch p.1 z).2.2.2 p hp rfl;exact ⟨keep p.1 p.2 ne nf nch e n, free p.1 p.2 nch e n, ne, nf, d⟩
theorem Inv.un (I : Inv X pins σ H s) (u : Un X.fs [] H H' s.heap h') (hok : HOk X.prog X.w H' h') : Inv X pins σ H' { s with heap := h', toks := t' } := by
 obtain ⟨m, ⟨o, es, ep, ho, r⟩, _⟩ := id I.loc;obtain ⟨sl, hL⟩ := u.any ho I.free (by simp);exact I.step (g' := s.gens) (d' := s.drawn) (ch := []) (fun _ z => nomatch z) (fun b o _ hb _ e n => u.keep b o e n hb (by simp)) (fun b o _ hb _ e n => u.slot b o e n hb (by simp)) (fun b o _ e n => u.free b o e n (by simp)) (fun b o _ e => u.there b o e (by simp)) u.tups u.frzs u.tbls (fun m' hm => by
  obtain ⟨o', es', ep', ho', r'⟩ := hm;rw [ho] at ho'; cases ho';exact ⟨_, es', ep', hL, r'⟩) hok I.bare
theorem Inv.call {g' : Array GenState} {d' : Drawn} (I : Inv X pins σ H s) (u : Un (frs X.stack) ch H H' s.heap h') (hok : HOk X.prog X.w H' h') (hg : AllBare g')
  (hch : ∀ b ∈ ch, (b ∈ X.ex ∨ X.s₀.heap.objs.size ≤ b) ∧ b ≠ X.env.locals ∧ (∀ x c, X.env.cells.lookup x = some c → c ≠ b) ∧ ∀ p ∈ X.pn ++ pins, p.1 ≠ b) :
  Inv X pins σ H' { s with heap := h', gens := g', drawn := d', toks := t' } := by
 obtain ⟨m, ⟨o, es, ep, ho, r⟩, _⟩ := id I.loc;obtain ⟨sl, hL⟩ := u.any ho I.free fun z => (hch _ z).2.1 rfl;exact I.step (ch := ch) hch (fun b o hL hb hc e n => u.keep b o e n (fun z => (ag.mp (I.stkSub b z)).elim hL hb) hc) (fun b o _ _ hc e n => u.any e n hc) (fun b o hc e n => u.free b o e n hc) (fun b o hc e => u.there b o e hc) u.tups u.frzs u.tbls (fun m' hm => by
  obtain ⟨o', es', ep', ho', r'⟩ := hm;rw [ho] at ho'; cases ho';exact ⟨_, es', ep', hL, r'⟩) hok hg
theorem Inv.turned {it : Addr} (I : Inv X pins σ H s) (k : ∀ b o, b ≠ it → s.heap.get? b = some o → h'.get? b = some o) (hn : H it = none) (hL : it ≠ X.env.locals)
  (h1 : it ∈ X.ex ∨ X.s₀.heap.objs.size ≤ it) (h2 : ∀ x c, X.env.cells.lookup x = some c → c ≠ it) (h3 : ∀ p ∈ X.pn ++ pins, p.1 ≠ it) : Inv X pins σ H { s with heap := h', toks := t' } := by
 have nit : ∀ b u, H b = some u → b ≠ it := fun b u e z => by rw [z, hn] at e; cases e
 refine I.step (g' := s.gens) (d' := s.drawn) (ch := [it]) (fun b hb => ?_) (fun b o _ _ hc e _ => k b o (fun z => hc (by simp [z])) e) (fun b o _ _ hc e _ => ⟨o.slots, k b o (fun z => hc (by simp [z])) e⟩) (fun _ _ _ _ n => n)
  (fun b o hc e => ⟨o, k b o (fun z => hc (by simp [z])) e⟩) (fun _ _ e => e) (fun _ _ _ e => e) (fun b ps e => ⟨#[], by rw [e]; simp⟩) (fun m hm => ?_) (fun b u e => ?_) I.bare
 · have e : b = it := by simpa using hb
   subst e;exact ⟨h1, hL, h2, h3⟩
 · obtain ⟨o, es, ep, ho, r⟩ := hm;exact ⟨o, es, ep, k _ o (ak hL) ho, r⟩
 · refine (I.hok b u e).stay (fun c v hc q => k c v ?_ q) (fun _ q => q) fun _ _ q => q;rcases hc with z | z
   · rw [z]; exact nit b u e
   · exact nit c _ z
theorem Inv.tok (I : Inv X pins σ H s) (t : Nat) : Inv X pins σ H { s with toks := t } := I.un (h' := s.heap) (t' := t) Un.refl I.hok
theorem Inv.kept {t' : Nat} (I : Inv X pins σ H s) (k : ∀ b u, s.heap.get? b = some u → h'.get? b = some u) : Inv X pins σ H { s with heap := h', toks := t' } := I.un (Un.kept k) (I.hok.kept k)
theorem Inv.laid {a : Addr} {o : HO} {t' : Nat} (I : Inv X pins σ H s) (k : ∀ b u, s.heap.get? b = some u → h'.get? b = some u) (hp : s.heap.objs.size ≤ a) (new : yw X.prog X.w (upd H a o) h' a o) :
 Inv X pins σ (upd H a o) { s with heap := h', toks := t' } := I.un (Un.laid k hp (I.hok.fresh hp)) (I.hok.laid k hp new)
theorem Inv.write {x e : Addr} {o : HO} {t' : Nat} (I : Inv X pins σ H s) (mu : Mut (H x)) (he : e = x ∨ H e = some (.own x)) (k : ∀ b u, b ≠ e → s.heap.get? b = some u → h'.get? b = some u) (heo : ∃ u, h'.get? e = some u)
 (new : yw X.prog X.w (upd H x o) h' x o) : Inv X pins σ (upd H x o) { s with heap := h', toks := t' } := I.un (Un.write mu he k heo) (I.hok.write mu he k heo new)
theorem Inv.pins_of (I : Inv X pins σ H s) (h : ∀ p ∈ pins', s.heap.get? p.1 = some p.2 ∧ H p.1 = none ∧ p.1 ≠ X.env.locals ∧ p.1 ∉ X.fs ∧ ∀ v, p.2.data ≠ .cell v) : Inv X pins' σ H s :=
 ⟨I.ok, I.os, I.bare, I.base, I.loc, I.cell, I.free, I.freeC, fun p hp => (ba.mp hp).elim (fun z => I.pin p (dk _ z)) (h p), I.hok, I.len⟩
theorem Q8 (hN : N.Nodup) {j : Nat} (a : N[i]? = some x) (b : N[j]? = some x) : i = j := by
 obtain ⟨h1, e1⟩ := c9.mp a;obtain ⟨h2, e2⟩ := c9.mp b;exact (List.getElem_inj hN).mp (e1.trans e2.symm)
theorem Kj {M : Model} (I : Inv X pins σ H s) (hN : X.N.Nodup) (hi : X.N[i]? = some x) (hx : Loc X.env.scope x) (r : yq v u)
  (h : ∀ s', Inv X pins (σ.set i (some v)) H s' → (∃ a, Heap.SameBut a s.heap s'.heap ∧ (a = X.env.locals ∨ X.env.cells.lookup x = some a)) → Q () s') (hf : X.fn x = true ∨ X.env.scope.names.lookup x = some .local := by first | exact .inl rfl | exact .inr rfl | assumption) : wpAny M A (storeName X.env x u) Q E s := by
 obtain ⟨m, hn, hl⟩ := id I.loc;have hcls : (X.env.scope.kind == .class || (X.env.scope.kind == .module && X.env.locals != X.env.globals)) = false := by rw [I.ok.kind]; rfl
 have hiσ : i < σ.length := by rw [I.len]; exact (c9.mp hi).1
 have cne := I.cne;have tracked : ∀ {a : Addr} {h' : Heap}, (∃ o, s.heap.get? a = some o ∧ H a = none) → Heap.SameBut a s.heap h' → HOk X.prog X.w H h' := fun {a h'} ha hs b ob e => by
  obtain ⟨_, _, hfree⟩ := ha;refine (I.hok b ob e).stay (fun c w' hc q => (hs.2 c ?_).trans q) (fun _ q => q) fun _ _ q => q;rintro rfl;rcases hc with rfl | hc
  · rw [hfree] at e; cases e
  · rw [hfree] at hc; cases hc
 rcases hx with hk | hk
 · refine wpAny_storeName_local hk hn (fun h' hn' hs => ?_) hcls;obtain ⟨oL, _, _, hoL, _⟩ := id hn;refine h _ ⟨I.ok, I.os, I.bare, ⟨fun b o e n hb hx => ?_, fun b o e n hb hx => ?_, I.base.free, fun b o e hx => ?_, I.base.tups, I.base.frzs, I.base.tbls⟩, ⟨_, hn', fun j y v' e1 e2 e3 => ?_⟩, fun y c e => ?_, I.free, I.freeC, fun p hp => ?_, tracked ⟨oL, hoL, I.free⟩ hs, by simpa using I.len⟩ ⟨_, hs, .inl rfl⟩
   · exact (hs.2 b (bo (br (al e) I.ok.above))).trans (I.base.keep b o e n hb hx)
   · obtain ⟨sl, e1⟩ := I.base.slot b o e n hb hx;exact ⟨sl, (hs.2 b (bo (br (al e) I.ok.above))).trans e1⟩
   · obtain ⟨o', e1⟩ := I.base.there b o e hx;exact ⟨o', (hs.2 b (bo (br (al e) I.ok.above))).trans e1⟩
   · by_cases hj : j = i
     · subst hj;rw [hi] at e1; cases e1;rw [List.getElem?_set_self hiσ] at e2;cases e2;exact ⟨u, r, .inl ⟨hk, by simp⟩⟩
     · rw [List.getElem?_set_ne (ak hj)] at e2;obtain ⟨u', r', q⟩ := hl j y v' e1 e2 e3;refine ⟨u', r', ?_⟩;rcases q with ⟨k, e⟩ | ⟨k, c, e, z⟩
       · refine .inl ⟨k, ?_⟩;have : y ≠ x := fun e => hj (Q8 hN e1 (e ▸ hi));simp [this, e]
       · exact .inr ⟨k, c, e, z.sameBut hs (cne y c e)⟩
   · obtain ⟨w', z⟩ := I.cell y c e;exact ⟨w', z.sameBut hs (cne y c e)⟩
   · obtain ⟨e, n, ne, nf, d⟩ := I.pin p hp;exact ⟨(hs.2 p.1 ne).trans e, n, ne, nf, d⟩
 · have hfn : X.fn x = true := by
    rcases hf with z | z
    · exact z
    · rw [z] at hk; cases hk
   obtain ⟨c, hc⟩ := I.ok.has x (.inl hk);obtain ⟨w', z⟩ := I.cell x c hc;refine wpAny_storeName_cell I.ok.kind hk hc z (fun h' hc' hs => ?_);obtain ⟨oc, hoc, hocd⟩ := id z;refine h { s with heap := h' } ⟨I.ok, I.os, I.bare, ⟨fun b o e n hb hx => ?_, fun b o e n hb hx => ?_, I.base.free, fun b o e hx => ?_, I.base.tups, I.base.frzs, I.base.tbls⟩, ⟨m, hn.sameBut hs (ak (cne x c hc)), fun j y v' e1 e2 e3 => ?_⟩, fun y c' e => ?_, I.free, I.freeC, fun p hp => ?_, tracked ⟨oc, hoc, I.freeC x c hc⟩ hs, by simpa using I.len⟩ ⟨c, hs, .inr hc⟩
   · exact (hs.2 b (bo (br (al e) (I.ok.cab x c hfn hc)))).trans (I.base.keep b o e n hb hx)
   · obtain ⟨sl, e1⟩ := I.base.slot b o e n hb hx;exact ⟨sl, (hs.2 b (bo (br (al e) (I.ok.cab x c hfn hc)))).trans e1⟩
   · obtain ⟨o', e1⟩ := I.base.there b o e hx;exact ⟨o', (hs.2 b (bo (br (al e) (I.ok.cab x c hfn hc)))).trans e1⟩
   · by_cases hj : j = i
     · subst hj;rw [hi] at e1; cases e1;rw [List.getElem?_set_self hiσ] at e2;cases e2;exact ⟨u, r, .inr ⟨.inl hk, c, hc, hc'⟩⟩
     · rw [List.getElem?_set_ne (ak hj)] at e2;obtain ⟨u', r', q⟩ := hl j y v' e1 e2 e3;refine ⟨u', r', ?_⟩;rcases q with q | ⟨k, c', e, z'⟩
       · exact .inl q
       · refine .inr ⟨k, c', e, z'.sameBut hs ?_⟩;rintro rfl;exact hj (Q8 hN e1 (I.ok.inj _ _ _ e hc ▸ hi))
   · by_cases hcc : c' = c
     · subst hcc; exact ⟨_, hc'⟩
     · obtain ⟨w2, z2⟩ := I.cell y c' e;exact ⟨w2, z2.sameBut hs hcc⟩
   · obtain ⟨e, n, ne, nf, d⟩ := I.pin p hp;refine ⟨(hs.2 p.1 ?_).trans e, n, ne, nf, d⟩;intro q;rw [q, hoc] at e;have q' : oc = p.2 := Option.some.inj e;exact d w' (by rw [← q']; exact hocd)
theorem X6 {M : Model} (I : Inv X pins σ H s) (hN : X.N.Nodup) (hi : X.N[i]? = some x) (hx : Loc X.env.scope x) (r : yq v u)
  (h : ∀ s', Inv X pins (σ.set i (some v)) H s' → Q () s') (hf : X.fn x = true ∨ X.env.scope.names.lookup x = some .local := by first | exact .inl rfl | exact .inr rfl | assumption) : wpAny M A (storeName X.env x u) Q E s :=
 Kj I hN hi hx r (fun s' I' _ => h s' I') hf
theorem Inv.call' {s' : Shared} (I : Inv X pins σ H s) (ho : s'.os = s.os) (u : Un (frs X.stack) ch H H' s.heap s'.heap) (hok : HOk X.prog X.w H' s'.heap) (hg : AllBare s'.gens)
  (hch : ∀ b ∈ ch, (b ∈ X.ex ∨ X.s₀.heap.objs.size ≤ b) ∧ b ≠ X.env.locals ∧ (∀ x c, X.env.cells.lookup x = some c → c ≠ b) ∧ ∀ p ∈ X.pn ++ pins, p.1 ≠ b) : Inv X pins σ H' s' := by
 obtain ⟨h', g', d', t', o'⟩ := s';have e : o' = s.os := ho;subst e;exact I.call (g' := g') (t' := t') (d' := d') u hok hg hch
end
abbrev XK := Value → Option Addr → Hp → Prop
abbrev St := List (Option V)
abbrev VK := V → Hp → Prop
abbrev TE := St → Hp → VK → Prop
abbrev TT := St → Hp → (Bool → Hp → Prop) → Prop
abbrev TA := St → Hp → (List V → Hp → Prop) → Prop
structure Ends where
 nx : St → Hp → Prop
 rt : VK
 bk : St → Hp → Prop := fun _ _ => False
 ct : St → Hp → Prop := fun _ _ => False
variable {X : Cx} {c e : Expr} {sts : List Stmt} {pos : Pos} {K : PySem.W.Frag} {σ : St} {t : TE} {Q : Value → Shared → Prop}
abbrev TS := Ends → St → Hp → Prop
noncomputable def EP (X : Cx) (pins : List (Addr × Obj)) (σ : St) (Q : VK) (u : Value) (s' : Shared) : Prop := ∃ v H', Inv X pins σ H' s' ∧ yq v u ∧ Q v H'
noncomputable def TP (X : Cx) (pins : List (Addr × Obj)) (σ : St) (Q : Bool → Hp → Prop) (b : Bool) (s' : Shared) : Prop := ∃ H', Inv X pins σ H' s' ∧ Q b H'
noncomputable def AP (X : Cx) (pins : List (Addr × Obj)) (σ : St) (Q : List V → Hp → Prop) (us : List Value) (s' : Shared) : Prop := ∃ vs H', Inv X pins σ H' s' ∧ yn vs us ∧ Q vs H'
noncomputable def SP (X : Cx) (pins : List (Addr × Obj)) (D : Ends) (f : Flow) (s' : Shared) : Prop :=
 match f with
 | .next => ∃ σ' H', Inv X pins σ' H' s' ∧ D.nx σ' H'
 | .brk => ∃ σ' H', Inv X pins σ' H' s' ∧ D.bk σ' H'
 | .cont => ∃ σ' H', Inv X pins σ' H' s' ∧ D.ct σ' H'
 | .ret u => ∃ v σ' H', Inv X pins σ' H' s' ∧ yq v u ∧ D.rt v H'
noncomputable def PE (X : Cx) (e : Expr) (t : TE) : Prop :=
 ∀ (pins : List (Addr × Obj)) (s : Shared) (σ : St) (H : Hp) (Q : VK), Inv X pins σ H s → t σ H Q → wpAny (model X.prog X.w) X.A (eval e X.env) (EP X pins σ Q) X.xe s
noncomputable def PT (X : Cx) (e : Expr) (t : TT) : Prop :=
 ∀ (pins : List (Addr × Obj)) (s : Shared) (σ : St) (H : Hp) (Q : Bool → Hp → Prop), Inv X pins σ H s → t σ H Q → wpAny (model X.prog X.w) X.A (isTrue e X.env (eval e X.env)) (TP X pins σ Q) X.xe s
noncomputable def PW (X : Cx) (e : Expr) (t : TT) : Prop :=
 ∀ (whole : Sem Value) (pins : List (Addr × Obj)) (s : Shared) (σ : St) (H : Hp) (Q : Bool → Hp → Prop), Inv X pins σ H s → t σ H Q → wpAny (model X.prog X.w) X.A (isTrue e X.env whole) (TP X pins σ Q) X.xe s
theorem PW.pt {t : TT} (h : PW X e t) : PT X e t := h _
noncomputable def PA (X : Cx) (es : List Expr) (t : TA) : Prop :=
 ∀ (pos : Pos) (pins : List (Addr × Obj)) (s : Shared) (σ : St) (H : Hp) (Q : List V → Hp → Prop), Inv X pins σ H s → t σ H Q → wpAny (model X.prog X.w) X.A (spliced (backTo pos (starEach es X.env))) (AP X pins σ Q) X.xe s
noncomputable def PS (X : Cx) (st : Stmt) (t : TS) : Prop :=
 ∀ (pins : List (Addr × Obj)) (s : Shared) (σ : St) (H : Hp) (D : Ends), Inv X pins σ H s → t D σ H → wpAny (model X.prog X.w) X.A (exec st X.env) (SP X pins D) X.xe s
noncomputable def PSs (X : Cx) (st : List Stmt) (t : TS) : Prop :=
 ∀ (pins : List (Addr × Obj)) (s : Shared) (σ : St) (H : Hp) (D : Ends), Inv X pins σ H s → t D σ H → wpAny (model X.prog X.w) X.A (execs st X.env) (SP X pins D) X.xe s
theorem thn {α : Type} {t : Sem α} {Q Q' : α → Shared → Prop} {M : Model} (h : wpAny M A t Q E s) (hQ : ∀ a s, Q a s → Q' a s) : wpAny M A t Q' E s := cn h hQ fun _ _ x => x
section
noncomputable def zao (i : Nat) : TE := fun σ H Q => ∃ v, σ[i]? = some (some v) ∧ Q v H
noncomputable def tC (v : V) : TE := fun _ H Q => Q v H
theorem zay (hN : X.N[i]? = some x) (hv : Vis X.env.scope x) (hd : (x == ("__debug__" : Str)) = false := by decide) (hcd : (x == ("__classdict__" : Str)) = false := by decide) : PE X (.Name x pos) (zao i) := by
 intro pins s σ H Q I h;obtain ⟨v, e, h⟩ := h;obtain ⟨m, hn, hl⟩ := I.loc;obtain ⟨u, r, l⟩ := hl i x v hN e hv;have fin : EP X pins σ Q u s := ⟨v, H, I, r, h⟩
 rcases l with ⟨hk, hm⟩ | ⟨hk, c, hc, hcell⟩
 · exact wpAny_Name (wpAny_loadName_local I.ok.kind hk hn hm fin) hd
 · rcases hk with hk | hk
   · exact wpAny_Name (wpAny_loadName_cell I.ok.kind hk hc hcell fin) hd
   · exact wpAny_Name (wpAny_loadName_free I.ok.kind hk hc hcell fin hcd) hd
theorem zg {i j pos} : PE X (.Constant (.int i) j pos) (tC (.int i)) := fun _ _ _ H _ I h => wpAny_Constant_int ⟨.int i, H, I.tok _, ⟨_, rfl⟩, h⟩
theorem xx {b j pos} : PE X (.Constant (.bool b) j pos) (tC (.bl b)) := fun _ _ _ H _ I h => Constant_bool ⟨.bl b, H, I, rfl, h⟩
theorem jr {j pos} : PE X (.Constant .none j pos) (tC .non) := fun _ _ _ H _ I h => Constant_none ⟨.non, H, I, rfl, h⟩
theorem zl {x j pos} : PE X (.Constant (.str x) j pos) (tC (.str x)) := fun _ _ _ H _ I h => Calls.Constant_str ⟨.str x, H, I.tok _, ⟨_, rfl⟩, h⟩
noncomputable def Gl (X : Cx) (x : Str) : Prop := X.env.kindOf x = some .globalImplicit
theorem Qi (I : Inv X pins σ H s) (hg : Gl X x) (hm : X.mg x = some u) (h : Q u s)
  (hd : (x == ("__debug__" : Str)) = false := by decide) : wpAny (model X.prog X.w) X.A (eval (.Name x pos) X.env) Q E s :=
 Calls.Name_function_global I.ok.kind hg (Calls.loadGlobal_global (by rw [I.ok.glob]; exact I.mod.glob.keeps I.bk) hm h) hd
theorem Yt (I : Inv X pins σ H s) (hg : Gl X x) (hm : X.mg x = none) (hv : bootBuiltins x = some u) (h : Q u s)
  (hn : x ≠ "__name__" := by decide) (hd : (x == ("__debug__" : Str)) = false := by decide) : wpAny (model X.prog X.w) X.A (eval (.Name x pos) X.env) Q E s := by
 obtain ⟨mb, h1, h2⟩ := I.mod.blt;exact Calls.Name_function_global I.ok.kind hg (Calls.loadGlobal_builtin (by rw [I.ok.glob]; exact I.mod.glob.keeps I.bk) hm (by rw [I.ok.blt]; exact h1.keeps I.bk) ((h2 x hn).trans hv) h) hd
theorem Wf (hg : Gl X x) (hm : X.mg x = some u) (r : yq v u) (hd : (x == ("__debug__" : Str)) = false := by decide) : PE X (.Name x pos) (tC v) :=
 fun _ _ _ H _ I h => Qi I hg hm ⟨v, H, I, r, h⟩ hd
theorem zfy (hg : Gl X x) (hm : X.mg x = none) (hv : bootBuiltins x = some u) (r : yq v u) (hn : x ≠ "__name__" := by decide) (hd : (x == ("__debug__" : Str)) = false := by decide) : PE X (.Name x pos) (tC v) :=
 fun _ _ _ H _ I h => Yt I hg hm hv ⟨v, H, I, r, h⟩ hn hd
variable {a b : Expr} {ta tb : TE}
noncomputable def PC (X : Cx) (op : CmpOp) (a b : Expr) (t : TE) : Prop :=
 ∀ (pins : List (Addr × Obj)) (s : Shared) (σ : St) (H : Hp) (Q : VK), Inv X pins σ H s → t σ H Q →
   wpAny (model X.prog X.w) X.A (eval a X.env) (fun v s₁ => wpAny (model X.prog X.w) X.A (eval b X.env) (fun u s₂ => wpAny (model X.prog X.w) X.A (compareOp op v u) (EP X pins σ Q) X.xe s₂) X.xe s₁) X.xe s
theorem zcv (b : Expr) {op : CmpOp} (h : op ≠ .In) (h2 : op ≠ .NotIn) : behindInMarks op b = false := by
 have e1 : (op == CmpOp.In) = false := by cases op <;> first | rfl | exact absurd rfl h
 have e2 : (op == CmpOp.NotIn) = false := by cases op <;> first | rfl | exact absurd rfl h2
 cases b <;> simp [behindInMarks, e1, e2]
noncomputable def tB (t : TE) : TT := fun σ H Q => t σ H fun x H1 => ∃ c, x = .bl c ∧ Q c H1
theorem zo2 {op : CmpOp} (h : PC X op a b t) (h1 : behindInMarks op b = false := by first | exact zcv _ (by decide) (by decide) | rfl) : PE X (.Compare a [op] [b] pos) t := fun pins s σ H Q I hw => wpAny_Compare1 (h pins s σ H Q I hw) h1
theorem zoy {op : CmpOp} (h : PC X op a b t) (h1 : behindInMarks op b = false := by first | exact zcv _ (by decide) (by decide) | rfl) : PT X (.Compare a [op] [b] pos) (tB t) := by
 intro pins s σ H Q I hw;refine wpAny_isTrue_Compare1 (thn (h pins s σ H _ I hw) fun v s1 h1 => thn h1 fun u s2 h2 => thn h2 fun c s3 ⟨x, H1, I1, r1, q1⟩ => ?_) h1;obtain ⟨d, rfl, q⟩ := q1;cases r1;exact wpAny_truthy_bool ⟨H1, I1, q⟩
theorem yz (h : PE X e t) (he : ∀ whole, isTrue e X.env whole = (do let v ← whole; standAt e.pos; holding [v] (truthy v)) := by intro _; rfl) : PT X e (tB t) := by
 intro pins s σ H Q I hw;refine isTrue_plain (thn (h pins s σ H _ I hw) fun v s1 ⟨x, H1, I1, r1, q1⟩ => ?_) (he _);obtain ⟨d, rfl, q⟩ := q1;cases r1;exact wpAny_truthy_bool ⟨H1, I1, q⟩
variable {tA tB' : TT} {jk : List Expr}
noncomputable def zqm (t u : TT) : TT := fun σ H Q => t σ H fun c H1 => if c = true then u σ H1 Q else Q false H1
noncomputable def tOr (t u : TT) : TT := fun σ H Q => t σ H fun c H1 => if c = true then Q true H1 else u σ H1 Q
noncomputable def ztc (t : TT) : TT := fun σ H Q => t σ H fun c H1 => Q (!c) H1
theorem Z1 (ha : PT X a tA) : PW X (.BoolOp .And [a] pos) tA := by
 intro wh pins s σ H Q I h;refine isTrue_and (thn (ha pins s σ H Q I h) fun c s1 e => ?_);cases c with
 | true => exact isTrue_and_nil e
 | false => exact e
theorem j9 (ha : PT X a tA) : PW X (.BoolOp .Or [a] pos) tA := by
 intro wh pins s σ H Q I h;refine isTrue_or (thn (ha pins s σ H Q I h) fun c s1 e => ?_);cases c with
 | false => exact isTrue_or_nil e
 | true => exact e
theorem Xm (ha : PT X a tA) (hb : PW X (.BoolOp .And (b :: jk) pos) tB') : PW X (.BoolOp .And (a :: b :: jk) pos) (zqm tA tB') := by
 intro wh pins s σ H Q I h;refine isTrue_and (thn (ha pins s σ H _ I h) fun c s1 ⟨H1, I1, q1⟩ => ?_);cases c with
 | true => exact hb wh pins s1 σ H1 Q I1 q1
 | false => exact ⟨H1, I1, q1⟩
theorem Yr (ha : PT X a tA) (hb : PW X (.BoolOp .Or (b :: jk) pos) tB') : PW X (.BoolOp .Or (a :: b :: jk) pos) (tOr tA tB') := by
 intro wh pins s σ H Q I h;refine isTrue_or (thn (ha pins s σ H _ I h) fun c s1 ⟨H1, I1, q1⟩ => ?_);cases c with
 | true => exact ⟨H1, I1, q1⟩
 | false => exact hb wh pins s1 σ H1 Q I1 q1
theorem xt (ha : PT X a tA) : PT X (.UnaryOp .Not a pos) (ztc tA) := by
 intro pins s σ H Q I h;exact isTrue_not (ha pins s σ H (fun c H1 => Q (!c) H1) I h)
noncomputable def zql (ta tb : TE) : TE := fun σ H Q => ta σ H fun x H1 => ∃ c, x = .bl c ∧ if c = true then tb σ H1 Q else Q (.bl false) H1
noncomputable def zqh (ta : TE) : TE := fun σ H Q => ta σ H fun x H1 => ∃ c, x = .bl c ∧ Q (.bl (!c)) H1
theorem ka {op} (h : PE X a t) : PE X (.BoolOp op [a] pos) t := fun pins s σ H Q I hw => BoolOp_one (h pins s σ H Q I hw)
theorem ja (ha : PE X a ta) (hb : PE X (.BoolOp .And (b :: jk) pos) tb) : PE X (.BoolOp .And (a :: b :: jk) pos) (zql ta tb) := by
 intro pins s σ H Q I h;refine BoolOp_and (thn (ha pins s σ H _ I h) fun v s1 ⟨x, H1, I1, r1, q1⟩ => ?_);obtain ⟨c, rfl, q1⟩ := q1;cases r1;refine wpAny_truthy_bool ?_;cases c with
 | true => exact hb pins s1 σ H1 Q I1 q1
 | false => exact ⟨.bl false, H1, I1, rfl, q1⟩
theorem zo0 (ha : PE X a ta) : PE X (.UnaryOp .Not a pos) (zqh ta) := by
 intro pins s σ H Q I h;refine UnaryOp_ (thn (ha pins s σ H _ I h) fun v s1 ⟨x, H1, I1, r1, q1⟩ => ?_);obtain ⟨c, rfl, q1⟩ := q1;cases r1;exact not_of (wpAny_truthy_bool ⟨.bl (!c), H1, I1, rfl, q1⟩)
noncomputable def tIf (t : TT) (ta tb : TE) : TE := fun σ H Q => t σ H fun c H1 => if c = true then ta σ H1 Q else tb σ H1 Q
theorem ke (hc : PT X c tA) (ha : PE X a ta) (hb : PE X b tb) : PE X (.IfExp c a b pos) (tIf tA ta tb) := by
 intro pins s σ H Q I h;refine wpAny_IfExp (thn (hc pins s σ H _ I h) fun d s1 ⟨H1, I1, q1⟩ => ?_);cases d with
 | true => exact ha pins s1 σ H1 Q I1 q1
 | false => exact hb pins s1 σ H1 Q I1 q1
end
noncomputable def SqL (K : PySem.W.Frag) (H : Hp) (a : Addr) (xs : List V) : Prop :=
 Rd H a (.lst xs) ∨
  ∃ (o : Obj) (its : Array Value) (n : Nat), K.lookup a = some o ∧ o.cls = .type "list" ∧ o.dict = none ∧ o.data = .seq its n ∧ its.size ≤ sizeLine ∧ yn xs its.toList
noncomputable def SqT (K : PySem.W.Frag) (H : Hp) (a : Addr) (xs : List V) : Prop :=
 Rd H a (.tup xs) ∨
  ∃ (o : Obj) (its : Array Value) (n : Nat), K.lookup a = some o ∧ o.cls = .type "tuple" ∧ o.data = .seq its n ∧ its.size ≤ sizeLine ∧ yn xs its.toList
noncomputable def ztv : Value → Option V
 | .none => some .non
 | .bool b => some (.bl b)
 | .int i _ => some (.int i)
 | .str x _ => some (.str x)
 | .bytes b _ => some (.byt b)
 | .float b _ => some (.flt b)
 | .ref a => some (.ref a)
 | .type n => some (.ty n)
 | _ => none
theorem yq.abs {x : V} (r : yq x u) : ztv u = some x := by
 cases x with
 | non => cases r; rfl
 | bl _ => cases r; rfl
 | int _ => obtain ⟨t, rfl⟩ := r; rfl
 | str _ => obtain ⟨t, rfl⟩ := r; rfl
 | byt _ => obtain ⟨t, rfl⟩ := r; rfl
 | flt _ => obtain ⟨t, rfl⟩ := r; rfl
 | ref _ => cases r; rfl
 | ty _ => cases r; rfl
theorem yq.inj {x y : V} {u : Value} (r : yq x u) (q : yq y u) : x = y := Option.some.inj (r.abs.symm.trans q.abs)
theorem yn.inj : ∀ {xs ys : List V} {us : List Value}, yn xs us → yn ys us → xs = ys
 | _, _, _, .nil, .nil => rfl
 | _, _, _, .cons r t, .cons r' t' => by rw [r.inj r', yn.inj t t']
section
variable {xs ys : List V}
theorem SqL.of (h : H a = some (.lst xs)) : SqL K H a xs := .inl (.inl h)
theorem SqT.of (h : H a = some (.tup xs)) : SqT K H a xs := .inl (.inl h)
theorem Inv.list (I : Inv X pins σ H s) (h : SqL X.K H a xs) : ∃ its : List Value, yn xs its ∧ PlainL s.heap a its.toArray ∧ xs.length ≤ sizeLine := by
 rcases h with h | ⟨o, its, n, hk, hc, hd, hs, hz, r⟩
 · obtain ⟨z, its, n, r, e⟩ := h.ok I.hok;exact ⟨its, r, ⟨_, n, e, rfl, rfl, rfl⟩, z⟩
 · refine ⟨its.toList, r, ⟨o, n, I.kIn a o hk, hc, hd, by simpa using hs⟩, ?_⟩;have e := r.length;simp only [Array.length_toList] at e;omega
theorem Inv.tuple (I : Inv X pins σ H s) (h : SqT X.K H a xs) : ∃ its : List Value, yn xs its ∧ IsTup s.heap a its.toArray ∧ xs.length ≤ sizeLine := by
 rcases h with h | ⟨o, its, n, hk, hc, hs, hz, r⟩
 · obtain ⟨z, its, r, p, _⟩ := h.ok I.hok;exact ⟨its, r, p, z⟩
 · refine ⟨its.toList, r, ⟨o, I.kIn a o hk, hc, n, by simpa using hs⟩, ?_⟩;have e := r.length;simp only [Array.length_toList] at e;omega
theorem Inv.list_inj (I : Inv X pins σ H s) (h : SqL X.K H a xs) (h' : SqL X.K H a ys) : xs = ys := by
 obtain ⟨its, r, ⟨o, n, e, _, _, d⟩, _⟩ := I.list h;obtain ⟨its', r', ⟨o', n', e', _, _, d'⟩, _⟩ := I.list h';rw [e] at e'; cases e';rw [d] at d';injection d' with d1 _;have : its = its' := by simpa using congrArg Array.toList d1
 subst this;exact r.inj r'
theorem Inv.tuple_inj (I : Inv X pins σ H s) (h : SqT X.K H a xs) (h' : SqT X.K H a ys) : xs = ys := by
 obtain ⟨its, r, ⟨o, e, _, n, d⟩, _⟩ := I.tuple h;obtain ⟨its', r', ⟨o', e', _, n', d'⟩, _⟩ := I.tuple h';rw [e] at e'; cases e';rw [d] at d';injection d' with d1 _;have : its = its' := by simpa using congrArg Array.toList d1
 subst this;exact r.inj r'
end
abbrev Cx.wish (X : Cx) (E : Value → Shared → Prop) : Cx := { X with xe := E }
abbrev Cx.nox (X : Cx) : Cx := X.wish fun _ _ => False
theorem Cx.Ok.wish {X : Cx} (ok : X.Ok) (E : Value → Shared → Prop) : (X.wish E).Ok :=
 ⟨ok.mod, ok.kind, ok.glob, ok.blt, ok.above, ok.inj, ok.has, ok.cab, ok.hd, ok.frames, ok.stk, ok.exf, ok.bs, ok.bsz, ok.noex, ok.exfs, ok.funs, ok.frf⟩
theorem Cx.Ok.unwish (ok : (X.wish E).Ok) : X.Ok :=
 ⟨ok.mod, ok.kind, ok.glob, ok.blt, ok.above, ok.inj, ok.has, ok.cab, ok.hd, ok.frames, ok.stk, ok.exf, ok.bs, ok.bsz, ok.noex, ok.exfs, ok.funs, ok.frf⟩
section
theorem Inv.wish (I : Inv X pins σ H s) (E : Value → Shared → Prop) : Inv (X.wish E) pins σ H s := ⟨I.ok.wish E, I.os, I.bare, I.base, I.loc, I.cell, I.free, I.freeC, I.pin, I.hok, I.len⟩
theorem Inv.unwish (I : Inv (X.wish E) pins σ H s) : Inv X pins σ H s := ⟨I.ok.unwish, I.os, I.bare, I.base, I.loc, I.cell, I.free, I.freeC, I.pin, I.hok, I.len⟩
theorem SP.unwish {D : Ends} {f : Flow} {s' : Shared} (h : SP (X.wish E) pins D f s') : SP X pins D f s' := by
 cases f with
 | next => obtain ⟨σ', H', I, q⟩ := h; exact ⟨σ', H', I.unwish, q⟩
 | brk => obtain ⟨σ', H', I, q⟩ := h; exact ⟨σ', H', I.unwish, q⟩
 | cont => obtain ⟨σ', H', I, q⟩ := h; exact ⟨σ', H', I.unwish, q⟩
 | ret u => obtain ⟨v, σ', H', I, r, q⟩ := h; exact ⟨v, σ', H', I.unwish, r, q⟩
theorem PSs.nox {st : List Stmt} {t : TS} (h : PSs X.nox st t) : PSs X st t := fun pins s σ H D I hw =>
 cn (h pins s σ H D (I.wish _) hw) (fun _ _ q => q.unwish) fun _ _ z => False.elim z
end
section
variable {st : Stmt} {jk : List Stmt} {t u : TS} {te : TE}
noncomputable def Yh : TS := fun D σ H => D.nx σ H
noncomputable def V5 (t u : TS) : TS := fun D σ H => t { D with nx := u D } σ H
theorem zx : PSs X [] Yh := fun _ _ σ H _ I h => wpAny_execs_nil ⟨σ, H, I, h⟩
theorem ze (h1 : PS X st t) (h2 : PSs X jk u) : PSs X (st :: jk) (V5 t u) := by
 intro pins s σ H D I h;refine wpAny_execs_cons (thn (h1 pins s σ H { D with nx := u D } I h) fun f s1 q => ?_);cases f with
 | next =>
   obtain ⟨σ', H', I', q⟩ := q;exact h2 pins s1 σ' H' D I' q
 | ret v => exact q
 | brk => exact q
 | cont => exact q
theorem zh (h1 : PS X st t) : PSs X [st] t := by
 intro pins s σ H D I h;refine wpAny_execs_cons (thn (h1 pins s σ H D I h) fun f s1 q => ?_);cases f with
 | next => exact wpAny_execs_nil q
 | ret v => exact q
 | brk => exact q
 | cont => exact q
noncomputable def zoh : TS := fun D σ H => D.bk σ H
theorem zjq : PS X (.Break pos) zoh := fun _ _ σ H _ I h => wpAny_Break ⟨σ, H, I, h⟩
theorem Inv.quiet (I : Inv X pins σ H s) : interactive X.env = false := by simp [interactive, I.ok.kind]
noncomputable def zqj (te : TE) : TS := fun D σ H => te σ H fun _ H1 => D.nx σ H1
theorem yy (he : PE X e te) (hs : swapsWith e none pos.line X.env = pure false := by rfl) : PS X (.Expr e pos) (zqj te) := by
 intro pins s σ H D I h;exact wpAny_Expr_any (thn (he pins s σ H _ I h) fun v s1 ⟨x, H1, I1, r1, q1⟩ => ⟨σ, H1, I1, q1⟩) I.quiet hs
noncomputable def zqf (te : TE) : TS := fun D σ H => te σ H D.rt
theorem zn (he : PE X e te) : PS X (.Return (some e) pos) (zqf te) := by
 intro pins s σ H D I h;exact wpAny_Return_some (thn (he pins s σ H _ I h) fun v s1 ⟨x, H1, I1, r1, q1⟩ => ⟨x, σ, H1, I1, r1, q1⟩)
noncomputable def zl7 (c : TT) (t u : TS) : TS := fun D σ H => c σ H fun b H1 => if b = true then t D σ H1 else u D σ H1
theorem yh {a b : List Stmt} {tc : TT} (hc : PT X c tc) (ha : PSs X a t) (hb : PSs X b u) : PS X (.If c a b pos) (zl7 tc t u) := by
 intro pins s σ H D I h;refine wpAny_If (thn (hc pins s σ H _ I h) fun d s1 ⟨H1, I1, q1⟩ => ?_);cases d with
 | true => exact ha pins s1 σ H1 D I1 q1
 | false => exact hb pins s1 σ H1 D I1 q1
noncomputable def zix : TS := fun _ _ _ => False
theorem zcc : PS X st zix := fun _ _ _ _ _ _ h => h.elim
theorem zg8 : PSs X sts zix := fun _ _ _ _ _ _ h => h.elim
end
abbrev TG := V → St → Hp → (St → Hp → Prop) → Prop
variable {es : List Expr} {pos' : Pos} {te : TE}
abbrev TGs := List V → St → Hp → (St → Hp → Prop) → Prop
noncomputable def PG (X : Cx) (target : Expr) (t : TG) : Prop :=
 ∀ (pins : List (Addr × Obj)) (s : Shared) (σ : St) (H : Hp) (v : V) (u : Value) (Q : St → Hp → Prop), Inv X pins σ H s → yq v u → t v σ H Q →
   wpAny (model X.prog X.w) X.A (assign target X.env u) (fun _ s' => ∃ σ' H', Inv X pins σ' H' s' ∧ Q σ' H') X.xe s
noncomputable def PGs (X : Cx) (ts : List Expr) (t : TGs) : Prop :=
 ∀ (pins : List (Addr × Obj)) (s : Shared) (σ : St) (H : Hp) (vs : List V) (us : List Value) (Q : St → Hp → Prop), Inv X pins σ H s → yn vs us → t vs σ H Q →
   wpAny (model X.prog X.w) X.A (assignInOrder ((assignEach ts X.env).map (·.2)) us) (fun _ s' => ∃ σ' H', Inv X pins σ' H' s' ∧ Q σ' H') X.xe s
abbrev zp7 := V → V → V → Hp → (Hp → Prop) → Prop
noncomputable def zs5 (X : Cx) (t : zp7) : Prop :=
 ∀ (pins : List (Addr × Obj)) (s : Shared) (σ : St) (H : Hp) (o i v : V) (ov iv u : Value) (Q : Hp → Prop), Inv X pins σ H s → yq o ov → yq i iv → yq v u → t o i v H Q →
   wpAny (model X.prog X.w) X.A (setItem ov iv u) (fun _ s' => ∃ H', Inv X pins σ H' s' ∧ Q H') X.xe s
abbrev TIp := V → V → Hp → VK → Prop
noncomputable def PIp (X : Cx) (op : Operator) (t : TIp) : Prop :=
 ∀ (pins : List (Addr × Obj)) (s : Shared) (σ : St) (H : Hp) (x y : V) (v u : Value) (Q : VK), Inv X pins σ H s → yq x v → yq y u → t x y H Q →
   wpAny (model X.prog X.w) X.A (inplaceOp op v u) (EP X pins σ Q) X.xe s
section
noncomputable def Ye (i : Nat) : TG := fun v σ H Q => Q (σ.set i (some v)) H
theorem yd (hN : X.N.Nodup) (hi : X.N[i]? = some x) (hx : Loc X.env.scope x) (hf : X.fn x = true ∨ X.env.scope.names.lookup x = some .local := by first | exact .inl rfl | exact .inr rfl | assumption) : PG X (.Name x pos) (Ye i) := by
 intro pins s σ H v u Q I r h;exact wpAny_assign_Name (X6 I hN hi hx r (fun s' I' => ⟨_, H, I', h⟩) hf)
noncomputable def znc : TGs := fun vs σ H Q => vs = [] ∧ Q σ H
noncomputable def Jk (t : TG) (u : TGs) : TGs := fun vs σ H Q => ∃ v r, vs = v :: r ∧ t v σ H fun σ' H' => u r σ' H' Q
theorem Z2 : PGs X [] znc := by
 intro pins s σ H vs us Q I r h;obtain ⟨e, h⟩ := h;subst e;cases r;exact assignInOrder_nil ⟨σ, H, I, h⟩
theorem xi {t : TG} {u : TGs} (h1 : PG X e t) (h2 : PGs X es u)
  (hs : (assignEach (e :: es) X.env).map (·.2) = assign e X.env :: (assignEach es X.env).map (·.2) := by rfl) : PGs X (e :: es) (Jk t u) := by
 intro pins s σ H vs us Q I r h;obtain ⟨v, vr, e1, h⟩ := h;subst e1;cases r with
 | cons r rr =>
   rw [hs];refine assignInOrder_cons (thn (h1 pins s σ H _ _ _ I r h) fun _ s1 ⟨σ1, H1, I1, q1⟩ => ?_);exact h2 pins s1 σ1 H1 _ _ Q I1 rr q1
noncomputable def znb (K : PySem.W.Frag) (n : Nat) (t : TGs) : TG := fun v σ H Q => ∃ a xs, v = .ref a ∧ SqT K H a xs ∧ xs.length = n ∧ t xs σ H Q
theorem Xn {k : Nat} {t : TGs} {n : Nat} (hc : X.calm = true) (h : PGs X es t)
  (hn : (assignEach es X.env).length = n := by rfl) (hst : (assignEach es X.env).findIdx? (·.1) = none := by rfl) : PG X (.Tuple es k pos) (znb X.K n t) := by
 intro pins s σ H v u Q I r hw;obtain ⟨a, xs, e1, hq, hl, hw⟩ := hw;subst e1;cases r;obtain ⟨its, rv, ht, hz⟩ := I.tuple hq;refine assign_Tuple_tuple (I.ok.hd hc) ht (by simp [hn, ← hl, rv.length]) hst fun h' hx => ?_;have I1 : Inv X pins σ H { s with heap := h' } := I.kept (t' := s.toks) fun b o e => hx b o (bo (al e)) e;exact h pins _ σ H xs _ Q I1 (by simpa using rv) hw
noncomputable def ztr (to ti : TE) (t : zp7) : TG := fun v σ H Q => to σ H fun o H1 => ti σ H1 fun i H2 => t o i v H2 fun H3 => Q σ H3
theorem zel {o i : Expr} {to ti : TE} {t : zp7} (ho : PE X o to) (hi : PE X i ti) (hs : zs5 X t)
  (ha : ∀ v, assign (.Subscript o i pos) X.env v = (do
   let ov ← holding [v] (eval o X.env);let iv ← holding [v, ov] (eval i X.env)
   standAt pos
   holding [v, ov, iv] (setItem ov iv v)
   release [v, ov, iv] []) := by intro _; rfl) : PG X (.Subscript o i pos) (ztr to ti t) := by
 intro pins s σ H v u Q I r h;rw [ha];refine aa (wpAny_holding (thn (ho pins s σ H _ I h) fun ov s1 ⟨x, H1, I1, r1, q1⟩ => ?_));refine aa (wpAny_holding (thn (hi pins s1 σ H1 _ I1 q1) fun iv s2 ⟨y, H2, I2, r2, q2⟩ => ?_));refine aa (wpAny_standAt (aa (wpAny_holding (thn (hs pins s2 σ H2 x y v ov iv u _ I2 r1 r2 r q2) fun _ s3 ⟨H3, I3, q3⟩ => ?_))));exact wpAny_release ⟨σ, H3, I3, q3⟩
noncomputable def zl9 (te : TE) (g : TG) : TS := fun D σ H => te σ H fun x H1 => g x σ H1 D.nx
theorem zaw {tg : Expr} {g : TG} (he : PE X e te) (hg : PG X tg g) (hs : swapsWithSole [tg] e pos.line X.env = pure false := by rfl) (hw : swappedStores [tg] e X.env = pure none := by rfl)
  (h1 : (assignEach [tg] X.env).map (·.2) = [assign tg X.env] := by rfl) : PS X (.Assign [tg] e pos) (zl9 te g) := by
 intro pins s σ H D I h;refine wpAny_Assign_stores (thn (he pins s σ H _ I h) fun v s1 ⟨x, H1, I1, r1, q1⟩ => ?_) hs hw;rw [h1];exact thn (hg pins s1 σ H1 x v _ I1 r1 q1) fun _ s2 q => q
theorem zr (hN : X.N.Nodup) (hi : X.N[i]? = some x) (hx : Loc X.env.scope x) (he : PE X e te) (hs : swapsWith e (some (.Name x pos')) pos.line X.env = pure false := by rfl) (hf : X.fn x = true ∨ X.env.scope.names.lookup x = some .local := by first | exact .inl rfl | exact .inr rfl | assumption) :
  PS X (.Assign [.Name x pos'] e pos) (zl9 te (Ye i)) := by
 intro pins s σ H D I h;refine wpAny_Assign_Name (thn (he pins s σ H _ I h) fun v s1 ⟨y, H1, I1, r1, q1⟩ => ?_) hs;exact X6 I1 hN hi hx r1 (fun s2 I2 => ⟨_, H1, I2, q1⟩) hf
noncomputable def ztk (i : Nat) (te : TE) (ti : TIp) : TS := fun D σ H => ∃ x, σ[i]? = some (some x) ∧ te σ H fun y H1 => ti x y H1 fun z H2 => D.nx (σ.set i (some z)) H2
theorem zjr {op : Operator} {ti : TIp} (hN : X.N.Nodup) (hi : X.N[i]? = some x) (hx : Loc X.env.scope x) (he : PE X e te) (ho : PIp X op ti) (hf : X.fn x = true ∨ X.env.scope.names.lookup x = some .local := by first | exact .inl rfl | exact .inr rfl | assumption) :
  PS X (.AugAssign (.Name x pos') op e pos) (ztk i te ti) := by
 intro pins s σ H D I h;obtain ⟨v, e1, h⟩ := h;obtain ⟨m, hn, hl⟩ := I.loc;have vis : Vis X.env.scope x := by rcases hx with k | k; exact .inl k; exact .inr (.inl k)
 obtain ⟨u, r, l⟩ := hl i x v hi e1 vis;refine wpAny_AugAssign_Name ?_;have go : wpAny (model X.prog X.w) X.A (eval e X.env) (fun w s₂ => wpAny (model X.prog X.w) X.A (inplaceOp op u w) (fun r s₃ => wpAny (model X.prog X.w) X.A (storeName X.env x r) (fun _ => SP X pins D .next) X.xe s₃) X.xe s₂) X.xe s := by
  refine thn (he pins s σ H _ I h) fun w s1 ⟨y, H1, I1, r1, q1⟩ => ?_;refine thn (ho pins s1 σ H1 v y u w _ I1 r r1 q1) fun z s2 ⟨zv, H2, I2, r2, q2⟩ => ?_;exact X6 I2 hN hi hx r2 (fun s3 I3 => ⟨_, H2, I3, q2⟩) hf
 rcases l with ⟨hk, hm⟩ | ⟨hk, c, hc, hcell⟩
 · exact wpAny_loadName_local I.ok.kind hk hn hm go
 · rcases hk with hk | hk
   · exact wpAny_loadName_cell I.ok.kind hk hc hcell go
   · rcases hx with k | k
     · have : X.env.scope.names.lookup x = some .free := hk;rw [k] at this; cases this
     · have : X.env.scope.names.lookup x = some .free := hk;rw [k] at this; cases this
noncomputable def ipI (f : Int → Int → Int) : TIp := fun x y H Q => ∃ i j, x = .int i ∧ y = .int j ∧ Q (.int (f i j)) H
theorem zks : PIp X .Add (ipI fun i j => i + j) := by
 intro pins s σ H x y v u Q I r1 r2 h;obtain ⟨i, j, e1, e2, q⟩ := h;subst e1; subst e2;obtain ⟨t, rfl⟩ := r1;obtain ⟨t', rfl⟩ := r2;exact iadd_int ⟨.int _, H, I.tok _, ⟨_, rfl⟩, q⟩
end
section
end
structure It where
 go : Nat → Hp → Prop
 yld : Nat → Hp → V → Hp → Prop
 stop : Nat → Hp → Prop
noncomputable def W6 (X : Cx) (pins : List (Addr × Obj)) (H : Hp) (b : Addr) : Prop :=
 H b = none ∧ b ≠ X.env.locals ∧ b ∉ X.fs ∧ (b ∈ X.ex ∨ X.s₀.heap.objs.size ≤ b) ∧ (∀ x c, X.env.cells.lookup x = some c → c ≠ b) ∧ ∀ p ∈ X.pn ++ pins, p.1 ≠ b
theorem Inv.fpOk {H' : Hp} (I : Inv X pins σ H s) (hb : s.heap.objs.size ≤ b) (hn : H' b = none) : W6 X pins H' b := by
 refine ⟨hn, cx (br I.lt hb), I.nofs hb, .inr (bp I.sz hb), fun x c e z => ?_, fun p hp z => ?_⟩
 · obtain ⟨v, q⟩ := I.cell x c e;exact absurd (br q.lt (by rw [z]; exact hb)) (cj _)
 · exact absurd (br (al (I.pin p hp).1) (by rw [z]; exact hb)) (cj _)
structure Turn (P : Program) (w : World) (K : PySem.W.Frag) (tg : Expr) (J : It) (fp : List Addr) (it : Addr) (tn : Nat → Heap → Prop) : Prop where
 mem : it ∈ fp
 obj : ∀ i h, tn i h → ∀ b ∈ fp, ∃ o, h.get? b = some o ∧ ∀ v, o.data ≠ .cell v
 keep : ∀ i h h', tn i h → (∀ b ∈ fp, ∀ o, h.get? b = some o → h'.get? b = some o) → tn i h'
 item : ∀ (X : Cx), X.prog = P → X.w = w → X.K = K → X.calm = true → ∀ (i : Nat) (pins : List (Addr × Obj)) (s : Shared) (σ : St) (H : Hp) (E : Value → Shared → Prop), Inv X pins σ H s → (∀ b ∈ fp, W6 X pins H b) → tn i s.heap → J.go i H →
  wpAny (model P w) X.A (pyNext (.ref it)) (fun r s1 => ∃ u, r = some u ∧
   wpAny (model P w) X.A (letOwnedTupleGo tg (.ref it) u) (fun _ s2 => ∃ x H', Inv X pins σ H' s2 ∧ yq x u ∧ J.yld i H x H' ∧ tn (i + 1) s2.heap ∧ ∀ b ∈ fp, H' b = none) E s1) E s
 done : ∀ (X : Cx), X.prog = P → X.w = w → X.K = K → X.calm = true → ∀ (i : Nat) (pins : List (Addr × Obj)) (s : Shared) (σ : St) (H : Hp) (E : Value → Shared → Prop), Inv X pins σ H s → (∀ b ∈ fp, W6 X pins H b) → tn i s.heap → J.stop i H →
  wpAny (model P w) X.A (pyNext (.ref it)) (fun r s1 => r = none ∧ Inv X pins σ H s1) E s
 self : ∀ (A : Around) (i : Nat) (s : Shared) (Q : Value → Shared → Prop) (E : Value → Shared → Prop), tn i s.heap → Q (.ref it) s → wpAny (model P w) A (pyIter (.ref it)) Q E s
abbrev TI := St → Hp → (It → Hp → Prop) → Prop
noncomputable def PIE (X : Cx) (pins : List (Addr × Obj)) (σ : St) (tg : Expr) (R : It → Hp → Prop) (itv : Value) (s2 : Shared) : Prop :=
 ∃ (it : Addr) (fp : List Addr) (tn : Nat → Heap → Prop) (J : It) (H' : Hp), itv = .ref it ∧ Inv X pins σ H' s2 ∧ Turn X.prog X.w X.K tg J fp it tn ∧ tn 0 s2.heap ∧ (∀ b ∈ fp, W6 X pins H' b) ∧ R J H'
noncomputable def PI (X : Cx) (tg iter : Expr) (wi : TI) : Prop :=
 ∀ (pins : List (Addr × Obj)) (s : Shared) (σ : St) (H : Hp) (R : It → Hp → Prop), Inv X pins σ H s → wi σ H R →
   wpAny (model X.prog X.w) X.A (eval iter X.env) (fun v s1 => wpAny (model X.prog X.w) X.A (pyIter v) (PIE X pins σ tg R) X.xe s1) X.xe s
variable {C dx f : Addr} {osl : Array (Option Value)} {D : Ends} {l o tg value : Expr} {fd : FuncData} {base : Heap} {H' : Hp} {lo : Int} {pl : List (Addr × Obj)} {kvs : List (Key × V)} {fp : List Addr} {ks : List Key} {body : List Stmt} {ps : List Str} {vs xs : List V} {ds its more us : List Value} {n : Nat} {apos p : Pos} {prog : Program} {sc scope : Scope} {name qual : Str} {mA mg : Str → Option Value} {id : String} {t : TA} {ta tl : TE} {g : TG} {tb : TS} {y : V} {r : Value}
theorem zdg {M : Model} {it : Addr} {o : Obj} {n : String} {vs : Array Value} {Q : Unit → Shared → Prop} (ho : s.heap.get? it = some o) (hc : o.cls = .type n) (hd : o.data = .fields vs)
  (hn : ["enumerate", "zip", "dict_itemiterator", "dict_reverseitemiterator", "odict_iterator", "itertools.zip_longest", "itertools.pairwise"].contains n = false) (hQ : Q () s) : wpAny M A (letOwnedTupleGo tg (.ref it) u) Q E s := by
 unfold letOwnedTupleGo;cases tg <;> first
  | exact aj hQ
  | (cases u <;> first
   | exact aj hQ
   | (refine aa (wpAny_load ho ?_)
      rw [hc, hd];show wpAny M A (if (["enumerate", "zip", "dict_itemiterator", "dict_reverseitemiterator", "odict_iterator", "itertools.zip_longest", "itertools.pairwise"].contains n && vs[0]? == some (rawInt _)) = true then _ else _) Q E s;rw [if_neg (by intro h; rw [hn, c7] at h; cases h)];exact aj hQ))
noncomputable def Itl (K : PySem.W.Frag) (a : Addr) : It :=
 ⟨fun i H => ∃ xs x, SqL K H a xs ∧ xs[i]? = some x, fun i H x H' => H' = H ∧ ∀ xs, SqL K H a xs → xs[i]? = some x, fun i H => ∃ xs, SqL K H a xs ∧ xs.length ≤ i⟩
noncomputable def Itt (K : PySem.W.Frag) (a : Addr) : It :=
 ⟨fun i H => ∃ xs x, SqT K H a xs ∧ xs[i]? = some x, fun i H x H' => H' = H ∧ ∀ xs, SqT K H a xs → xs[i]? = some x, fun i H => ∃ xs, SqT K H a xs ∧ xs.length ≤ i⟩
noncomputable def Itr (lo : Int) (n : Nat) : It := ⟨fun i _ => i < n, fun i H x H' => H' = H ∧ x = .int (lo + i), fun i _ => n ≤ i⟩
theorem zgx (a it : Addr) : Turn P w K tg (Itl K a) [it] it (fun i h => h.IsListIter it a i) where
 mem := by simp
 obj := fun i h st b hb => by
  have e : b = it := by simpa using hb
  subst e;obtain ⟨o, e, c, d⟩ := st;exact ⟨o, e, fun v z => by rw [d] at z; cases z⟩
 keep := fun i h h' st k => st.at fun o e => k it (by simp) o e
 item := by
  intro X hP hw hK hc i pins s σ H E I hf st hg;subst hP hw hK;obtain ⟨xs, x, hq, hx⟩ := hg;obtain ⟨its, rv, p, hz⟩ := I.list hq;obtain ⟨u, hu, ru⟩ := rv.get hx;obtain ⟨f0, f1, f2, f3, f4, f5⟩ := hf it (by simp);refine wpAny_pyNext_list_item st p.isList (x := u) (by simpa using hu) fun h' st' sb => ?_;have I1 : Inv X pins σ H { s with heap := h' } := I.turned (t' := s.toks) (fun b o hb e => (sb.2 b hb).trans e) f0 f1 f3 f4 f5;obtain ⟨o, e, c, d⟩ := id st';exact ⟨u, rfl, zdg (s := { s with heap := h' }) e c d (by decide) ⟨x, H, I1, ru, ⟨rfl, fun ys hy => by rw [I.list_inj hy hq]; exact hx⟩, st', fun b hb => (hf b hb).1⟩⟩
 done := by
  intro X hP hw hK hc i pins s σ H E I hf st hg;subst hP hw hK;obtain ⟨xs, hq, hx⟩ := hg;obtain ⟨its, rv, p, hz⟩ := I.list hq;obtain ⟨f0, f1, f2, f3, f4, f5⟩ := hf it (by simp);have hl := rv.length;exact wpAny_pyNext_list_end (I.ok.hd hc) st p.isList (by simp; omega) fun h' eb => ⟨rfl, I.turned (t' := s.toks) (fun b o hb e => eb b o hb e) f0 f1 f3 f4 f5⟩
 self := fun _ _ _ _ _ st h => wpAny_pyIter_listiter st h
theorem zd6 (a it : Addr) : Turn P w K tg (Itt K a) [it] it (fun i h => h.IsTupleIter it a i) where
 mem := by simp
 obj := fun i h st b hb => by
  have e : b = it := by simpa using hb
  subst e;obtain ⟨o, e, c, d⟩ := st;exact ⟨o, e, fun v z => by rw [d] at z; cases z⟩
 keep := fun i h h' st k => st.at fun o e => k it (by simp) o e
 item := by
  intro X hP hw hK hc i pins s σ H E I hf st hg;subst hP hw hK;obtain ⟨xs, x, hq, hx⟩ := hg;obtain ⟨its, rv, p, hz⟩ := I.tuple hq;obtain ⟨u, hu, ru⟩ := rv.get hx;obtain ⟨f0, f1, f2, f3, f4, f5⟩ := hf it (by simp);refine wpAny_pyNext_tuple_item st (show s.heap.IsTuple a its.toArray from p) (x := u) (by simpa using hu) fun h' st' sb => ?_;have I1 : Inv X pins σ H { s with heap := h' } := I.turned (t' := s.toks) (fun b o hb e => (sb.2 b hb).trans e) f0 f1 f3 f4 f5;obtain ⟨o, e, c, d⟩ := id st';exact ⟨u, rfl, zdg (s := { s with heap := h' }) e c d (by decide) ⟨x, H, I1, ru, ⟨rfl, fun ys hy => by rw [I.tuple_inj hy hq]; exact hx⟩, st', fun b hb => (hf b hb).1⟩⟩
 done := by
  intro X hP hw hK hc i pins s σ H E I hf st hg;subst hP hw hK;obtain ⟨xs, hq, hx⟩ := hg;obtain ⟨its, rv, p, hz⟩ := I.tuple hq;obtain ⟨f0, f1, f2, f3, f4, f5⟩ := hf it (by simp);have hl := rv.length;exact wpAny_pyNext_tuple_end (I.ok.hd hc) st (show s.heap.IsTuple a its.toArray from p) (by simp; omega) fun h' eb => ⟨rfl, I.turned (t' := s.toks) (fun b o hb e => eb b o hb e) f0 f1 f3 f4 f5⟩
 self := fun _ _ _ _ _ st h => wpAny_pyIter_tupleiter st h
theorem zd7 (it : Addr) (lo : Int) (n : Nat) : Turn P w K tg (Itr lo n) [it] it (fun i h => IsRangeIter h it (lo + (i : Nat) * 1) ((n : Int) - (i : Nat)) 1) where
 mem := by simp
 obj := fun i h st b hb => by
  have e : b = it := by simpa using hb
  subst e;exact ⟨_, st, fun v z => by
   have z' : Data.fields _ = Data.cell v := z;cases z'⟩
 keep := fun i h h' st k => k it (by simp) _ st
 item := by
  intro X hP hw hK hc i pins s σ H E I hf st hg;subst hP hw hK;obtain ⟨f0, f1, f2, f3, f4, f5⟩ := hf it (by simp);have W := Walks.range (prog := X.prog) (w := X.w) (I.ok.hd hc) it lo 1 n;refine W.item i s _ _ hg st fun v h' tk hv st' kk => ?_;obtain ⟨t, rfl⟩ := hv;have I1 : Inv X pins σ H { s with heap := h', toks := tk } := I.turned (fun b o hb e => kk b o (by simpa using hb) e) f0 f1 f3 f4 f5;refine ⟨_, rfl, zdg (s := { s with heap := h', toks := tk }) (n := "range_iterator") st' rfl rfl (by decide) ⟨.int (lo + i), H, I1, ⟨t, ?_⟩, ⟨rfl, rfl⟩, st', fun b hb => (hf b hb).1⟩⟩;rw [Int.mul_one]
 done := by
  intro X hP hw hK hc i pins s σ H E I hf st hg;subst hP hw hK;obtain ⟨f0, f1, f2, f3, f4, f5⟩ := hf it (by simp);exact wpAny_pyNext_range_end (I.ok.hd hc) st (by have : n ≤ i := hg; omega) fun h' eb => ⟨rfl, I.turned (t' := s.toks) (fun b o hb e => eb b o hb e) f0 f1 f3 f4 f5⟩
 self := fun _ _ _ _ _ st h => wpAny_pyIter_rangeiter st h
section
noncomputable def zr6 (K : PySem.W.Frag) (tl : TE) : TI := fun σ H R => tl σ H fun x H1 => ∃ a, x = .ref a ∧ (∃ xs, SqL K H1 a xs) ∧ R (Itl K a) H1
noncomputable def ztp (K : PySem.W.Frag) (tl : TE) : TI := fun σ H R => tl σ H fun x H1 => ∃ a, x = .ref a ∧ (∃ xs, SqT K H1 a xs) ∧ R (Itt K a) H1
theorem jg (hl : PE X l tl) : PI X tg l (zr6 X.K tl) := by
 intro pins s σ H R I h;refine thn (hl pins s σ H _ I h) fun v s1 ⟨x, H1, I1, r1, q1⟩ => ?_;obtain ⟨a, e, ⟨xs, hq⟩, q⟩ := q1;subst e;cases r1;obtain ⟨its, rv, p, hz⟩ := I1.list hq;refine wpAny_pyIter_list p.isList ?_;refine ⟨s1.heap.objs.size, [s1.heap.objs.size], _, _, H1, rfl, I1.kept (t' := s1.toks) fun b o e => ap _ e, zgx a _, ⟨_, bv _ rfl, rfl, rfl⟩, fun b hb => ?_, q⟩;have e : b = s1.heap.objs.size := by simpa using hb
 subst e;exact I1.fpOk (ai _) (I1.hok.fresh (ai _))
theorem ql (hl : PE X l tl) : PI X tg l (ztp X.K tl) := by
 intro pins s σ H R I h;refine thn (hl pins s σ H _ I h) fun v s1 ⟨x, H1, I1, r1, q1⟩ => ?_;obtain ⟨a, e, ⟨xs, hq⟩, q⟩ := q1;subst e;cases r1;obtain ⟨its, rv, p, hz⟩ := I1.tuple hq;refine wpAny_pyIter_tuple (show s1.heap.IsTuple a its.toArray from p) ?_;refine ⟨s1.heap.objs.size, [s1.heap.objs.size], _, _, H1, rfl, I1.kept (t' := s1.toks) fun b o e => ap _ e, zd6 a _, ⟨_, bv _ rfl, rfl, rfl⟩, fun b hb => ?_, q⟩;have e : b = s1.heap.objs.size := by simpa using hb
 subst e;exact I1.fpOk (ai _) (I1.hok.fresh (ai _))
theorem zcb {R : It → Hp → Prop} {hi : Int} {t u v : Tok} {tk : Nat} (I : Inv X pins σ H s) (h1 : -(2 ^ 62) ≤ lo) (h2 : lo < 2 ^ 62) (h3 : -(2 ^ 62) ≤ hi) (h4 : hi < 2 ^ 62)
  (q : R (Itr lo (hi - lo).toNat) H) : wpAny (model X.prog X.w) X.A (pyIter (.ref s.heap.objs.size)) (PIE X pins σ tg R) E { s with heap := s.heap.push { cls := .type "range", data := .fields #[.int lo t, .int hi u, .int 1 v] }, toks := tk } := by
 refine wpAny_pyIter_range (IsRange.new ..) (small_one h1 h2 h3 h4) ?_;have I1 : Inv X pins σ H { s with heap := s.heap.push { cls := .type "range", data := .fields #[.int lo t, .int hi u, .int 1 v] }, toks := tk } := I.kept fun b o e => ap _ e;refine ⟨(s.heap.push { cls := .type "range", data := .fields #[.int lo t, .int hi u, .int 1 v] }).objs.size, [(s.heap.push { cls := .type "range", data := .fields #[.int lo t, .int hi u, .int 1 v] }).objs.size], _, _, H, rfl,
  I1.kept (t' := tk) fun b o e => ap _ e, zd7 _ lo (hi - lo).toNat, ?_, fun b hb => ?_, q⟩
 · have e1 : lo + ((0 : Nat) : Int) * 1 = lo := by simp
   have e2 : (((hi - lo).toNat : Nat) : Int) - ((0 : Nat) : Int) = Builtin.Range.rangeSize lo hi 1 := by rw [rangeSize_one]; split <;> omega
   show IsRangeIter _ _ (lo + ((0 : Nat) : Int) * 1) ((((hi - lo).toNat : Nat) : Int) - ((0 : Nat) : Int)) 1;rw [e1, e2];exact bv _ rfl
 · have e : b = (s.heap.push { cls := .type "range", data := .fields #[.int lo t, .int hi u, .int 1 v] }).objs.size := by simpa using hb
   subst e;exact I1.fpOk (ai _) (I1.hok.fresh (ai _))
noncomputable def zr5 (ta : TA) : TI := fun σ H R => ta σ H fun vs H1 => ∃ j : Int, vs = [.int j] ∧ -(2 ^ 62) ≤ j ∧ j < 2 ^ 62 ∧ R (Itr 0 j.toNat) H1
noncomputable def zr4 (ta : TA) : TI := fun σ H R => ta σ H fun vs H1 => ∃ i j : Int, vs = [.int i, .int j] ∧ (-(2 ^ 62) ≤ i ∧ i < 2 ^ 62 ∧ -(2 ^ 62) ≤ j ∧ j < 2 ^ 62) ∧ R (Itr i (j - i).toNat) H1
theorem qz {a : Expr} {ta : TA} (hg : Gl X "range") (hm : X.mg "range" = none) (ha : PA X [a] ta) (hs : starEach [a] X.env = [(false, eval a X.env)] := by rfl) : PI X tg (.Call (.Name "range" p) [a] [] pos) (zr5 ta) := by
 intro pins s σ H R I h;refine Call_ (Yt I hg hm boot_range (PyProof.Rows.callWith_type1 (thn (ha pos pins s σ H _ I h) fun us s1 ⟨vs, H1, I1, r1, q1⟩ => ?_) hs rfl));obtain ⟨j, e, q1, q2, q⟩ := q1;subst e;cases r1 with
 | cons r rr =>
   cases rr;obtain ⟨t, rfl⟩ := r;exact call_range_1 (zcb I1 (by omega) (by omega) q1 q2 (by simpa using q))
theorem zha {a b : Expr} {ta : TA} (hg : Gl X "range") (hm : X.mg "range" = none) (ha : PA X [a, b] ta) (hs : starEach [a, b] X.env = [(false, eval a X.env), (false, eval b X.env)] := by rfl) (hs2 : starEach [b] X.env = [(false, eval b X.env)] := by rfl) :
  PI X tg (.Call (.Name "range" p) [a, b] [] pos) (zr4 ta) := by
 intro pins s σ H R I h;refine Call_ (Yt I hg hm boot_range (PyProof.Rows.callWith_type1 (thn (ha pos pins s σ H _ I h) fun us s1 ⟨vs, H1, I1, r1, q1⟩ => ?_) (by rw [hs, hs2]) (by rw [hs2]; rfl)));obtain ⟨i, j, e, ⟨q1, q2, q3, q4⟩, q⟩ := q1;subst e;cases r1 with
 | cons r rr =>
   cases rr with
   | cons r' rr =>
     cases rr;obtain ⟨t, rfl⟩ := r;obtain ⟨t', rfl⟩ := r';exact call_range_2 (zcb I1 q1 q2 q3 q4 q)
noncomputable def ztg (wi : TI) (g : TG) (tb : TS) : TS := fun D σ H => wi σ H fun J H1 => ∃ W : Nat → Nat → St → Hp → Prop, (∃ m, W 0 m σ H1) ∧ ∀ i m σ H, W i m σ H →
 (J.stop i H ∧ D.nx σ H) ∨ (J.go i H ∧ ∃ N : St → Hp → Prop, (∀ σ' H', N σ' H' → ∃ m', m' < m ∧ W (i + 1) m' σ' H') ∧ ∀ x H', J.yld i H x H' → g x σ H' fun σ2 H2 => tb { D with nx := N, ct := N, bk := D.nx } σ2 H2)
noncomputable def Q4 (fp : List Addr) (h : Heap) : List (Addr × Obj) := fp.filterMap fun b => (h.get? b).map fun o => (b, o)
theorem Z4 {o : Obj} (hb : b ∈ fp) (e : h.get? b = some o) : (b, o) ∈ Q4 fp h := List.mem_filterMap.mpr ⟨b, hb, by rw [e]; rfl⟩
theorem zhf {p : Addr × Obj} (hp : p ∈ Q4 fp h) : p.1 ∈ fp ∧ h.get? p.1 = some p.2 := by
 obtain ⟨b, hb, e⟩ := List.mem_filterMap.mp hp;cases q : h.get? b with
 | none => rw [q] at e; cases e
 | some o =>
   rw [q] at e;have e' : (b, o) = p := Option.some.inj e;subst e';exact ⟨hb, q⟩
theorem Inv.pinned (I : Inv X pins σ H s) (hf : ∀ b ∈ fp, W6 X pins H b) (ho : ∀ b ∈ fp, ∃ o, s.heap.get? b = some o ∧ ∀ v, o.data ≠ .cell v) : Inv X (pins ++ Q4 fp s.heap) σ H s :=
 I.pins_of fun p hp => (ba.mp hp).elim (fun z => I.pin p (ck _ z)) fun z => by
  obtain ⟨hb, e⟩ := zhf z;obtain ⟨f0, f1, f2, _⟩ := hf p.1 hb;obtain ⟨o, e', d⟩ := ho p.1 hb;rw [e] at e'; cases e';exact ⟨e, f0, f1, f2, d⟩
theorem Inv.unpinned (I : Inv X (pins ++ pl) σ H s) : Inv X pins σ H s := I.pins_of fun p hp => I.pin p (ck _ (dk _ hp))
theorem wr {iter : Expr} {wi : TI} (hp : PassesOwn (model X.prog X.w) X.A X.env X.xe) (hc : X.calm = true) (hi : PI X tg iter wi) (hg : PG X tg g) (hb : PSs X body tb)
  (hs : ∀ x, foldedSetIterable iter X.env x = pure x := by intro _; rfl) : PS X (.For tg iter body [] pos) (ztg wi g tb) := by
 intro pins s σ H D I h;refine wpAny_For (thn (hi pins s σ H _ I h) fun v s1 h1 => thn h1 fun itv s2 h2 => ?_) hs;obtain ⟨it, fp, tn, J, H2, e, I2, T, st2, f2, W, ⟨m0, w0⟩, turn⟩ := h2;subst e;have stat : ∀ {H' : Hp}, (∀ b ∈ fp, H' b = none) → ∀ b ∈ fp, W6 X pins H' b := fun hn b hb => ⟨hn b hb, (f2 b hb).2⟩
 refine codeAny_forLoop_any (fun n s' => ∃ i σ' H', Inv X pins σ' H' s' ∧ tn i s'.heap ∧ (∀ b ∈ fp, H' b = none) ∧ W i n σ' H') ?_ m0 ⟨0, σ, H2, I2, st2, fun b hb => (f2 b hb).1, w0⟩;rintro n s3 ⟨i, σ3, H3, I3, st3, fr3, w3⟩;rcases turn i n σ3 H3 w3 with ⟨stop, qn⟩ | ⟨go, N, hN, step⟩
 · refine wpAny_passesOwn hp (thn (T.done X rfl rfl rfl hc i pins s3 σ3 H3 X.xe I3 (stat fr3) st3 stop) fun r s4 ⟨hr, I4⟩ => ?_);subst hr;exact wpAny_execs_nil ⟨σ3, H3, I4, qn⟩
 · refine wpAny_passesOwn hp (thn (T.item X rfl rfl rfl hc i pins s3 σ3 H3 X.xe I3 (stat fr3) st3 go) fun r s4 ⟨u, hr, h4⟩ => ?_);subst hr;refine wpAny_passesOwn hp (thn h4 fun _ s5 ⟨x, H5, I5, r5, y5, st5, fr5⟩ => ?_);have I5' := I5.pinned (stat fr5) (T.obj _ _ st5);refine wpAny_passesOwn hp (thn (hg _ s5 σ3 H5 x u _ I5' r5 (step x H5 y5)) fun _ s6 ⟨σ6, H6, I6, q6⟩ => ?_);refine wpAny_passesOwn hp (thn (hb _ s6 σ6 H6 _ I6 q6) fun f s7 q7 => ?_);have again : ∀ {σ7 : St} {H7 : Hp}, Inv X (pins ++ Q4 fp s5.heap) σ7 H7 s7 → N σ7 H7 → ∃ m, m < n ∧ ∃ i σ' H', Inv X pins σ' H' s7 ∧ tn i s7.heap ∧ (∀ b ∈ fp, H' b = none) ∧ W i m σ' H' := fun {σ7 H7} I7 n7 => by
    obtain ⟨m', hm, w7⟩ := hN σ7 H7 n7;refine ⟨m', hm, i + 1, σ7, H7, I7.unpinned, T.keep _ _ _ st5 fun b hb o e => (I7.pin (b, o) (ck _ (ck _ (Z4 hb e)))).1, fun b hb => ?_, w7⟩;obtain ⟨o, e, d⟩ := T.obj _ _ st5 b hb;exact (I7.pin (b, o) (ck _ (ck _ (Z4 hb e)))).2.1
   cases f with
   | next => obtain ⟨σ7, H7, I7, n7⟩ := q7; exact again I7 n7
   | cont => obtain ⟨σ7, H7, I7, n7⟩ := q7; exact again I7 n7
   | brk => obtain ⟨σ7, H7, I7, q7⟩ := q7; exact ⟨σ7, H7, I7.unpinned, q7⟩
   | ret v => obtain ⟨x7, σ7, H7, I7, r7, q7⟩ := q7; exact ⟨x7, σ7, H7, I7.unpinned, r7, q7⟩
end
theorem Ww (Pv : Nat → St → Hp → Prop) (h0 : Pv 0 σ H) (hl : ∀ i σ H, i ≤ xs.length → Pv i σ H → SqL K H a xs)
  (hs : ∀ i x σ H, xs[i]? = some x → Pv i σ H → g x σ H fun σ2 H2 => tb { D with nx := Pv (i + 1), ct := Pv (i + 1), bk := D.nx } σ2 H2) (hd : ∀ σ H, Pv xs.length σ H → D.nx σ H) :
  ∃ W : Nat → Nat → St → Hp → Prop, (∃ m, W 0 m σ H) ∧ ∀ i m σ H, W i m σ H →
    ((Itl K a).stop i H ∧ D.nx σ H) ∨ ((Itl K a).go i H ∧ ∃ N : St → Hp → Prop, (∀ σ' H', N σ' H' → ∃ m', m' < m ∧ W (i + 1) m' σ' H') ∧ ∀ x H', (Itl K a).yld i H x H' → g x σ H' fun σ2 H2 => tb { D with nx := N, ct := N, bk := D.nx } σ2 H2) := by
 refine ⟨fun i m σ H => m = xs.length - i ∧ i ≤ xs.length ∧ Pv i σ H, ⟨xs.length, by simp, bd _, h0⟩, ?_⟩;rintro i m σ H ⟨rfl, hi, p⟩;have q := hl i σ H hi p;by_cases hlt : i < xs.length
 · refine .inr ⟨⟨xs, xs[i], q, by simp [hlt]⟩, Pv (i + 1), fun σ' H' p' => ⟨xs.length - (i + 1), by omega, rfl, hlt, p'⟩, fun x H' y => ?_⟩;obtain ⟨e, y⟩ := y;subst e;exact hs i x σ _ (y xs q) p
 · have e : i = xs.length := by omega
   subst e;exact .inl ⟨⟨xs, q, ai _⟩, hd σ H p⟩
theorem Z6 (Pv : Nat → St → Hp → Prop) (h0 : Pv 0 σ H) (hl : ∀ i σ H, i ≤ xs.length → Pv i σ H → SqT K H a xs)
  (hs : ∀ i x σ H, xs[i]? = some x → Pv i σ H → g x σ H fun σ2 H2 => tb { D with nx := Pv (i + 1), ct := Pv (i + 1), bk := D.nx } σ2 H2) (hd : ∀ σ H, Pv xs.length σ H → D.nx σ H) :
  ∃ W : Nat → Nat → St → Hp → Prop, (∃ m, W 0 m σ H) ∧ ∀ i m σ H, W i m σ H →
    ((Itt K a).stop i H ∧ D.nx σ H) ∨ ((Itt K a).go i H ∧ ∃ N : St → Hp → Prop, (∀ σ' H', N σ' H' → ∃ m', m' < m ∧ W (i + 1) m' σ' H') ∧ ∀ x H', (Itt K a).yld i H x H' → g x σ H' fun σ2 H2 => tb { D with nx := N, ct := N, bk := D.nx } σ2 H2) := by
 refine ⟨fun i m σ H => m = xs.length - i ∧ i ≤ xs.length ∧ Pv i σ H, ⟨xs.length, by simp, bd _, h0⟩, ?_⟩;rintro i m σ H ⟨rfl, hi, p⟩;have q := hl i σ H hi p;by_cases hlt : i < xs.length
 · refine .inr ⟨⟨xs, xs[i], q, by simp [hlt]⟩, Pv (i + 1), fun σ' H' p' => ⟨xs.length - (i + 1), by omega, rfl, hlt, p'⟩, fun x H' y => ?_⟩;obtain ⟨e, y⟩ := y;subst e;exact hs i x σ _ (y xs q) p
 · have e : i = xs.length := by omega
   subst e;exact .inl ⟨⟨xs, q, ai _⟩, hd σ H p⟩
theorem j4 (Pv : Nat → St → Hp → Prop) (h0 : Pv 0 σ H)
  (hs : ∀ i σ H, i < n → Pv i σ H → g (.int (lo + i)) σ H fun σ2 H2 => tb { D with nx := Pv (i + 1), ct := Pv (i + 1), bk := D.nx } σ2 H2) (hd : ∀ σ H, Pv n σ H → D.nx σ H) :
  ∃ W : Nat → Nat → St → Hp → Prop, (∃ m, W 0 m σ H) ∧ ∀ i m σ H, W i m σ H →
    ((Itr lo n).stop i H ∧ D.nx σ H) ∨ ((Itr lo n).go i H ∧ ∃ N : St → Hp → Prop, (∀ σ' H', N σ' H' → ∃ m', m' < m ∧ W (i + 1) m' σ' H') ∧ ∀ x H', (Itr lo n).yld i H x H' → g x σ H' fun σ2 H2 => tb { D with nx := N, ct := N, bk := D.nx } σ2 H2) := by
 refine ⟨fun i m σ H => m = n - i ∧ i ≤ n ∧ Pv i σ H, ⟨n, by simp, bd _, h0⟩, ?_⟩;rintro i m σ H ⟨rfl, hi, p⟩;by_cases hlt : i < n
 · refine .inr ⟨hlt, Pv (i + 1), fun σ' H' p' => ⟨n - (i + 1), by omega, rfl, hlt, p'⟩, fun x H' y => ?_⟩;obtain ⟨e, y⟩ := y;subst e y;exact hs i σ _ hlt p
 · have e : i = n := by omega
   subst e;exact .inl ⟨ai _, hd σ H p⟩
abbrev R2 := V → V → Hp → VK → Prop
noncomputable def OpR (X : Cx) (f : Value → Value → Sem Value) (r : R2) : Prop :=
 ∀ (pins : List (Addr × Obj)) (s : Shared) (σ : St) (H : Hp) (x y : V) (v u : Value) (Q : VK), Inv X pins σ H s → yq x v → yq y u → r x y H Q →
   wpAny (model X.prog X.w) X.A (f v u) (EP X pins σ Q) X.xe s
noncomputable def UnR (X : Cx) (f : Value → Sem Value) (r : V → Hp → VK → Prop) : Prop :=
 ∀ (pins : List (Addr × Obj)) (s : Shared) (σ : St) (H : Hp) (x : V) (v : Value) (Q : VK), Inv X pins σ H s → yq x v → r x H Q →
   wpAny (model X.prog X.w) X.A (f v) (EP X pins σ Q) X.xe s
noncomputable def Zu (X : Cx) (f : Value) (r : List V → Hp → VK → Prop) : Prop :=
 ∀ (pins : List (Addr × Obj)) (s : Shared) (σ : St) (H : Hp) (xs : List V) (us : List Value) (Q : VK), Inv X pins σ H s → yn xs us → r xs H Q →
   wpAny (model X.prog X.w) X.A (call f us) (EP X pins σ Q) X.xe s
noncomputable def ztw (X : Cx) (r : V → Hp → (Bool → Hp → Prop) → Prop) : Prop :=
 ∀ (pins : List (Addr × Obj)) (s : Shared) (σ : St) (H : Hp) (x : V) (v : Value) (Q : Bool → Hp → Prop), Inv X pins σ H s → yq x v → r x H Q →
   wpAny (model X.prog X.w) X.A (truthy v) (TP X pins σ Q) X.xe s
noncomputable def tOp (r : R2) (ta tb : TE) : TE := fun σ H Q => ta σ H fun x H1 => tb σ H1 fun y H2 => r x y H2 Q
noncomputable def tUn (r : V → Hp → VK → Prop) (ta : TE) : TE := fun σ H Q => ta σ H fun x H1 => r x H1 Q
noncomputable def rI (C : Int → Int → Prop) (g : Int → Int → V) : R2 := fun x y H Q => ∃ i j, x = .int i ∧ y = .int j ∧ C i j ∧ Q (g i j) H
noncomputable def rI0 (g : Int → Int → V) : R2 := fun x y H Q => ∃ i j, x = .int i ∧ y = .int j ∧ Q (g i j) H
noncomputable def rU (g : Int → V) : V → Hp → VK → Prop := fun x H Q => ∃ i, x = .int i ∧ Q (g i) H
section
variable {a b : Expr} {tb tc : TE}
theorem zp0 (ha : PE X a ta) (hb : PE X b tb) {R : V → V → Hp → Prop} (I : Inv X pins σ H s)
  (h : ta σ H fun x H1 => tb σ H1 fun y H2 => R x y H2) {f : Value → Value → Sem Value}
  (hf : ∀ v u s2 x y H2, Inv X pins σ H2 s2 → yq x v → yq y u → R x y H2 → wpAny (model X.prog X.w) X.A (f v u) Q X.xe s2) :
  wpAny (model X.prog X.w) X.A (eval a X.env) (fun v s₁ => wpAny (model X.prog X.w) X.A (eval b X.env) (fun u s₂ => wpAny (model X.prog X.w) X.A (f v u) Q X.xe s₂) X.xe s₁) X.xe s := by
 refine thn (ha pins s σ H _ I h) fun v s1 ⟨x, H1, I1, r1, q1⟩ => ?_;refine thn (hb pins s1 σ H1 _ I1 q1) fun u s2 ⟨y, H2, I2, r2, q2⟩ => ?_;exact hf v u s2 x y H2 I2 r1 r2 q2
theorem yc {op : Operator} {r : R2} (ho : OpR X (binaryOp op) r) (ha : PE X a ta) (hb : PE X b tb) : PE X (.BinOp a op b pos) (tOp r ta tb) := by
 intro pins s σ H Q I h;exact wpAny_BinOp (zp0 ha hb I h fun v u s2 x y H2 I2 rx ry q => ho pins s2 σ H2 x y v u Q I2 rx ry q)
theorem zfw {op : UnaryOp} {r : V → Hp → VK → Prop} (ho : UnR X (unaryOp op) r) (ha : PE X a ta) : PE X (.UnaryOp op a pos) (tUn r ta) := by
 intro pins s σ H Q I h;exact UnaryOp_ (thn (ha pins s σ H _ I h) fun v s1 ⟨x, H1, I1, r1, q1⟩ => ho pins s1 σ H1 x v Q I1 r1 q1)
theorem opI {f : Value → Value → Sem Value} {C : Int → Int → Prop} {g : Int → Int → Int}
  (rule : ∀ (i j : Int) (t u : Tok) (s : Shared) (Q : Value → Shared → Prop) (E : Value → Shared → Prop), C i j → Q (.int (g i j) s.toks) { s with toks := s.toks + 1 } → wpAny (model X.prog X.w) X.A (f (.int i t) (.int j u)) Q E s) :
  OpR X f (rI C fun i j => .int (g i j)) := by
 intro pins s σ H x y v u Q I rx ry h;obtain ⟨i, j, rfl, rfl, hc, q⟩ := h;obtain ⟨t, rfl⟩ := rx;obtain ⟨t', rfl⟩ := ry;exact rule i j t t' s _ _ hc ⟨.int (g i j), H, I.tok _, ⟨_, rfl⟩, q⟩
theorem zru {f : Value → Value → Sem Value} {g : Int → Int → Int}
  (rule : ∀ (i j : Int) (t u : Tok) (s : Shared) (Q : Value → Shared → Prop) (E : Value → Shared → Prop), Q (.int (g i j) s.toks) { s with toks := s.toks + 1 } → wpAny (model X.prog X.w) X.A (f (.int i t) (.int j u)) Q E s) :
  OpR X f (rI0 fun i j => .int (g i j)) := by
 intro pins s σ H x y v u Q I rx ry h;obtain ⟨i, j, rfl, rfl, q⟩ := h;obtain ⟨t, rfl⟩ := rx;obtain ⟨t', rfl⟩ := ry;exact rule i j t t' s _ _ ⟨.int (g i j), H, I.tok _, ⟨_, rfl⟩, q⟩
theorem zmr {f : Value → Value → Sem Value} {g : Int → Int → Bool}
  (rule : ∀ (i j : Int) (t u : Tok) (s : Shared) (Q : Value → Shared → Prop) (E : Value → Shared → Prop), Q (.bool (g i j)) s → wpAny (model X.prog X.w) X.A (f (.int i t) (.int j u)) Q E s) :
  OpR X f (rI0 fun i j => .bl (g i j)) := by
 intro pins s σ H x y v u Q I rx ry h;obtain ⟨i, j, rfl, rfl, q⟩ := h;obtain ⟨t, rfl⟩ := rx;obtain ⟨t', rfl⟩ := ry;exact rule i j t t' s _ _ ⟨.bl (g i j), H, I, rfl, q⟩
noncomputable def zty (i j : Int) : Prop := 0 ≤ j ∧ j ≤ 1000000 ∧ i.natAbs < 2 ^ 64
noncomputable def zlz (i j : Int) : Prop := (-(2 ^ 64) < i ∧ i < 2 ^ 64) ∨ (-(2 ^ 64) < j ∧ j < 2 ^ 64)
theorem zlz.ok {i j : Int} (h : zlz i j) : IntMulOk i j := by
 rcases h with ⟨h1, h2⟩ | ⟨h1, h2⟩
 · exact .of_left (intBits_le_64 h1 h2)
 · exact .of_right (intBits_le_64 h1 h2)
theorem vo : OpR X (binaryOp .Add) (rI0 fun i j => .int (i + j)) := zru fun _ _ _ _ _ _ _ q => add_int q
theorem Vh : OpR X (binaryOp .Sub) (rI0 fun i j => .int (i - j)) := zru fun _ _ _ _ _ _ _ q => sub_int q
theorem kf : OpR X (binaryOp .Mult) (rI zlz fun i j => .int (i * j)) := opI fun _ _ _ _ _ _ _ hc q => mul_int q hc.ok
theorem Xo : OpR X (binaryOp .Mod) (rI (fun _ j => 0 < j) fun i j => .int (i % j)) := opI fun i j _ _ _ _ _ hc q => by
 have h1 : (0 : Int) < j := hc;exact mod_int' (by omega) (by rw [Int.fmod_eq_emod_of_nonneg i (by omega)]; exact q)
theorem zjz : OpR X (binaryOp .Pow) (rI zty fun i j => .int (i ^ j.toNat)) := opI fun _ _ _ _ _ _ _ hc q => pow_int_small hc.1 hc.2.1 hc.2.2 q
theorem unI {f : Value → Sem Value} {g : Int → Int}
  (rule : ∀ (i : Int) (t : Tok) (s : Shared) (Q : Value → Shared → Prop) (E : Value → Shared → Prop), Q (.int (g i) s.toks) { s with toks := s.toks + 1 } → wpAny (model X.prog X.w) X.A (f (.int i t)) Q E s) :
  UnR X f (rU fun i => .int (g i)) := by
 intro pins s σ H x v Q I rx h;obtain ⟨i, rfl, q⟩ := h;obtain ⟨t, rfl⟩ := rx;exact rule i t s _ _ ⟨.int (g i), H, I.tok _, ⟨_, rfl⟩, q⟩
theorem zam : UnR X (unaryOp .USub) (rU fun i => .int (-i)) := unI fun _ _ _ _ _ q => neg_int q
end
noncomputable def zq9 : V → V → Bool
 | .non, .non => true | .non, .int _ => true | .int _, .non => true | .non, .bl _ => true | .bl _, .non => true | .non, .str _ => true | .str _, .non => true
 | .int _, .int _ => true | .bl _, .bl _ => true | .str _, .str _ => true | .byt _, .byt _ => true
 | .int _, .str _ => true | .str _, .int _ => true | .bl _, .str _ => true | .str _, .bl _ => true
 | _, _ => false
noncomputable def rEq : R2 := fun x y H Q => zq9 x y = true ∧ Q (.bl (decide (x = y))) H
noncomputable def rNe : R2 := fun x y H Q => zq9 x y = true ∧ Q (.bl (!decide (x = y))) H
theorem zbp {i j : Int} : decide (V.int i = V.int j) = (i == j) := by
 rw [Bool.eq_iff_iff];simp
theorem zlb {i j : Bool} : decide (V.bl i = V.bl j) = (i == j) := by
 rw [Bool.eq_iff_iff];simp
theorem zgk {i j : Str} : decide (V.str i = V.str j) = (i == j) := by
 rw [Bool.eq_iff_iff];simp
theorem zgl {i j : Array UInt8} : decide (V.byt i = V.byt j) = (i.toList == j.toList) := by
 rw [Bool.eq_iff_iff];cases i;cases j;simp
section
variable {a b : Expr} {tb tc : TE}
theorem yu {Q : VK} {k k' : Bool} (I : Inv X pins σ H s) (q : Q (.bl k) H) (e : k = k') : EP X pins σ Q (.bool k') s := by
 subst e;exact ⟨.bl k, H, I, rfl, q⟩
theorem wo : OpR X (compareOp .Eq) rEq := by
 intro pins s σ H x y v u Q I rx ry h;obtain ⟨hs, q⟩ := h;cases x with
 | non =>
   cases rx;cases y with
   | non => cases ry; exact PySem.EqNone.eq_none_none (yu I q (by simp))
   | bl j => cases ry; exact PySem.EqNone.eq_none_bool (yu I q (by simp))
   | int j => obtain ⟨t', rfl⟩ := ry; exact PySem.EqNone.eq_none_int (yu I q (by simp))
   | str j => obtain ⟨t', rfl⟩ := ry; exact PySem.EqNone.eq_none_str (yu I q (by simp))
   | _ => exact absurd (show false = true from hs) c8
 | bl i =>
   cases rx;cases y with
   | non => cases ry; exact PySem.EqNone.eq_bool_none (yu I q (by simp))
   | bl j => cases ry; exact eq_bool (yu I q zlb)
   | str j => obtain ⟨t', rfl⟩ := ry; exact PySem.EqMixed.eq_bool_str (yu I q (by simp))
   | _ => exact absurd (show false = true from hs) c8
 | int i =>
   obtain ⟨t, rfl⟩ := rx;cases y with
   | non => cases ry; exact PySem.EqNone.eq_int_none (yu I q (by simp))
   | int j => obtain ⟨t', rfl⟩ := ry; exact eq_int (yu I q zbp)
   | str j => obtain ⟨t', rfl⟩ := ry; exact PySem.EqMixed.eq_int_str (yu I q (by simp))
   | _ => exact absurd (show false = true from hs) c8
 | str i =>
   obtain ⟨t, rfl⟩ := rx;cases y with
   | non => cases ry; exact PySem.EqNone.eq_str_none (yu I q (by simp))
   | bl j => cases ry; exact PySem.EqMixed.eq_str_bool (yu I q (by simp))
   | int j => obtain ⟨t', rfl⟩ := ry; exact PySem.EqMixed.eq_str_int (yu I q (by simp))
   | str j => obtain ⟨t', rfl⟩ := ry; exact eq_str (yu I q zgk)
   | _ => exact absurd (show false = true from hs) c8
 | byt i =>
   obtain ⟨t, rfl⟩ := rx;cases y with
   | byt j => obtain ⟨t', rfl⟩ := ry; exact PySem.W.eq_bytes (yu I q zgl)
   | _ => exact absurd (show false = true from hs) c8
 | _ => cases y <;> exact absurd (show false = true from hs) c8
theorem Xb : OpR X (compareOp .NotEq) rNe := by
 intro pins s σ H x y v u Q I rx ry h;obtain ⟨hs, q⟩ := h;cases x with
 | non =>
   cases rx;cases y with
   | non => cases ry; exact PySem.EqNone.ne_none_none (yu I q (by simp))
   | bl j => cases ry; exact PySem.EqNone.ne_none_bool (yu I q (by simp))
   | int j => obtain ⟨t', rfl⟩ := ry; exact PySem.EqNone.ne_none_int (yu I q (by simp))
   | str j => obtain ⟨t', rfl⟩ := ry; exact PySem.EqNone.ne_none_str (yu I q (by simp))
   | _ => exact absurd (show false = true from hs) c8
 | bl i =>
   cases rx;cases y with
   | non => cases ry; exact PySem.EqNone.ne_bool_none (yu I q (by simp))
   | bl j => cases ry; exact ne_bool (yu I q (congrArg not zlb))
   | str j => obtain ⟨t', rfl⟩ := ry; exact PySem.EqMixed.ne_bool_str (yu I q (by simp))
   | _ => exact absurd (show false = true from hs) c8
 | int i =>
   obtain ⟨t, rfl⟩ := rx;cases y with
   | non => cases ry; exact PySem.EqNone.ne_int_none (yu I q (by simp))
   | int j => obtain ⟨t', rfl⟩ := ry; exact ne_int (yu I q (congrArg not zbp))
   | str j => obtain ⟨t', rfl⟩ := ry; exact PySem.EqMixed.ne_int_str (yu I q (by simp))
   | _ => exact absurd (show false = true from hs) c8
 | str i =>
   obtain ⟨t, rfl⟩ := rx;cases y with
   | non => cases ry; exact PySem.EqNone.ne_str_none (yu I q (by simp))
   | bl j => cases ry; exact PySem.EqMixed.ne_str_bool (yu I q (by simp))
   | int j => obtain ⟨t', rfl⟩ := ry; exact PySem.EqMixed.ne_str_int (yu I q (by simp))
   | str j => obtain ⟨t', rfl⟩ := ry; exact ne_str (yu I q (congrArg not zgk))
   | _ => exact absurd (show false = true from hs) c8
 | byt i =>
   obtain ⟨t, rfl⟩ := rx;cases y with
   | byt j => obtain ⟨t', rfl⟩ := ry; exact PySem.W.ne_bytes (yu I q (congrArg not zgl))
   | _ => exact absurd (show false = true from hs) c8
 | _ => cases y <;> exact absurd (show false = true from hs) c8
theorem zch : OpR X (compareOp .Lt) (rI0 fun i j => .bl (decide (i < j))) := zmr fun _ _ _ _ _ _ _ q => lt_int q
theorem Xc : OpR X (compareOp .LtE) (rI0 fun i j => .bl (decide (i ≤ j))) := zmr fun _ _ _ _ _ _ _ q => le_int q
theorem zci : OpR X (compareOp .Gt) (rI0 fun i j => .bl (decide (j < i))) := zmr fun _ _ _ _ _ _ _ q => gt_int q
theorem znv : OpR X (compareOp .GtE) (rI0 fun i j => .bl (decide (j ≤ i))) := zmr fun _ _ _ _ _ _ _ q => ge_int q
theorem zj0 : OpR X (compareOp .Is) (fun x y H Q => y = .non ∧ Q (.bl (decide (x = .non))) H) := by
 intro pins s σ H x y v u Q I rx ry h;obtain ⟨rfl, q⟩ := h;cases ry;refine is_none_gen (yu I q ?_);cases x <;> first
  | (cases rx; rfl)
  | (obtain ⟨t, rfl⟩ := rx; rfl)
theorem OpR.or {f : Value → Value → Sem Value} {r r' : R2} (h : OpR X f r) (h' : OpR X f r') : OpR X f (fun x y H Q => r x y H Q ∨ r' x y H Q) := by
 intro pins s σ H x y v u Q I rx ry q;rcases q with q | q
 · exact h pins s σ H x y v u Q I rx ry q
 · exact h' pins s σ H x y v u Q I rx ry q
theorem ye (b : Expr) {op : CmpOp} (h : op ≠ .In := by decide) (h2 : op ≠ .NotIn := by decide) : behindInMarks op b = false := by
 have e1 : (op == CmpOp.In) = false := by cases op <;> first | rfl | exact absurd rfl h
 have e2 : (op == CmpOp.NotIn) = false := by cases op <;> first | rfl | exact absurd rfl h2
 cases b <;> simp [behindInMarks, e1, e2]
theorem jh {op : CmpOp} {r : R2} (ho : OpR X (compareOp op) r) (ha : PE X a ta) (hb : PE X b tb) (hm : behindInMarks op b = false) : PE X (.Compare a [op] [b] pos) (tOp r ta tb) := by
 intro pins s σ H Q I h;exact wpAny_Compare1 (zp0 ha hb I h fun v u s2 x y H2 I2 rx ry q => ho pins s2 σ H2 x y v u Q I2 rx ry q) hm
noncomputable def znt (t : TE) : TT := fun σ H Q => t σ H fun x H' => ∃ k, x = .bl k ∧ Q k H'
theorem zu {op : CmpOp} {r : R2} (ho : OpR X (compareOp op) r) (ha : PE X a ta) (hb : PE X b tb) (hm : behindInMarks op b = false) : PT X (.Compare a [op] [b] pos) (znt (tOp r ta tb)) := by
 intro pins s σ H Q I h;refine wpAny_isTrue_Compare1 (thn (ha pins s σ H _ I h) fun v s1 ⟨x, H1, I1, r1, q1⟩ => thn (hb pins s1 σ H1 _ I1 q1) fun u s2 ⟨y, H2, I2, r2, q2⟩ =>
  thn (ho pins s2 σ H2 x y v u _ I2 r1 r2 q2) fun c s3 ⟨z, H3, I3, r3, k, e, q3⟩ => ?_) hm
 subst e;cases r3;exact wpAny_truthy_bool ⟨H3, I3, q3⟩
noncomputable def ziz (r r' : R2) (ta tb tc : TE) : TE := fun σ H Q => ta σ H fun x H1 => tb σ H1 fun y H2 => r x y H2 fun z H3 => ∃ k, z = .bl k ∧
 (if k = true then tc σ H3 fun w' H4 => r' y w' H4 Q else Q (.bl false) H3)
theorem Wg {op op' : CmpOp} {r r' : R2} (ho : OpR X (compareOp op) r) (ho' : OpR X (compareOp op') r') (ha : PE X a ta) (hb : PE X b tb) (hc : PE X c tc)
  (hm : lastMarks [op, op'] [b, c] = false := by with_unfolding_all rfl) : PE X (.Compare a [op, op'] [b, c] pos) (ziz r r' ta tb tc) := by
 intro pins s σ H Q I h;refine Compare_chain (thn (ha pins s σ H _ I h) fun v s1 ⟨x, H1, I1, r1, q1⟩ => chain_link (thn (hb pins s1 σ H1 _ I1 q1) fun u s2 ⟨y, H2, I2, r2, q2⟩ =>
  thn (ho pins s2 σ H2 x y v u _ I2 r1 r2 q2) fun d s3 ⟨z, H3, I3, r3, k, e, q3⟩ => ?_)) hm
 subst e;cases r3;refine wpAny_truthy_bool ?_;cases k with
 | false => exact ite_ff ⟨.bl false, H3, I3, rfl, q3⟩
 | true => exact ite_tt (chain_last (thn (hc pins s3 σ H3 _ I3 q3) fun w' s4 ⟨z', H4, I4, r4, q4⟩ => ho' pins s4 σ H4 y z' u w' Q I4 r2 r4 q4))
theorem zjp {op op' : CmpOp} {r r' : R2} (ho : OpR X (compareOp op) r) (ho' : OpR X (compareOp op') r') (ha : PE X a ta) (hb : PE X b tb) (hc : PE X c tc)
  (hm : lastMarks [op, op'] [b, c] = false := by with_unfolding_all rfl) : PT X (.Compare a [op, op'] [b, c] pos) (znt (ziz r r' ta tb tc)) := by
 intro pins s σ H Q I h;refine isTrue_chain (thn (ha pins s σ H _ I h) fun v s1 ⟨x, H1, I1, r1, q1⟩ => test_link (thn (hb pins s1 σ H1 _ I1 q1) fun u s2 ⟨y, H2, I2, r2, q2⟩ =>
  thn (ho pins s2 σ H2 x y v u _ I2 r1 r2 q2) fun d s3 ⟨z, H3, I3, r3, k, e, q3⟩ => ?_)) hm
 subst e;cases r3;refine wpAny_truthy_bool ?_;cases k with
 | false =>
   obtain ⟨k', e', q'⟩ := q3;cases e';exact ite_ff ⟨H3, I3, q'⟩
 | true =>
   refine ite_tt (test_last (thn (hc pins s3 σ H3 _ I3 q3) fun w' s4 ⟨z', H4, I4, r4, q4⟩ => thn (ho' pins s4 σ H4 y z' u w' _ I4 r2 r4 q4) fun d' s5 ⟨z2, H5, I5, r5, k2, e2, q5⟩ => ?_));subst e2;cases r5;exact wpAny_truthy_bool ⟨H5, I5, q5⟩
noncomputable def zs4 (K : PySem.W.Frag) (x : V) (H : Hp) (k : Bool) : Prop :=
 match x with
 | .non => k = false
 | .bl b => k = b
 | .int i => k = (i != 0)
 | .str y => y.length ≤ sizeLine ∧ k = ((y.length : Int) != 0)
 | .byt y => y.size ≤ sizeLine ∧ k = ((y.size : Int) != 0)
 | .ref p => (∃ xs, SqL K H p xs ∧ k = !xs.isEmpty) ∨ (∃ xs, SqT K H p xs ∧ k = !xs.isEmpty) ∨ ∃ kvs, H p = some (.dK kvs) ∧ k = !kvs.isEmpty
 | _ => False
theorem ze4 {κ : Type} {kvs : List (κ × V)} {vs : List (κ × Value)} (r : KV kvs vs) : (!vs.isEmpty) = !kvs.isEmpty := by
 cases r <;> rfl
theorem Jh (r : yn xs its) : (!its.toArray.isEmpty) = !xs.isEmpty := by
 cases r <;> simp
theorem Xs : (sizeLine : Nat) < 2 ^ 63 := by rw [sizeLine_eq]; decide
theorem zob : ztw X (fun x H Q => ∃ k, zs4 X.K x H k ∧ Q k H) := by
 intro pins s σ H x v Q I rx h;obtain ⟨k, e, q⟩ := h;have hl := Xs;have hs : sizeLine = 16777216 := sizeLine_eq;cases x with
 | non =>
   cases rx;have e' : k = false := e;subst e';exact truthy_none ⟨H, I, q⟩
 | bl b =>
   cases rx;have e' : k = b := e;subst e';exact wpAny_truthy_bool ⟨H, I, q⟩
 | int i =>
   obtain ⟨t, rfl⟩ := rx;have e' : k = (i != 0) := e;subst e';exact PySem.P.truthy_int ⟨H, I, q⟩
 | str y =>
   obtain ⟨t, rfl⟩ := rx;obtain ⟨hy, e'⟩ : y.length ≤ sizeLine ∧ k = ((y.length : Int) != 0) := e;subst e';exact PySem.P.truthy_str (by omega) ⟨H, I.tok _, q⟩
 | byt y =>
   obtain ⟨t, rfl⟩ := rx;obtain ⟨hy, e'⟩ : y.size ≤ sizeLine ∧ k = ((y.size : Int) != 0) := e;subst e';exact PySem.W.truthy_bytes (by omega) ⟨H, I.tok _, q⟩
 | ref p =>
   cases rx;have e' : (∃ xs, SqL X.K H p xs ∧ k = !xs.isEmpty) ∨ (∃ xs, SqT X.K H p xs ∧ k = !xs.isEmpty) ∨ ∃ kvs, H p = some (.dK kvs) ∧ k = !kvs.isEmpty := e;rcases e' with ⟨xs, hx, e'⟩ | ⟨xs, hx, e'⟩ | ⟨kvs, hx, e'⟩
   · subst e';obtain ⟨its, r, pl, hz⟩ := I.list hx;have hlen := r.length;exact wpAny_truthy_list pl.isList (by simp only [bq]; omega) ⟨H, I.tok _, by rw [Jh r]; exact q⟩
   · subst e';obtain ⟨its, r, pl, hz⟩ := I.tuple hx;have hlen := r.length;exact truthy_tuple pl (by simp only [bq]; omega) ⟨H, I.tok _, by rw [Jh r]; exact q⟩
   · subst e';obtain ⟨hz, hS, vs, r, m⟩ : kvs.length ≤ sizeLine ∧ (p == sysModules) = false ∧ ∃ vs, KV kvs vs ∧ s.heap.DictOf (yj X.prog X.w) p vs := I.hok p _ hx;have hlen : kvs.length = vs.length := Paired.length r;exact wpAny_truthy_dict hS m (by omega) ⟨H, I.tok _, by rw [ze4 r]; exact q⟩
 | _ => exact (show False from e).elim
theorem Q3 (ha : PE X a ta) (he : ∀ whole, isTrue a X.env whole = (do let v ← whole; standAt a.pos; holding [v] (truthy v))) :
  PT X a (fun σ H Q => ta σ H fun x H' => ∃ k, zs4 X.K x H' k ∧ Q k H') := by
 intro pins s σ H Q I h;exact isTrue_plain (thn (ha pins s σ H _ I h) fun v s1 ⟨x, H1, I1, r1, q1⟩ => zob pins s1 σ H1 x v Q I1 r1 q1) (he _)
theorem ym : OpR X (binaryOp .Add) (fun x y H Q => ∃ i j, x = .str i ∧ y = .str j ∧ i.length + j.length ≤ sizeLine ∧ Q (.str (i ++ j)) H) := by
 intro pins s σ H x y v u Q I rx ry h;obtain ⟨i, j, rfl, rfl, hz, q⟩ := h;obtain ⟨t, rfl⟩ := rx;obtain ⟨t', rfl⟩ := ry;exact add_str (fun t' tk => ⟨.str (i ++ j), H, I.tok _, ⟨_, rfl⟩, q⟩) hz
theorem j6 {x : V} (r : yn [x] us) : ∃ u, us = [u] ∧ yq x u := by
 cases r with
 | cons r1 r2 => cases r2; exact ⟨_, rfl, r1⟩
theorem zio {x : V} (r : yn [x, y] us) : ∃ u w', us = [u, w'] ∧ yq x u ∧ yq y w' := by
 cases r with
 | cons r1 r2 =>
   cases r2 with
   | cons r3 r4 => cases r4; exact ⟨_, _, rfl, r1, r3⟩
end
structure ObjM (h : Heap) (x dx C : Addr) (mA : Str → Option Value) : Prop where
 obj : h.get? x = some (PySem.W.instObj C dx)
 ns : h.Ns1 dx mA
 ne : dx ≠ x
theorem zhm (n : h.Ns1 dx mA) : ∃ od, h.get? dx = some od ∧ ∀ name, PySem.W.lookIn name od = some (mA name) := by
 obtain ⟨o, es, ep, ho, hd, hk, _, hm⟩ := n;refine ⟨o, ho, fun name => ?_⟩;have e := hm name;unfold nsFind findBy at e;rw [← Array.find?_toList] at e;unfold PySem.W.lookIn;rw [hd];dsimp only;split
 · rename_i y q
   rw [q] at e;exact congrArg some e
 · rename_i q
   rw [q] at e;have a : es.toList.any (·.refKey) = false := by
    rw [List.any_eq_false];intro y hy;obtain ⟨z, t, hkey⟩ := hk y (Array.mem_toList_iff.mp hy);simp [DictEntry.refKey, hkey]
   have a' : ¬ es.toList.any (·.refKey) = true := by rw [a]; exact c8
   rw [if_neg a'];exact congrArg some e
theorem ObjM.look {x : Addr} (I : ObjM h x dx C mA) : ∃ od, PySem.W.InstAt h x (PySem.W.instObj C dx) C (some od) ∧ ∀ name, PySem.W.lookIn name od = some (mA name) :=
 let ⟨od, ho, hl⟩ := zhm I.ns
 ⟨od, ⟨I.obj, rfl, rfl, ho⟩, hl⟩
section
variable {x : Addr} {v : Value}
end
theorem W5.some_of {o : Option Value} (r : W5 (some v) o) : ∃ u, o = some u ∧ yq v u := by
 cases o with
 | none => exact (show False from r).elim
 | some u => exact ⟨u, rfl, r⟩
section
variable {fs fs' : List (Str × V)}
theorem zm8 (hok : HOk P w H h) (e : H a = some (.ins C dx fs)) : ∃ mA, ObjM h a dx C mA ∧ (∀ f, W5 (fs.lookup f) (mA f)) ∧ PySem.Within mA (fs.map (·.1)) ∧ fs.length ≤ 1000 ∧ H dx = some (.own a) := by
 obtain ⟨d, z, ne, ob, mA, n, r, q⟩ := (show yw P w H h a (.ins C dx fs) from hok a _ e)
 exact ⟨mA, ⟨ob, n, ne⟩, r, q, z, d⟩
end
structure Cls (K : PySem.W.Frag) (C : Addr) : Prop where
 pg : PySem.W.plainGet K C Str.empty = true
 hd : PySem.W.hasDictIn K C = true
 po : PySem.W.plainOver K C = true
 sa : PySem.W.findIn K (.ref C) "__setattr__" = some (some (.builtin "object.__setattr__"))
theorem Cls.get (c : Cls K C) (f : Str) : PySem.W.plainGet K C f = true := c.pg
section
variable {fs : List (Str × V)} {f : Str}
end
section
variable {f : Str} {tpos : Pos} {tv : TE}
end
section
variable {c : Value} {b : Bool}
inductive TyOf (K : PySem.W.Frag) (H : Hp) : V → Value → Prop where
 | non : TyOf K H .non (.type "NoneType")
 | bl (x : Bool) : TyOf K H (.bl x) (.type "bool")
 | int (i : Int) : TyOf K H (.int i) (.type "int")
 | str (x : Str) : TyOf K H (.str x) (.type "str")
 | flt (x : UInt64) : TyOf K H (.flt x) (.type "float")
 | lst {a : Addr} {xs : List V} (e : H a = some (.lst xs)) : TyOf K H (.ref a) (.type "list")
 | frz {a : Addr} {o : Obj} {xs : List V} (e : H a = some (.frz o (.lst xs))) : TyOf K H (.ref a) (.type "list")
 | tup {a : Addr} {xs : List V} (e : H a = some (.tup xs)) : TyOf K H (.ref a) (.type "tuple")
 | dK {a : Addr} {kvs : List (Key × V)} (e : H a = some (.dK kvs)) : TyOf K H (.ref a) (.type "dict")
 | dT {a : Addr} {kvs : List (List Key × V)} (e : H a = some (.dT kvs)) : TyOf K H (.ref a) (.type "dict")
 | ins {a C dx : Addr} {fs : List (Str × V)} (e : H a = some (.ins C dx fs)) (cl : Cls K C) (ha : PySem.W.findIn K (.ref C) "__class__" = some (some (.builtin "object.__class__")))
  (hn : PySem.W.specialIn K (.builtin "object.__class__") "__get__" = some (some (.builtin "getset_descriptor.__get__"))) (htk : PySem.W.takesIn K (.builtin "object.__class__") = some true)
  (hm : PySem.W.mroIn K C (.type "object") = some true) : TyOf K H (.ref a) (.ref C)
theorem zht {x : V} {t : Value} (I : Inv X pins σ H s) (rx : yq x u) (ty : TyOf X.K H x t) (e : PySem.W.kitOne X.K t c = some b) (h : ∀ tk, Q (.bool b) { s with toks := tk }) :
  wpAny (model X.prog X.w) A (call (.builtin "isinstance") [u, c]) Q E s := by
 cases ty with
 | non => cases (show u = Value.none from rx); exact PySem.W.kia_one PySem.W.kitx_none I.kIn True.intro e (fun z => nomatch z) h
 | bl y => cases (show u = Value.bool y from rx); exact PySem.W.kia_one PySem.W.kitx_bool I.kIn True.intro e (fun z => nomatch z) h
 | int i => obtain ⟨t, q⟩ := (show ∃ t, u = Value.int i t from rx); cases q; exact PySem.W.kia_one PySem.W.kitx_int I.kIn True.intro e (fun z => nomatch z) h
 | str y => obtain ⟨t, q⟩ := (show ∃ t, u = Value.str y t from rx); cases q; exact PySem.W.kia_one PySem.W.kitx_str I.kIn True.intro e (fun z => nomatch z) h
 | flt y => obtain ⟨t, q⟩ := (show ∃ t, u = Value.float y t from rx); cases q; exact PySem.W.kia_one PySem.W.kitx_float I.kIn True.intro e (fun z => nomatch z) h
 | @lst a xs ea =>
   cases (show u = Value.ref a from rx);obtain ⟨_, _, n, _, h1⟩ := (show yw X.prog X.w H s.heap a (.lst xs) from I.hok a _ ea)
   exact PySem.W.kia_one PySem.W.kitx_list I.kIn ⟨_, h1, rfl⟩ e (fun z => nomatch z) h
 | @frz a ob xs ea =>
   cases (show u = Value.ref a from rx);obtain ⟨_, _, _, n, _, h1⟩ := (show yw X.prog X.w H s.heap a (.frz ob (.lst xs)) from I.hok a _ ea)
   exact PySem.W.kia_one PySem.W.kitx_list I.kIn ⟨_, h1, rfl⟩ e (fun z => nomatch z) h
 | @tup a xs ea =>
   cases (show u = Value.ref a from rx);obtain ⟨_, _, _, p⟩ := (show yw X.prog X.w H s.heap a (.tup xs) from I.hok a _ ea)
   obtain ⟨⟨o, h1, h2, _⟩, _⟩ := p;exact PySem.W.kia_one PySem.W.kitx_tuple I.kIn ⟨o, h1, h2⟩ e (fun z => nomatch z) h
 | @dK a kvs ea =>
   cases (show u = Value.ref a from rx);obtain ⟨_, _, vs, _, p⟩ := (show yw X.prog X.w H s.heap a (.dK kvs) from I.hok a _ ea)
   obtain ⟨o, es, ep, h1, h2, _⟩ := p;exact PySem.W.kia_one PySem.W.kitx_dict I.kIn ⟨o, h1, h2.1⟩ e (fun z => nomatch z) h
 | @dT a kvs ea =>
   cases (show u = Value.ref a from rx);obtain ⟨_, _, xs, _, o, es, ep, h1, h2, _⟩ := (show yw X.prog X.w H s.heap a (.dT kvs) from I.hok a _ ea)
   exact PySem.W.kia_one PySem.W.kitx_dict I.kIn ⟨o, h1, h2.1⟩ e (fun z => nomatch z) h
 | @ins a C dx fs ea cl ha hn htk hm =>
   cases (show u = Value.ref a from rx);obtain ⟨mA, O, _⟩ := zm8 I.hok ea;obtain ⟨od, J, _⟩ := O.look;exact PySem.W.kia_one (PySem.W.kitx_own (cl.get _) cl.hd ha hn htk hm) I.kIn J e (fun z => nomatch z) h
end
structure Room (k : Nat) (A : Around) : Prop where
 hd : A.handled = none
 dp : A.depth + 3 * k + 5 < recursionLimit
 un : A.units + 16 * k + 200 < cLine
theorem Room.mono {j k : Nat} (r : Room k A) (h : j ≤ k) : Room j A := ⟨r.hd, by have := r.dp; omega, by have := r.un; omega⟩
theorem Room.deeper {k : Nat} {A : Around} (r : Room (k + 1) A) (env : Env) : Room k (A.deeper env) :=
 ⟨r.hd, by have := r.dp; show A.depth + 1 + 3 * k + 5 < _; omega, by have := r.un; show A.units + 3 + 16 * k + 200 < _; omega⟩
theorem Room.depth {k : Nat} {A : Around} (r : Room k A) : A.depth < recursionLimit := by have := r.dp; omega
theorem Room.units {k : Nat} {A : Around} (r : Room k A) : A.units + 64 < cLine := by have := r.un; omega
theorem Room.units0 {k : Nat} (r : Room k A) : A.units < cLine := by have := r.un; omega
noncomputable def zea : TA := fun _ H Q => Q [] H
noncomputable def Yi (ta : TE) (tr : TA) : TA := fun σ H Q => ta σ H fun x H1 => tr σ H1 fun xs H2 => Q (x :: xs) H2
section
theorem zd : PA X [] zea := fun _ _ _ _ H Q I h => Calls.spliced_nil ⟨[], H, I, .nil, h⟩
theorem zc (ha : PE X e te) (hr : PA X es t) (hs : starEach (e :: es) X.env = (false, eval e X.env) :: starEach es X.env := by rfl) : PA X (e :: es) (Yi te t) := by
 intro pos pins s σ H Q I h;rw [hs];show wpAny _ _ (spliced ((false, eval e X.env) :: backTo pos (starEach es X.env))) _ _ s;refine Calls.spliced_cons (thn (ha pins s σ H _ I h) fun u s1 ⟨x, H1, I1, r1, q1⟩ => ?_);exact thn (hr pos pins s1 σ H1 _ I1 q1) fun us s2 ⟨xs, H2, I2, r2, q2⟩ => ⟨x :: xs, H2, I2, .cons r1 r2, q2⟩
noncomputable def zqe (t : TA) : TE := fun σ H Q => t σ H fun xs H1 => xs.length ≤ sizeLine ∧ ∀ p, H1 p = none → Q (.ref p) (upd H1 p (.tup xs))
noncomputable def zl5 (t : TA) : TE := fun σ H Q => t σ H fun xs H1 => xs.length ≤ sizeLine ∧ ∀ p, H1 p = none → Q (.ref p) (upd H1 p (.lst xs))
theorem xu {x1} (h : PA X es t) : PE X (.Tuple es x1 pos) (zqe t) := by
 intro pins s σ H Q I hq;refine wpAny_Tuple_spliced (thn (h pos pins s σ H _ I hq) fun us s1 ⟨xs, H1, I1, r, z, q⟩ => ⟨by rw [← r.length]; exact z, ?_⟩);have hf : H1 s1.heap.objs.size = none := I1.hok.fresh (ai _);refine ⟨.ref s1.heap.objs.size, upd H1 s1.heap.objs.size (.tup xs), I1.laid (t' := s1.toks) (fun b u e => ap _ e) (ai _) ?_, rfl, q _ hf⟩;exact ⟨z, us, r, ⟨_, bv _ rfl, rfl, _, rfl⟩, NoD.push⟩
theorem yr (h : PA X es t) : PE X (.List es pos) (zl5 t) := by
 intro pins s σ H Q I hq;refine wpAny_List_spliced (thn (h pos pins s σ H _ I hq) fun us s1 ⟨xs, H1, I1, r, z, q⟩ => ⟨by rw [← r.length]; exact z, ?_⟩);have hf : H1 s1.heap.objs.size = none := I1.hok.fresh (ai _);refine ⟨.ref s1.heap.objs.size, upd H1 s1.heap.objs.size (.lst xs), I1.laid (t' := s1.toks) (fun b u e => ap _ e) (ai _) ?_, rfl, q _ hf⟩;exact ⟨z, us, 0, r, bv _ rfl⟩
end
abbrev Sp := List V → Hp → VK → XK → Prop
abbrev CXT := List Env → Hp → Shared → XK → Value → Shared → Prop
structure Env0 (P : Program) (w : World) (K : PySem.W.Frag) (mg : Str → Option Value) (base : Heap) (A : Around) (outer : List Env) (s : Shared) (H : Hp) : Prop where
 frames : A.frames = some outer
 mod : Mod K mg base
 bs : ∀ b o, base.get? b = some o → s.heap.get? b = some o ∧ H b = none
 bsz : base.objs.size ≤ s.heap.objs.size
 funs : s.heap.FunFrames base outer
 frf : ∀ b ∈ frs outer, H b = none
 hok : HOk P w H s.heap
 bare : AllBare s.gens
noncomputable def CE (outer : List Env) (P : Program) (w : World) (H : Hp) (s : Shared) (Q : VK) (u : Value) (s' : Shared) : Prop :=
 ∃ v H', s'.os = s.os ∧ AllBare s'.gens ∧ Un (frs outer) [] H H' s.heap s'.heap ∧ HOk P w H' s'.heap ∧ yq v u ∧ Q v H'
noncomputable def CR (CX : CXT) (outer : List Env) (P : Program) (w : World) (H : Hp) (s : Shared) (Q : VK) (E : XK) (r : Result) (s' : Shared) : Prop :=
 match r with
 | .ok (.ret u) => CE outer P w H s Q u s'
 | .ok _ => False
 | .error e => CX outer H s E e s'
structure FnOk (P : Program) (w : World) (K : PySem.W.Frag) (mg : Str → Option Value) (base : Heap) (CX : CXT) (k : Nat) (f : Addr) (fd : FuncData) (ps : List Str) (sp : Sp) : Prop where
 len : ∀ vs H Q E, sp vs H Q E → vs.length = ps.length
 run : ∀ (A : Around) (outer : List Env) (s : Shared) (H : Hp) (args : Args) (us : List Value) (vs : List V) (Q : VK) (E : XK), Room k A → Env0 P w K mg base A outer s H → BindsTo s fd args (ps.zip us) → yn vs us → sp vs H Q E →
  codeAny (model P w) A (.call (.ref f) args) (CR CX outer P w H s Q E) s
section
variable {s' : Shared}
theorem Inv.env0 (I : Inv X pins σ H s) : Env0 X.prog X.w X.K X.mg X.base X.A X.stack s H :=
 ⟨I.ok.frames, I.ok.mod, I.bs, bp I.ok.bsz I.sz, I.stack, I.stkFree, I.hok, I.bare⟩
theorem Inv.after {Q : VK} (I : Inv X pins σ H s) (h : CE X.stack X.prog X.w H s Q u s') : EP X pins σ Q u s' := by
 obtain ⟨v, H', os, bare, un, hok, r, q⟩ := h;obtain ⟨hh, g, d, t, os'⟩ := s';obtain rfl : os' = s.os := os;exact ⟨v, H', I.call (h' := hh) (g' := g) (d' := d) (t' := t) (ch := []) un hok bare (fun b z => absurd z (by simp)), r, q⟩
end
noncomputable def zi0 (sp : Sp) (dvs : List V) (E : XK) (t : TA) : TE := fun σ H Q => t σ H fun vs H1 => sp (vs ++ dvs) H1 Q E
noncomputable def J2 (K : PySem.W.Frag) (fd : FuncData) (ps : List Str) (ds : List Value) : Prop :=
 ∀ (s : Shared) (us : List Value), K.In s.heap → (us ++ ds).length = ps.length → BindsTo s fd ⟨us, []⟩ (ps.zip (us ++ ds))
theorem J2.all (h : ∀ us : List Value, us.length = ps.length → bindArgs fd ⟨us, []⟩ = pure (ps.zip us)) : J2 K fd ps [] := fun s us _ hl => by
 rw [List.append_nil] at hl ⊢;exact .of_eq (h us hl)
noncomputable def X1 (CX : CXT) (X : Cx) (E : XK) : Prop := ∀ (pins : List (Addr × Obj)) (σ : St) (H : Hp) (s : Shared) (e : Value) (s' : Shared), Inv X pins σ H s → CX X.stack H s E e s' → X.xe e s'
section
variable {CX : CXT} {k : Nat} {sp : Sp} {dvs : List V} {E : XK} {m : Str}
theorem zoq {Q : VK} (F : FnOk X.prog X.w X.K X.mg X.base CX k f fd ps sp) (hr : Room k X.A) (hb : J2 X.K fd ps ds) (hd : yn dvs ds) (hx : X1 CX X E)
  (I : Inv X pins σ H s) (r : yn vs us) (h : sp (vs ++ dvs) H Q E) : wpAny (model X.prog X.w) X.A (call (.ref f) us) (EP X pins σ Q) X.xe s := by
 have r2 : yn (vs ++ dvs) (us ++ ds) := r.append hd;have hl : (us ++ ds).length = ps.length := by rw [← r2.length]; exact F.len _ _ _ _ h
 refine wpAny_call (codeAny_mono (F.run X.A X.stack s H ⟨us, []⟩ (us ++ ds) (vs ++ dvs) Q E hr I.env0 (hb s us I.kIn hl) r2 h) fun r s' hq => ?_);cases r with
 | error e => exact hx pins σ H s e s' I hq
 | ok fl =>
   cases fl with
   | ret u => exact I.after hq
   | next => exact False.elim hq
   | brk => exact False.elim hq
   | cont => exact False.elim hq
theorem zfx (F : FnOk X.prog X.w X.K X.mg X.base CX k f fd ps sp) (hr : Room k X.A) (hg : Gl X x) (hm : X.mg x = some (.ref f)) (hk : PySem.W.keepIn X.K (.ref f) = true) (hb : J2 X.K fd ps ds) (hd : yn dvs ds) (hx : X1 CX X E)
  (ha : PA X (e :: es) t) (hdb : (x == ("__debug__" : Str)) = false := by decide) (he : starEach (e :: es) X.env = (false, eval e X.env) :: starEach es X.env := by rfl) (hpl : (backTo pos (starEach es X.env)).any (·.1) = false := by rfl) :
  PE X (.Call (.Name x p) (e :: es) [] pos) (zi0 sp dvs E t) := by
 intro pins s σ H Q I h;refine wpAny_Call_Name_kw (Qi I hg hm ?_ hdb);refine PySem.W.callWith_K (h₀ := X.base) I.ok.mod.kin hk (thn (ha pos pins s σ H _ I h) fun us s1 ⟨vs, H1, I1, r, q⟩ => ⟨I1.kIn, ?_⟩) he hpl;exact zoq F hr hb hd hx I1 r q
end
section
variable {CX : CXT} {k : Nat} {ks : List Str} {sp : Sp} {E : XK} {m : Str} {kpos : Pos} {kws : List Keyword} {tk : TA} {nm : Option Str}
variable {g : List Value → List Value → List Value} {gV : List V → List V → List V}
end
structure FnScope (N P : List Str) (sc : Scope) : Prop where
 kind : sc.kind = .function
 co : sc.isCoroutine = false
 gen : sc.isGenerator = false
 nd : N.Nodup
 pre : N.take P.length = P
 par : ∀ x ∈ P, sc.names.lookup x = some .local ∨ sc.names.lookup x = some .cell
 nofree : ∀ y ∈ sc.names, y.2 ≠ .free
theorem FnScope.of {P : List Str} (h1 : sc.kind = .function := by rfl) (h2 : sc.isCoroutine = false := by rfl) (h3 : sc.isGenerator = false := by rfl) (h4 : N.Nodup := by decide +kernel) (h5 : N.take P.length = P := by rfl) (h6 : ∀ x ∈ P, sc.names.lookup x = some .local ∨ sc.names.lookup x = some .cell := by decide +kernel) (h7 : ∀ y ∈ sc.names, y.2 ≠ .free := by decide +kernel) : FnScope N P sc := ⟨h1, h2, h3, h4, h5, h6, h7⟩
theorem zac {kindOf : Str → Option NameKind} {x : Str} : ∀ {binds : List (Str × Value)} {m : Str → Option Value}, (∀ v, (x, v) ∉ binds) → bindL kindOf binds m x = m x
 | [], _, _ => rfl
 | (n, v) :: r, m, h => by
   unfold bindL;rw [zac fun w hw => h w (aq _ hw)];split
   · have : x ≠ n := by rintro rfl; exact h v ao
     simp [this]
   · rfl
theorem zae {kindOf : Str → Option NameKind} {x : Str} : ∀ {binds : List (Str × Value)} {m : Str → Option Value}, (∀ v, (x, v) ∉ binds) → bindC kindOf binds m x = m x
 | [], _, _ => rfl
 | (n, v) :: r, m, h => by
   unfold bindC;rw [zae fun w hw => h w (aq _ hw)];split
   · rfl
   · have : x ≠ n := by rintro rfl; exact h v ao
     simp [this]
theorem zad {kindOf : Str → Option NameKind} {x : Str} {v : Value} : ∀ {P : List Str} {vs : List Value} {i : Nat} {m : Str → Option Value}, P.Nodup → P[i]? = some x → vs[i]? = some v → kindOf x = some .local →
  bindL kindOf (P.zip vs) m x = some v
 | [], _, _, _, _, h, _, _ => by simp at h
 | _ :: _, [], _, _, _, _, h, _ => by simp at h
 | p :: P, w :: vs, 0, m, nd, h1, h2, hk => by
   simp at h1 h2; subst h1; subst h2;show bindL kindOf ((p, w) :: P.zip vs) m p = _;unfold bindL;rw [zac fun v hv => (cr.mp nd).1 (List.of_mem_zip hv).1, if_pos hk];simp
 | p :: P, w :: vs, i + 1, m, nd, h1, h2, hk => by
   show bindL kindOf ((p, w) :: P.zip vs) m x = _;unfold bindL;exact zad (i := i) (cr.mp nd).2 (by simpa using h1) (by simpa using h2) hk
theorem zaf {kindOf : Str → Option NameKind} {x : Str} {v : Value} : ∀ {P : List Str} {vs : List Value} {i : Nat} {m : Str → Option Value}, P.Nodup → P[i]? = some x → vs[i]? = some v → kindOf x ≠ some .local →
  bindC kindOf (P.zip vs) m x = some v
 | [], _, _, _, _, h, _, _ => by simp at h
 | _ :: _, [], _, _, _, _, h, _ => by simp at h
 | p :: P, w :: vs, 0, m, nd, h1, h2, hk => by
   simp at h1 h2; subst h1; subst h2;show bindC kindOf ((p, w) :: P.zip vs) m p = _;unfold bindC;rw [zae fun v hv => (cr.mp nd).1 (List.of_mem_zip hv).1, if_neg hk];simp
 | p :: P, w :: vs, i + 1, m, nd, h1, h2, hk => by
   show bindC kindOf ((p, w) :: P.zip vs) m x = _;unfold bindC;exact zaf (i := i) (cr.mp nd).2 (by simpa using h1) (by simpa using h2) hk
noncomputable def start (N : List Str) (vs : List V) : St := vs.map some ++ List.replicate (N.length - vs.length) none
noncomputable def vn (CX : CXT) (P : Program) (w : World) (K : PySem.W.Frag) (mg : Str → Option Value) (base : Heap) (N : List Str) (qual : Str) (scope : Scope) (f : Addr) (cd : Value) (A : Around) (outer : List Env) (s : Shared) (H : Hp) (E : XK) : Cx where
 prog := P
 w := w
 K := K
 mg := mg
 base := base
 A := A.deeper (envOfC qual scope s.heap.objs.size f cd)
 N := N
 s₀ := s
 H₀ := H
 env := envOfC qual scope s.heap.objs.size f cd
 outer := outer
 stack := envOfC qual scope s.heap.objs.size f cd :: outer
 ex := []
 calm := true
 fn := fun _ => true
 pn := []
 xe := fun e s' => wpAny (model P w) (A.deeper (envOfC qual scope s.heap.objs.size f cd)) (leaving (envOfC qual scope s.heap.objs.size f cd) e) (fun _ s'' => CX outer H s E e s'') (fun e' s'' => CX outer H s E e' s'') s'
theorem zdv (h : sc.names.lookup x = some .cell) : ∃ c, (cellsFrom n sc.names []).lookup x = some c := by
 have q := PySem.W.cellsFrom_some sc.names n [] (.inl h);exact Option.isSome_iff_exists.mp q
theorem zhu {CX : CXT} {cd : Value} {outer : List Env} {s1 : Shared} {E : XK}
  (S : FnScope N ps scope) (hd : A.handled = none) (e0 : Env0 P w K mg base A outer s H) (hl : vs.length = ps.length) (r : yn vs us)
  (x : InCallC s s.heap.objs.size (bindL (envOfC qual scope s.heap.objs.size f cd).kindOf (ps.zip us) fun _ => none) (cellsFrom (s.heap.objs.size + 1) scope.names []) (bindC (envOfC qual scope s.heap.objs.size f cd).kindOf (ps.zip us) fun _ => none) s1) :
  Inv (vn CX P w K mg base N qual scope f cd A outer s H E) [] (start N vs) H s1 := by
 have hpl : ps.length ≤ N.length := by have := congrArg List.length S.pre; rw [cg] at this; omega
 obtain ⟨h1, tk, rfl, hk⟩ := x.done;have noA : ∀ b : Addr, b ∉ (vn CX P w K mg base N qual scope f cd A outer s H E).ex := fun b z => absurd (show b ∈ ([] : List Addr) from z) (by simp);refine ⟨⟨e0.mod, S.kind, rfl, rfl, ai _, fun y z c h1 h2 => ?_, fun y hy => ?_, fun y c _ h => ?_, fun _ => hd, Around.frames_deeper e0.frames, .inr ⟨rfl, rfl⟩, fun b z => absurd z (noA b), e0.bs, e0.bsz, fun b _ _ => noA b, fun b z => absurd z (noA b), e0.funs, e0.frf⟩,
  rfl, e0.bare, Un.kept hk, ⟨_, x.toInCall.ns, fun i y v h1 h2 h3 => ?_⟩, fun y c h => ⟨_, x.cell y c h⟩, e0.hok.fresh (ai _), fun y c h => ?_, fun p hp => absurd (show p ∈ ([] : List (Addr × Obj)) from hp) (by simp), e0.hok.kept hk, ?_⟩
 · exact name_of_addr x.apart (PySem.mem_of_lookup h1) (PySem.mem_of_lookup h2)
 · have hy : scope.names.lookup y = some .cell ∨ scope.names.lookup y = some .free := hy;rcases hy with hy | hy
   · exact zdv hy
   · exact absurd rfl (S.nofree _ (PySem.mem_of_lookup hy))
 · exact Nat.le_of_lt (x.above y c (PySem.mem_of_lookup h))
 · have hi : i < vs.length := by
    unfold start at h2;by_cases hi : i < vs.length
    · exact hi
    · rw [List.getElem?_append_right (by simpa using hi)] at h2;rw [List.getElem?_replicate] at h2;split at h2 <;> cases h2
   have ha : vs[i]? = some v := by
    unfold start at h2;rw [d0 (by simpa using hi), ay] at h2;cases e : vs[i]? with
    | none => rw [e] at h2; cases h2
    | some a => rw [e] at h2; cases h2; rfl
   obtain ⟨u, hu, rv⟩ := r.get ha;have hp : ps[i]? = some y := by
    rw [← S.pre, List.getElem?_take_of_lt (by omega)]; exact h1
   have ndP : ps.Nodup := by rw [← S.pre]; exact S.nd.sublist (List.take_sublist _ _)
   refine ⟨u, rv, ?_⟩;rcases S.par y (bz hp) with k | k
   · exact .inl ⟨k, zad ndP hp hu k⟩
   · obtain ⟨c, e⟩ := zdv (n := s.heap.objs.size + 1) k;refine .inr ⟨.inl k, c, e, ?_⟩;have q := x.cell y c e;rw [zaf ndP hp hu (by show scope.names.lookup y ≠ _; rw [k]; decide)] at q;exact q
 · exact e0.hok.fresh (Nat.le_of_lt (x.above y c (PySem.mem_of_lookup h)))
 · unfold start;show _ = N.length;rw [ar, ae, List.length_replicate];omega
theorem znz {CX : CXT} {k : Nat} {params : Arguments} {dV kV doc pm cdv ct oc : Value} {an od : Option Addr}
  {sp : Sp} (lk : K.lookup f = some ⟨oc, od, .func (PySem.W.fnOf name qual params body scope dV kV doc pm an cdv ct), osl⟩) (hcd : PySem.W.codeIn K cdv qual = true) (S : FnScope N ps scope)
  (len : ∀ vs H Q E, sp vs H Q E → vs.length = ps.length)
  (hbody : ∀ (A : Around) (outer : List Env) (s : Shared) (H : Hp) (vs : List V) (Q : VK) (E : XK), Room k (A.deeper (envOfC qual scope s.heap.objs.size f cdv)) → sp vs H Q E →
   ∃ t, PSs (vn CX P w K mg base N qual scope f cdv A outer s H E) body t ∧ t { nx := fun _ H' => Q .non H', rt := Q } (start N vs) H) :
  FnOk P w K mg base CX (k + 1) f (PySem.W.fnOf name qual params body scope dV kV doc pm an cdv ct) ps sp := by
 refine ⟨len, fun A outer s H args us vs Q E hr e0 hb r hsp => ?_⟩;have hl := len _ _ _ _ hsp;have KX : K.In s.heap := e0.mod.kin.keeps fun b o e => (e0.bs b o e).1;have lim : s.heap.NoLimit := e0.mod.nolimit.keeps fun b o e => (e0.bs b o e).1;have hkind : ∀ y ∈ ps.zip us, scope.names.lookup y.1 = some .local ∨ (scope.names.lookup y.1 = some .cell ∧ ((cellsFrom (s.heap.objs.size + 1) scope.names []).lookup y.1).isSome = true) := fun ⟨n, v⟩ hy => by
  rcases S.par n (List.of_mem_zip hy).1 with q | q
  · exact .inl q
  · exact .inr ⟨q, PySem.W.cellsFrom_some _ _ _ (.inl q)⟩
 refine codeAny_call_function hr.depth (KX _ _ lk) rfl S.co S.gen rfl (PySem.W.codeRec_of KX hcd) (hb _ _ _ _ ?_);refine wpAny_newFunctionEnv_cells S.kind hkind fun env he s1 x => ?_;subst he;refine ⟨lim.keeps x.toInCall.keep, codeAny_func ?_⟩;obtain ⟨t, ht, hq⟩ := hbody A outer s H vs Q E (hr.deeper _) hsp;have I : Inv (vn CX P w K mg base N qual scope f cdv A outer s H E) [] (start N vs) H s1 := zhu S hr.hd e0 hl r x;refine cn (ht [] s1 (start N vs) H _ I hq) (fun fl s' hs => ?_) fun e s' hs => hs;have fin : ∀ {σ' : St} {H' : Hp} {v : V} {u : Value}, Inv (vn CX P w K mg base N qual scope f cdv A outer s H E) [] σ' H' s' → yq v u → Q v H' → CE outer P w H s Q u s' :=
  fun {σ' H' v u} J rv q => ⟨v, H', J.os, J.bare, J.base, J.hok, rv, q⟩
 cases fl with
 | ret u =>
   obtain ⟨v, σ', H', J, rv, q⟩ := hs;exact fin J rv q
 | next =>
   obtain ⟨σ', H', J, q⟩ := hs;exact fin (v := V.non) (u := Value.none) J rfl q
 | brk =>
   obtain ⟨_, _, _, q⟩ := hs;exact False.elim q
 | cont =>
   obtain ⟨_, _, _, q⟩ := hs;exact False.elim q
section
variable {T : String} {r : List V → Hp → VK → Prop}
noncomputable def tCB (r : List V → Hp → VK → Prop) (t : TA) : TE := fun σ H Q => t σ H fun vs H1 => r vs H1 Q
theorem yf (hc : Zu X (.builtin id) r) (hg : Gl X x) (hm : X.mg x = none) (hv : bootBuiltins x = some (.builtin id)) (ha : PA X (e :: es) t) (hn : x ≠ "__name__" := by decide) (hdb : (x == ("__debug__" : Str)) = false := by decide)
  (he : starEach (e :: es) X.env = (false, eval e X.env) :: starEach es X.env := by rfl) (hpl : (backTo pos (starEach es X.env)).any (·.1) = false := by rfl) : PE X (.Call (.Name x p) (e :: es) [] pos) (tCB r t) := by
 intro pins s σ H Q I h;refine wpAny_Call_Name_kw (Yt I hg hm hv ?_ hn hdb);exact PyProof.Rows.callWith_builtin1 (thn (ha pos pins s σ H _ I h) fun us s1 ⟨vs, H1, I1, r1, q1⟩ => hc pins s1 σ H1 vs us Q I1 r1 q1) he hpl
theorem yo (hc : Zu X (.type T) r) (hg : Gl X x) (hm : X.mg x = none) (hv : bootBuiltins x = some (.type T)) (ha : PA X (e :: es) t) (hn : x ≠ "__name__" := by decide) (hdb : (x == ("__debug__" : Str)) = false := by decide)
  (he : starEach (e :: es) X.env = (false, eval e X.env) :: starEach es X.env := by rfl) (hpl : (backTo pos (starEach es X.env)).any (·.1) = false := by rfl) : PE X (.Call (.Name x p) (e :: es) [] pos) (tCB r t) := by
 intro pins s σ H Q I h;refine wpAny_Call_Name_kw (Yt I hg hm hv ?_ hn hdb);exact PyProof.Rows.callWith_type1 (thn (ha pos pins s σ H _ I h) fun us s1 ⟨vs, H1, I1, r1, q1⟩ => hc pins s1 σ H1 vs us Q I1 r1 q1) he hpl
end
section
variable {κ : Type} [DecidableEq κ]
noncomputable def xz (kvs : List (κ × V)) (k : κ) : Option V := (kvs.find? fun kv => decide (kv.1 = k)).map (·.2)
noncomputable def ku (kvs : List (κ × V)) (k : κ) (v : V) : List (κ × V) :=
 if (kvs.any fun kv => decide (kv.1 = k)) = true then kvs.map (fun kv => if kv.1 = k then (kv.1, v) else kv) else kvs ++ [(k, v)]
noncomputable def Wy (kvs : List (κ × V)) (k : κ) : List (κ × V) := kvs.filter fun kv => decide (kv.1 ≠ k)
theorem wu {p : κ × V} {r : List (κ × V)} {k : κ} (e : p.1 = k) : xz (p :: r) k = some p.2 := by simp [xz, List.find?_cons, e]
theorem wv {p : κ × V} {r : List (κ × V)} {k : κ} (e : ¬ p.1 = k) : xz (p :: r) k = xz r k := by simp [xz, List.find?_cons, e]
theorem Zi (k : κ) : ∀ kvs : List (κ × V), (kvs.any fun kv => decide (kv.1 = k)) = (xz kvs k).isSome
 | [] => rfl
 | p :: r => by
   rw [List.any_cons];by_cases e : p.1 = k
   · simp only [wu e, au e, Bool.true_or, Option.isSome_some]
   · rw [wv e, bn e, Bool.false_or]; exact Zi k r
theorem zbx (k j : κ) (y : V) : ∀ kvs : List (κ × V), xz (kvs.map fun kv => if kv.1 = k then (kv.1, y) else kv) j = (xz kvs j).map fun x => if j = k then y else x
 | [] => rfl
 | p :: r => by
   have ih := zbx k j y r;rw [bh];by_cases h : p.1 = k
   · rw [if_pos h];by_cases e : p.1 = j
     · rw [wu (p := (p.1, y)) e, wu e, Option.map_some, if_pos (e.symm.trans h)]
     · rw [wv (p := (p.1, y)) e, wv e, ih]
   · rw [if_neg h];by_cases e : p.1 = j
     · rw [wu (p := p) e, wu e, Option.map_some, if_neg (fun z => h (e.trans z))]
     · rw [wv (p := p) e, wv e, ih]
theorem Kh (k j : κ) (y : V) : ∀ kvs : List (κ × V), xz kvs k = none → xz (kvs ++ [(k, y)]) j = if j = k then some y else xz kvs j
 | [], _ => by
   by_cases e : k = j
   · rw [if_pos e.symm]; exact wu (p := (k, y)) e
   · rw [if_neg (fun z => e z.symm)]; exact wv (p := (k, y)) e
 | p :: r, hn => by
   rw [List.cons_append];have hk : ¬ p.1 = k := fun z => by rw [wu z] at hn; cases hn
   rw [wv hk] at hn;have ih := Kh k j y r hn;by_cases e : p.1 = j
   · rw [wu e, wu e, if_neg (fun z => hk (e.trans z))]
   · rw [wv e, wv e, ih]
theorem ziq (kvs : List (κ × V)) (k j : κ) (y : V) : xz (ku kvs k y) j = if j = k then some y else xz kvs j := by
 unfold ku;by_cases a : (kvs.any fun kv => decide (kv.1 = k)) = true
 · rw [if_pos a, zbx];rw [Zi] at a;by_cases e : j = k
   · obtain ⟨x, hx⟩ := Option.isSome_iff_exists.mp a;rw [if_pos e, e, hx, Option.map_some, if_pos rfl]
   · rw [if_neg e];cases xz kvs j with
     | none => rfl
     | some x => rw [Option.map_some, if_neg e]
 · rw [if_neg a];refine Kh k j y kvs ?_;rw [Zi] at a;cases q : xz kvs k with
   | none => rfl
   | some x => rw [q] at a; exact (a rfl).elim
theorem Zf (kvs : List (κ × V)) (k : κ) (v : V) : (ku kvs k v).length ≤ kvs.length + 1 := by
 unfold ku;split
 · rw [ae]; omega
 · rw [ar, bi, List.length_nil]; omega
theorem zjo {kvs : List (κ × V)} {k : κ} (v : V) (h : xz kvs k = none) : ku kvs k v = kvs ++ [(k, v)] := by
 unfold ku;rw [Zi, h];exact if_neg (by decide)
theorem W5.isSome_eq {o : Option V} {u : Option Value} (r : W5 o u) : o.isSome = u.isSome := by
 cases o with
 | none => cases u with
   | none => rfl
   | some _ => exact (show False from r).elim
 | some _ => cases u with
   | none => exact (show False from r).elim
   | some _ => rfl
theorem W5.getD {o : Option V} {u : Option Value} {d : V} {d' : Value} (r : W5 o u) (rd : yq d d') : yq (o.getD d) (u.getD d') := by
 cases o with
 | none => cases u with
   | none => exact rd
   | some _ => exact (show False from r).elim
 | some _ => cases u with
   | none => exact (show False from r).elim
   | some _ => exact r
theorem KV.val {kvs : List (κ × V)} {vs : List (κ × Value)} (r : KV kvs vs) (k : κ) : W5 (xz kvs k) (valueAt vs k) := by
 unfold KV at r;induction r with
 | nil => exact True.intro
 | @cons p q ps qs h t ih =>
   obtain ⟨h1, h2⟩ := h;by_cases e : p.1 = k
   · have e' : q.1 = k := h1.symm.trans e;have b : valueAt (q :: qs) k = some q.2 := by simp [valueAt, List.find?_cons, e']
     rw [wu e, b]; exact h2
   · have e' : ¬ q.1 = k := fun z => e (h1.trans z);have b : valueAt (q :: qs) k = valueAt qs k := by simp [valueAt, List.find?_cons, e']
     rw [wv e, b]; exact ih
theorem KV.any {kvs : List (κ × V)} {vs : List (κ × Value)} (r : KV kvs vs) (k : κ) : (kvs.any fun kv => decide (kv.1 = k)) = vs.any fun kv => decide (kv.1 = k) := by
 unfold KV at r;induction r with
 | nil => rfl
 | cons h t ih => rw [List.any_cons, List.any_cons, ih, h.1]
theorem KV.repl {kvs : List (κ × V)} {vs : List (κ × Value)} (r : KV kvs vs) (k : κ) (ry : yq y u) :
  KV (kvs.map fun kv => if kv.1 = k then (kv.1, y) else kv) (vs.map fun kv => if kv.1 = k then (kv.1, u) else kv) := by
 unfold KV at r ⊢;induction r with
 | nil => exact .nil
 | @cons p q ps qs h t ih =>
   rw [bh, bh];refine .cons ?_ ih;obtain ⟨h1, h2⟩ := h;by_cases e : p.1 = k
   · rw [if_pos e, if_pos (h1.symm.trans e)]; exact ⟨h1, ry⟩
   · rw [if_neg e, if_neg (fun z => e (h1.trans z))]; exact ⟨h1, h2⟩
theorem KV.put {kvs : List (κ × V)} {vs : List (κ × Value)} (r : KV kvs vs) (k : κ) (ry : yq y u) : KV (ku kvs k y) (stored vs k u) := by
 unfold ku stored;rw [r.any k];by_cases e : (vs.any fun kv => decide (kv.1 = k)) = true
 · rw [if_pos e, if_pos e]; exact r.repl k ry
 · rw [if_neg e, if_neg e]; exact Paired.snoc r ⟨rfl, ry⟩
theorem KV.drop {kvs : List (κ × V)} {vs : List (κ × Value)} (r : KV kvs vs) (k : κ) : KV (Wy kvs k) (without vs k) := by
 unfold KV at r ⊢;unfold Wy without;induction r with
 | nil => exact .nil
 | @cons p q ps qs h t ih =>
   obtain ⟨h1, h2⟩ := h;rw [List.filter_cons, List.filter_cons];by_cases e : p.1 = k
   · have a : ¬ decide (p.1 ≠ k) = true := by simp [e]
     have b : ¬ decide (q.1 ≠ k) = true := by simp [h1.symm.trans e]
     rw [if_neg a, if_neg b]; exact ih
   · have e' : ¬ q.1 = k := fun z => e (h1.trans z);have a : decide (p.1 ≠ k) = true := by simp [e]
     have b : decide (q.1 ≠ k) = true := by simp [e']
     rw [if_pos a, if_pos b]; exact .cons ⟨h1, h2⟩ ih
theorem KV.keys {kvs : List (κ × V)} {vs : List (κ × Value)} (r : KV kvs vs) : kvs.map (·.1) = vs.map (·.1) := by
 unfold KV at r;induction r with
 | nil => rfl
 | cons h t ih => rw [bh, bh, ih, h.1]
theorem KV.length {kvs : List (κ × V)} {vs : List (κ × Value)} (r : KV kvs vs) : kvs.length = vs.length := Paired.length r
theorem zk6 (kvs : List (κ × V)) (k : κ) : (Wy kvs k).length ≤ kvs.length := List.length_filter_le _ _
end
theorem Wu {k : Key} (r : yq (kV k) u) : (yj P w).is k u = true := by
 cases k with
 | inl i => obtain ⟨t, e⟩ := (show ∃ t, u = Value.int i t from r); subst e; exact zcx P w i t
 | inr x => obtain ⟨t, e⟩ := (show ∃ t, u = Value.str x t from r); subst e; exact zcw P w x t
theorem Kx {P : Program} {w : World} : ∀ {ks : List Key} {us : List Value}, yn (ks.map kV) us → ItemsAre (yj P w) ks us
 | [], _, r => by rw [List.map_nil] at r; cases r; exact .nil
 | k :: ks, _, r => by
   rw [bh] at r;cases r with
   | cons h t => exact .cons (Wu h) (Kx t)
abbrev KT (H : Hp) : List (List Key × V) → List (List Key × Addr × Value) → Prop := Paired fun p q => p.1 = q.1 ∧ H q.2.1 = some (.tup (p.1.map kV)) ∧ yq p.2 q.2.2
theorem KT.val {kvs : List (List Key × V)} {xs : List (List Key × Addr × Value)} (r : KT H kvs xs) (k : List Key) : W5 (xz kvs k) ((atKey xs k).map (·.2)) := by
 induction r with
 | nil => exact True.intro
 | @cons p q ps qs h t ih =>
   obtain ⟨h1, _, h2⟩ := h;by_cases e : p.1 = k
   · have e' : q.1 = k := h1.symm.trans e;have b : atKey (q :: qs) k = some q.2 := by simp [atKey, List.find?_cons, e']
     rw [wu e, b]; exact h2
   · have e' : ¬ q.1 = k := fun z => e (h1.trans z);have b : atKey (q :: qs) k = atKey qs k := by simp [atKey, List.find?_cons, e']
     rw [wv e, b]; exact ih
theorem KT.repl {kvs : List (List Key × V)} {xs : List (List Key × Addr × Value)} (r : KT H kvs xs) (k : List Key) (ry : yq y u) :
  KT H (kvs.map fun kv => if kv.1 = k then (kv.1, y) else kv) (xs.map (putAt k u)) := by
 induction r with
 | nil => exact .nil
 | @cons p q ps qs h t ih =>
   rw [bh, bh];refine .cons ?_ ih;obtain ⟨h1, h2, h3⟩ := h;unfold putAt;by_cases e : p.1 = k
   · rw [if_pos e, if_pos (h1.symm.trans e)]; exact ⟨h1, h2, ry⟩
   · rw [if_neg e, if_neg (fun z => e (h1.trans z))]; exact ⟨h1, h2, h3⟩
theorem KT.put {kvs : List (List Key × V)} {xs : List (List Key × Addr × Value)} (r : KT H kvs xs) (k : List Key) (hb : H b = some (.tup (k.map kV))) (ry : yq y u) :
  KT H (ku kvs k y) (storedH xs k b u) := by
 have e : (kvs.any fun kv => decide (kv.1 = k)) = (atKey xs k).isSome := by
  rw [Zi, (r.val k).isSome_eq, Option.isSome_map]
 unfold ku storedH;rw [e];by_cases q : (atKey xs k).isSome = true
 · rw [if_pos q, if_pos q]; exact r.repl k ry
 · rw [if_neg q, if_neg q]; exact Paired.snoc r ⟨rfl, hb, ry⟩
theorem KT.keeps {kvs : List (List Key × V)} {xs : List (List Key × Addr × Value)} (r : KT H kvs xs) (ht : ∀ b ys, H b = some (.tup ys) → H' b = some (.tup ys)) : KT H' kvs xs :=
 Paired.mapP r fun _ _ z => ⟨z.1, ht _ _ z.2.1, z.2.2⟩
section
theorem znu {u : HO} (ok : HOk P w H h) (e : Rd H a u) : yw P w H h a u := e.ok ok
theorem V2 (ok : HOk P w H h) (e : Rd H a (.dK kvs)) : kvs.length ≤ sizeLine ∧ (a == sysModules) = false ∧ ∃ vs, KV kvs vs ∧ h.DictOf (yj P w) a vs :=
 show yw P w H h a (.dK kvs) from znu ok e
theorem zk7 (ok : HOk P w H h) (e : H a = some (.dK kvs)) : kvs.length ≤ sizeLine ∧ (a == sysModules) = false ∧ ∃ vs, KV kvs vs ∧ h.DictOf (yj P w) a vs := V2 ok (.inl e)
theorem Vn (ok : HOk P w H h) (e : H a = some (.tup (ks.map kV))) : (tupleKind (yj P w)).is h ks a := by
 obtain ⟨_, its, r, ⟨o, h1, h2, n, h3⟩, _⟩ := (show yw P w H h a (.tup (ks.map kV)) from ok a _ e)
 exact ⟨o, its.toArray, n, h1, h2, h3, by simpa using Kx r⟩
theorem Jp {kvs : List (List Key × V)} (ok : HOk P w H h) (e : Rd H a (.dT kvs)) : kvs.length ≤ sizeLine ∧ (a == sysModules) = false ∧
  ∃ xs, KT H kvs xs ∧ h.DictOfH (tupleKind (yj P w)) a xs := by
 obtain ⟨z, y, xs, r, o, es, ep, h1, h2, h3, h4, h5⟩ := (show yw P w H h a (.dT kvs) from znu ok e)
 refine ⟨z, y, xs, r, o, es, ep, h1, h2, h3, h4, fun x hx => ?_, h5⟩;have all : ∀ {l : List (List Key × V)} {m : List (List Key × Addr × Value)}, KT H l m → ∀ x ∈ m, (tupleKind (yj P w)).is h x.1 x.2.1 := by
  intro l m q;induction q with
  | nil => intro x hx; exact nomatch hx
  | @cons p q ps qs hq t ih =>
    intro x hx;rcases ag.mp hx with e | hx
    · subst e;exact Vn ok (by rw [← hq.1]; exact hq.2.1)
    · exact ih x hx
 exact all r x hx
theorem zsd {kvs : List (List Key × V)} (ok : HOk P w H h) (e : H a = some (.dT kvs)) : kvs.length ≤ sizeLine ∧ (a == sysModules) = false ∧
 ∃ xs, KT H kvs xs ∧ h.DictOfH (tupleKind (yj P w)) a xs := Jp ok (.inl e)
end
noncomputable def qv (H : Hp) (a : Addr) (y : V) (r : Option V) : Prop :=
 (∃ kvs k, Rd H a (.dK kvs) ∧ y = kV k ∧ r = xz kvs k) ∨ ∃ kvs k b, Rd H a (.dT kvs) ∧ y = .ref b ∧ H b = some (.tup (k.map kV)) ∧ r = xz kvs k
noncomputable def zik (H : Hp) (a : Addr) (y v : V) (H' : Hp) : Prop :=
 (∃ kvs k, H a = some (.dK kvs) ∧ y = kV k ∧ kvs.length < sizeLine ∧ H' = upd H a (.dK (ku kvs k v))) ∨
 ∃ kvs k b, H a = some (.dT kvs) ∧ y = .ref b ∧ H b = some (.tup (k.map kV)) ∧ kvs.length < sizeLine ∧ H' = upd H a (.dT (ku kvs k v))
theorem qv.k {H : Hp} {a : Addr} {kvs : List (Key × V)} {k : Key} (e : H a = some (.dK kvs)) : qv H a (kV k) (xz kvs k) := .inl ⟨kvs, k, .inl e, rfl, rfl⟩
theorem zik.k {H : Hp} {a : Addr} {kvs : List (Key × V)} {k : Key} {v : V} (e : H a = some (.dK kvs)) (hl : kvs.length < sizeLine) : zik H a (kV k) v (upd H a (.dK (ku kvs k v))) := .inl ⟨kvs, k, e, rfl, hl, rfl⟩
section
variable {o : Option V}
theorem Inv.big (I : Inv X pins σ H s) : sysModules < s.heap.objs.size := by
 have h : mainGlobals < s.heap.objs.size := (I.mod.glob.keeps I.bk).lt;exact Nat.lt_trans (by decide) h
theorem zh9 (hu : A.units + 1 < cLine) (I : Inv X pins σ H s) (g : qv H a y (some v)) (ry : yq y u) (h : ∀ w' s', Inv X pins σ H s' → yq v w' → Q w' s') :
  wpAny (model X.prog X.w) A (getItem (.ref a) u) Q E s := by
 rcases g with ⟨kvs, k, e, ey, l⟩ | ⟨kvs, k, b, e, ey, eb, l⟩
 · subst ey;obtain ⟨z, hd, vs, rel, dd⟩ := V2 I.hok e;obtain ⟨w', hw, rw'⟩ := W5.some_of (v := v) (o := valueAt vs k) (by rw [l]; exact rel.val k);exact wpAny_getItem_of (Wu ry) dd.mapOf hw (h w' _ (I.tok _) rw')
 · subst ey;cases (show u = Value.ref b from ry);obtain ⟨z, hd, xs, rel, dd⟩ := Jp I.hok e;obtain ⟨w', hw, rw'⟩ := W5.some_of (v := v) (o := (atKey xs k).map (·.2)) (by rw [l]; exact rel.val k);obtain ⟨p, hp, hp2⟩ := Option.map_eq_some_iff.mp hw;refine wpAny_getItem_heap (tupleKind_room_in1 hu) (Vn I.hok eb) dd hp ?_;rw [hp2];exact h w' _ (I.tok _) rw'
theorem zts (hu : A.units + 1 < cLine) (I : Inv X pins σ H s) (g : qv H a y o) (ry : yq y u) (h : ∀ s', Inv X pins σ H s' → Q (.bool o.isSome) s') :
  wpAny (model X.prog X.w) A (compareOp .In u (.ref a)) Q E s := by
 rcases g with ⟨kvs, k, e, ey, l⟩ | ⟨kvs, k, b, e, ey, eb, l⟩
 · subst ey;obtain ⟨z, hd, vs, rel, dd⟩ := V2 I.hok e;refine wpAny_in_of (Wu ry) hd dd.mapOf ?_;rw [← (rel.val k).isSome_eq, ← l];exact h _ (I.tok _)
 · subst ey;cases (show u = Value.ref b from ry);obtain ⟨z, hd, xs, rel, dd⟩ := Jp I.hok e;refine wpAny_in_heap (tupleKind_room_in1 hu) (Vn I.hok eb) hd dd ?_;have q := (rel.val k).isSome_eq;rw [Option.isSome_map] at q;rw [← q, ← l];exact h _ (I.tok _)
theorem znh (hu : A.units + 1 < cLine) (I : Inv X pins σ H s) (g : qv H a y o) (ry : yq y u) (h : ∀ s', Inv X pins σ H s' → Q (.bool (!o.isSome)) s') :
  wpAny (model X.prog X.w) A (compareOp .NotIn u (.ref a)) Q E s := by
 rcases g with ⟨kvs, k, e, ey, l⟩ | ⟨kvs, k, b, e, ey, eb, l⟩
 · subst ey;obtain ⟨z, hd, vs, rel, dd⟩ := V2 I.hok e;refine wpAny_notIn_of (Wu ry) hd dd.mapOf ?_;rw [← (rel.val k).isSome_eq, ← l];exact h _ (I.tok _)
 · subst ey;cases (show u = Value.ref b from ry);obtain ⟨z, hd, xs, rel, dd⟩ := Jp I.hok e;refine wpAny_notIn_heap (tupleKind_room_in1 hu) (Vn I.hok eb) hd dd ?_;have q := (rel.val k).isSome_eq;rw [Option.isSome_map] at q;rw [← q, ← l];exact h _ (I.tok _)
theorem Ql {ob : HO} (I : Inv X pins σ H s) (mu : Mut (H a)) (hs : Heap.SameBut a s.heap h') (he : ∃ q, h'.get? a = some q) (new : yw X.prog X.w (upd H a ob) h' a ob) :
  Inv X pins σ (upd H a ob) { s with heap := h', toks := t' } :=
 I.write (x := a) (e := a) mu (.inl rfl) (fun b q hb z => (hs.2 b hb).trans z) he new
theorem zbn {vs : List (Key × Value)} (z : kvs.length ≤ sizeLine) (hd : (a == sysModules) = false) (rel : KV kvs vs) (dd : h'.DictOf (yj P w) a vs) :
 yw P w H' h' a (.dK kvs) := ⟨z, hd, vs, rel, dd⟩
theorem zh8 {Q : Unit → Shared → Prop} (hu : A.units + 1 < cLine) (I : Inv X pins σ H s) (g : zik H a y v H') (ry : yq y u) (rv : yq v r) (h : ∀ s', Inv X pins σ H' s' → Q () s') :
  wpAny (model X.prog X.w) A (setItem (.ref a) u r) Q E s := by
 rcases g with ⟨kvs, k, e, ey, l, eH⟩ | ⟨kvs, k, b, e, ey, eb, l, eH⟩
 · subst ey eH;obtain ⟨z, hd, vs, rel, dd⟩ := zk7 I.hok e;have hz : vs.length ≤ sizeLine := by rw [← rel.length]; exact z
   have hl : (ku kvs k v).length ≤ sizeLine := by have := Zf kvs k v; omega
   refine wpAny_setItem_pairs (hsz := hz) (Wu ry) dd fun h' dd' hs => h _ ?_;have he : ∃ q, h'.get? a = some q := let ⟨q, _, _, hq, _⟩ := dd'; ⟨q, hq⟩;exact Ql I (by rw [e]; exact True.intro) hs he (zbn hl hd (rel.put k rv) dd')
 · subst ey eH;cases (show u = Value.ref b from ry);obtain ⟨z, hd, xs, rel, dd⟩ := zsd I.hok e;have hz : xs.length ≤ sizeLine := by rw [← Paired.length rel]; exact z
   have hl : (ku kvs k v).length ≤ sizeLine := by have := Zf kvs k v; omega
   refine wpAny_setItem_heap (hsz := hz) (tupleKind_room_in1 hu) (Vn I.hok eb) dd fun h' dd' hs => h _ ?_;obtain ⟨q, es, ep, hq, h2, h3, h4, _, h5⟩ := dd';refine Ql I (by rw [e]; exact True.intro) hs ⟨q, hq⟩ ⟨hl, hd, _, (rel.put k eb rv).keeps fun c ys ec => ?_, q, es, ep, hq, h2, h3, h4, h5⟩;rw [zk (Ja ec e (fun z => nomatch z))];exact ec
end
section
variable {k : Key}
theorem zsk (I : Inv X pins σ H s) (e : H a = some (.dK kvs)) (ry : yq (kV k) u) (l : xz kvs k = some v) (hm : more = [] ∨ ∃ x, more = [x])
  (h : ∀ w' s', Inv X pins σ (upd H a (.dK (Wy kvs k))) s' → yq v w' → Q w' s') : wpAny (model X.prog X.w) A (call (.builtin "dict.pop") (.ref a :: u :: more)) Q E s := by
 obtain ⟨z, hd, vs, rel, dd⟩ := zk7 I.hok e;obtain ⟨w', hw, rw'⟩ := W5.some_of (v := v) (o := valueAt vs k) (by rw [← l]; exact rel.val k);have hp : (keyPart u).isSome = true := by
  cases k with
  | inl i => obtain ⟨t, q⟩ := (show ∃ t, u = Value.int i t from ry); subst q; rfl
  | inr x => obtain ⟨t, q⟩ := (show ∃ t, u = Value.str x t from ry); subst q; rfl
 have ha : argsOk "dict.pop" ⟨.ref a :: u :: more, []⟩ := by
  rcases hm with q | ⟨x, q⟩
  · subst q; exact PySem.F.args_dict_pop_2 _ _
  · subst q; exact PySem.F.args_dict_pop_3 _ _ _
 refine call_meetsIn PySem.F.slot_dict_pop dd.typeIs PySem.F.entry_dict_pop ha (meets_dict_pop_there (yj X.prog X.w) a (Wu ry) more hm hp)
  ⟨vs, w', dd, by rw [← rel.length]; exact z, hw, fun h' dd' hs => h w' _ ?_ rw'⟩
 have he : ∃ q, h'.get? a = some q := let ⟨q, _, _, hq, _⟩ := dd'; ⟨q, hq⟩;exact Ql I (by rw [e]; exact True.intro) hs he (zbn (bp (zk6 kvs k) z) hd (rel.drop k) dd')
theorem zni (I : Inv X pins σ H s) (e : H a = some (.dK kvs)) (h : ∀ s', Inv X pins σ (upd H a (.dK [])) s' → Q .none s') : wpAny (model X.prog X.w) A (call (.builtin "dict.clear") [.ref a]) Q E s := by
 obtain ⟨z, hd, vs, rel, dd⟩ := zk7 I.hok e;refine call_meetsIn PySem.F.slot_dict_clear dd.typeIs PySem.F.entry_dict_clear (PySem.F.args_dict_clear_1 _) (meets_dict_clear (yj X.prog X.w) a) ⟨vs, dd, by rw [← rel.length]; exact z, fun h' dd' hs => h _ ?_⟩;have he : ∃ q, h'.get? a = some q := let ⟨q, _, _, hq, _⟩ := dd'; ⟨q, hq⟩;exact Ql (t' := s.toks) I (by rw [e]; exact True.intro) hs he (zbn (bd _) hd .nil dd')
end
noncomputable def zs6 (i : Expr) : Prop := ∀ ov iv, subscripted i false ov iv = operate [ov, iv] (getItem ov iv)
theorem zmb {env : Env} {slice : Expr} {T : String}
  (hl : typeLookup (.type T) "__getitem__" = pure (some (.builtin id))) (hs : zs6 slice)
  (h : wpAny (model prog w) A (eval value env) (fun o s₁ => wpAny (model prog w) A (eval slice env) (fun i s₂ => s₂.TypeIs o T ∧ wpAny (model prog w) A (getItem o i) Q E s₂) E s₁) E s) :
  wpAny (model prog w) A (eval (.Subscript value slice pos) env) Q E s := by
 refine Subscript_ (cn h (fun o s₁ h₁ => cn h₁ (fun i s₂ h₂ => ?_) fun _ _ x => x) fun _ _ x => x);obtain ⟨hT, h₂⟩ := h₂;unfold subscriptTail;refine aa ?_;rw [getitemInPython_of_ne hT.not_modules];refine aa (wpAny_specialOf hT hl ?_);have fin : wpAny (model prog w) A (subscripted slice false o i) (fun r s₃ => wpAny (model prog w) A (letTemporaryGo value o r >>= fun _ => pure r) Q E s₃) E s₂ := by
  rw [hs o i];exact wpAny_operating (cn h₂ (fun r s₃ h₃ => aa (wpAny_letTemporaryGo (aj h₃))) fun _ _ x => x)
 first
  | exact aj (aa fin)
  | exact aa (aj (aa fin))
  | exact aa fin
theorem zdr {o : Option V} (I : Inv X pins σ H s) (g : qv H a y o) : s.TypeIs (.ref a) "dict" := by
 rcases g with ⟨kvs, k, e, _, _⟩ | ⟨kvs, k, b, e, _, _, _⟩
 · obtain ⟨_, _, vs, _, dd⟩ := V2 I.hok e;exact dd.typeIs
 · obtain ⟨_, _, xs, _, dd⟩ := Jp I.hok e;exact dd.typeIs
noncomputable def zqk (td ty : TE) : TE := fun σ H Q => td σ H fun x H1 => ty σ H1 fun y H2 => ∃ a v, x = .ref a ∧ qv H2 a y (some v) ∧ Q v H2
noncomputable def zth (ty td : TE) : TE := fun σ H Q => ty σ H fun y H1 => td σ H1 fun x H2 => ∃ a o, x = .ref a ∧ qv H2 a y o ∧ Q (.bl o.isSome) H2
noncomputable def zl8 (ty td : TE) : TE := fun σ H Q => ty σ H fun y H1 => td σ H1 fun x H2 => ∃ a o, x = .ref a ∧ qv H2 a y o ∧ Q (.bl (!o.isSome)) H2
noncomputable def zrb (td ty tv : TE) : TS := fun D σ H => tv σ H fun v H1 => td σ H1 fun x H2 => ty σ H2 fun y H3 => ∃ a H4, x = .ref a ∧ zik H3 a y v H4 ∧ D.nx σ H4
section
variable {i : Expr} {tpos : Pos} {td ty tv : TE}
theorem jv (hu : X.A.units + 1 < cLine) (ho : PE X o td) (hi : PE X i ty) (hs : zs6 i) : PE X (.Subscript o i pos) (zqk td ty) := by
 intro pins s σ H Q I h;refine zmb PySem.F.slot_dict_getitem.lookup hs (thn (ho pins s σ H _ I h) fun u s1 ⟨x, H1, I1, rx, q1⟩ => thn (hi pins s1 σ H1 _ I1 q1) fun iv s2 ⟨y, H2, I2, ry, a, v, ex, g, q2⟩ => ?_);subst ex;obtain rfl : u = Value.ref a := rx;exact ⟨zdr I2 g, zh9 hu I2 g ry fun w' s3 I3 rw' => ⟨v, H2, I3, rw', q2⟩⟩
theorem zo3 (hu : X.A.units + 1 < cLine) (hi : PE X i ty) (ho : PE X o td) : PC X .In i o (zth ty td) := by
 intro pins s σ H Q I h;refine thn (hi pins s σ H _ I h) fun iv s1 ⟨y, H1, I1, ry, q1⟩ => thn (ho pins s1 σ H1 _ I1 q1) fun u s2 ⟨x, H2, I2, rx, a, ov, ex, g, q2⟩ => ?_;subst ex;obtain rfl : u = Value.ref a := rx;exact zts hu I2 g ry fun s3 I3 => ⟨.bl ov.isSome, H2, I3, rfl, q2⟩
theorem zhb (hu : X.A.units + 1 < cLine) (hi : PE X i ty) (ho : PE X o td) : PC X .NotIn i o (zl8 ty td) := by
 intro pins s σ H Q I h;refine thn (hi pins s σ H _ I h) fun iv s1 ⟨y, H1, I1, ry, q1⟩ => thn (ho pins s1 σ H1 _ I1 q1) fun u s2 ⟨x, H2, I2, rx, a, ov, ex, g, q2⟩ => ?_;subst ex;obtain rfl : u = Value.ref a := rx;exact znh hu I2 g ry fun s3 I3 => ⟨.bl (!ov.isSome), H2, I3, rfl, q2⟩
theorem zfu (hu : X.A.units + 1 < cLine) (ho : PE X o td) (hi : PE X i ty) (hv : PE X value tv) (hs : swapsWith value (some (.Subscript o i pos')) pos.line X.env = pure false) :
  PS X (.Assign [.Subscript o i pos'] value pos) (zrb td ty tv) := by
 intro pins s σ H D I h;refine wpAny_Assign_Subscript (thn (hv pins s σ H _ I h) fun r s1 ⟨v, H1, I1, rv, q1⟩ => thn (ho pins s1 σ H1 _ I1 q1) fun u s2 ⟨x, H2, I2, rx, q2⟩ => thn (hi pins s2 σ H2 _ I2 q2) fun iv s3 ⟨y, H3, I3, ry, a, H4, ex, g, q3⟩ => ?_) hs;subst ex;obtain rfl : u = Value.ref a := rx;exact zh8 hu I3 g ry rv fun s4 I4 => ⟨σ, H4, I4, q3⟩
end
theorem zdq (h : Heap) (hb : sysModules < h.objs.size) : yw P w H (h.push { cls := .type "dict", data := .dict #[] }) h.objs.size (.dK []) :=
 ⟨bd _, beq_eq_false_iff_ne.mpr (ak (bo hb)), [], .nil, Heap.DictOf.new h⟩
noncomputable def zof : TE := fun _ H Q => ∀ p, H p = none → Q (.ref p) (upd H p (.dK []))
section
theorem zcf : PE X (.Dict [] [] pos) zof := fun pins s σ H Q I h =>
 wpAny_Dict_empty ⟨.ref s.heap.objs.size, _, I.laid (a := s.heap.objs.size) (o := .dK []) (t' := s.toks) (fun _ _ q => ap _ q) (ai _) (zdq s.heap I.big), rfl, h _ (I.hok.fresh (ai _))⟩
end
noncomputable def kg (kvs more : List (Key × V)) : List (Key × V) := more.foldl (fun acc kv => ku acc kv.1 kv.2) kvs
theorem KV.merge : ∀ {more : List (Key × V)} {rs : List (Key × Value)} {kvs : List (Key × V)} {vs : List (Key × Value)}, KV more rs → KV kvs vs → KV (kg kvs more) (merged vs rs) := by
 intro more rs kvs vs r;unfold KV at r;induction r generalizing kvs vs with
 | nil => intro q; exact q
 | @cons p q ps qs h t ih =>
   intro r0;have e : KV (ku kvs p.1 p.2) (stored vs q.1 q.2) := by
    have := r0.put p.1 h.2;rw [← h.1]; exact this
   exact ih e
theorem Xe : ∀ (more kvs : List (Key × V)), (kg kvs more).length ≤ kvs.length + more.length
 | [], kvs => by show kvs.length ≤ kvs.length + 0; omega
 | p :: r, kvs => by
   have h1 := Xe r (ku kvs p.1 p.2);have h2 := Zf kvs p.1 p.2;show (kg (ku kvs p.1 p.2) r).length ≤ _;rw [bi]; omega
structure M1 (X : Cx) (o : Expr) (m : Str) (apos : Pos) (e : Expr) (cpos : Pos) : Prop where
 base : attributeBase o m X.env (eval o X.env) = eval o X.env
 few : ((backTo cpos (starEach [e] X.env)).all (fun x => !x.1) && (backToKw cpos (keywordEach [] X.env)).all (fun x => x.1.isSome)
  && decide (([e] : List Expr).length + ([] : List Keyword).length + (if ([] : List Keyword).isEmpty then 0 else 1) < 30)) = true
 line : (apos.endLine == cpos.line) = true
 trees : backTo cpos (starEach [e] X.env) = [(false, eval e X.env)]
noncomputable def IsD (H : Hp) (a : Addr) : Prop := (∃ kvs, Rd H a (.dK kvs)) ∨ ∃ kvs, Rd H a (.dT kvs)
theorem zkr (I : Inv X pins σ H s) (d : IsD H a) :
  s.TypeIs (.ref a) "dict" ∧ (∀ b, Value.ref a = .ref b → ∃ ob, s.heap.get? b = some ob ∧ ob.dict = none) ∧ (a == sysModules) = false := by
 rcases d with ⟨kvs, e⟩ | ⟨kvs, e⟩
 · obtain ⟨_, hd, vs, _, dd⟩ := V2 I.hok e;refine ⟨dd.typeIs, fun b q => ?_, hd⟩;cases q;obtain ⟨ob, _, _, h1, h2, _⟩ := dd;exact ⟨ob, h1, h2.2.1⟩
 · obtain ⟨_, hd, xs, _, dd⟩ := Jp I.hok e;refine ⟨dd.typeIs, fun b q => ?_, hd⟩;cases q;obtain ⟨ob, _, _, h1, h2, _⟩ := dd;exact ⟨ob, h1, h2.2.1⟩
section
variable {d : V} {o : Option V}
theorem zpt (hu : A.units + 1 < cLine) (I : Inv X pins σ H s) (g : qv H a y o) (ry : yq y u) (h : ∀ w' s', Inv X pins σ H s' → yq (o.getD .non) w' → Q w' s') :
  wpAny (model X.prog X.w) A (call (.builtin "dict.get") [.ref a, u]) Q E s := by
 rcases g with ⟨kvs, k, e, ey, l⟩ | ⟨kvs, k, b, e, ey, eb, l⟩
 · subst ey;obtain ⟨z, hd, vs, rel, dd⟩ := V2 I.hok e;refine call_meetsIn PySem.F.slot_dict_get dd.typeIs PySem.F.entry_dict_get (PySem.F.args_dict_get_2 _ _) (meets_dict_get (yj X.prog X.w) a (Wu ry) hd) ⟨_, dd.mapOf, h _ _ (I.tok _) ?_⟩;rw [l];exact (rel.val k).getD rfl
 · subst ey;cases (show u = Value.ref b from ry);obtain ⟨z, hd, xs, rel, dd⟩ := Jp I.hok e;refine call_meetsIn PySem.F.slot_dict_get dd.typeIs PySem.F.entry_dict_get (PySem.F.args_dict_get_2 _ _) (meetsH_dict_get (tupleKind (yj X.prog X.w)) a b hd) ⟨tupleKind_room_in1 hu, k, xs, Vn I.hok eb, dd, h _ _ (I.tok _) ?_⟩;rw [l];exact (rel.val k).getD rfl
end
noncomputable def ziy (td ty : TE) : TE := fun σ H Q => td σ H fun x H1 => ∃ a, x = .ref a ∧ IsD H1 a ∧ ty σ H1 fun y H2 => ∃ o, qv H2 a y o ∧ Q (o.getD .non) H2
noncomputable def zoe (td ty : TE) : TE := fun σ H Q => td σ H fun x H1 => ∃ a, x = .ref a ∧ IsD H1 a ∧ ty σ H1 fun y H2 => ∃ kvs k v, H2 a = some (.dK kvs) ∧ y = kV k ∧ xz kvs k = some v ∧ Q v (upd H2 a (.dK (Wy kvs k)))
section
variable {f : Expr} {cpos : Pos} {td ty tx : TE}
theorem zcg (hu : X.A.units + 1 < cLine) (ho : PE X o td) (he : PE X e ty) (m : M1 X o "get" apos e cpos) : PE X (.Call (.Attribute o "get" apos) [e] [] cpos) (ziy td ty) := by
 intro pins s σ H Q I h;refine wpAny_Call_method m.base m.few m.line PySem.F.plainAttrs_dict PySem.F.slot_dict_get PySem.F.type_dict_get (thn (ho pins s σ H _ I h) fun u s1 ⟨x, H1, I1, rx, a, ex, d, q1⟩ => ?_);subst ex;obtain rfl : u = Value.ref a := rx;obtain ⟨t1, t2, _⟩ := zkr I1 d;refine ⟨t1, t2, ?_⟩;rw [m.trees];refine Calls.callWith_builtin rfl (Calls.evalArgs_plain (Calls.spliced_cons (thn (he pins s1 σ H1 _ I1 q1) fun iv s2 ⟨y, H2, I2, ry, ov, g, q2⟩ => Calls.spliced_nil ?_)));exact zpt hu I2 g ry fun w' s3 I3 rw' => ⟨_, H2, I3, rw', q2⟩
theorem zce (ho : PE X o td) (he : PE X e ty) (m : M1 X o "pop" apos e cpos) : PE X (.Call (.Attribute o "pop" apos) [e] [] cpos) (zoe td ty) := by
 intro pins s σ H Q I h;refine wpAny_Call_method m.base m.few m.line PySem.F.plainAttrs_dict PySem.F.slot_dict_pop PySem.F.type_dict_pop (thn (ho pins s σ H _ I h) fun u s1 ⟨x, H1, I1, rx, a, ex, d, q1⟩ => ?_);subst ex;obtain rfl : u = Value.ref a := rx;obtain ⟨t1, t2, _⟩ := zkr I1 d;refine ⟨t1, t2, ?_⟩;rw [m.trees];refine Calls.callWith_builtin rfl (Calls.evalArgs_plain (Calls.spliced_cons (thn (he pins s1 σ H1 _ I1 q1) fun iv s2 ⟨y, H2, I2, ry, kvs, k, v, ea, ey, l, q2⟩ => Calls.spliced_nil ?_)));subst ey;exact zsk I2 ea ry l (.inl rfl) fun w' s3 I3 rw' => ⟨v, _, I3, rw', q2⟩
end
section
end
section
end
end L2
namespace HT
open PySem PyProof.Rows
variable {sl t : Addr} {A : Around} {items : Array Value} {s : Shared} {vl vu : Value} {E Q : Value → Shared → Prop}
section
open PySem.SeqAt
open PySem.AutoSeq1 (wpAny_loadPart')
open PySem.MeetsSeq PySem.MeetsSeq2 PySem.MeetsSeq3
end
section
variable {prog : Program} {w : World}
theorem cat_tup {b : Addr} {vs ws : List Value} (ht : IsTup s.heap t vs.toArray) (hb : IsTup s.heap b ws.toArray) (hv : vs ≠ [])
  (h1 : ws = [] → Q (.ref t) s) (h2 : ws ≠ [] → Q (.ref s.heap.objs.size) { s with heap := s.heap.push { cls := .type "tuple", data := .seq (vs ++ ws).toArray } })
  (hsz : vs.length + ws.length ≤ sizeLine) : wpAny (model prog w) A (binaryOp .Add (.ref t) (.ref b)) Q E s := by
 obtain ⟨⟨cls, dd, data, sl⟩, ho, hc, n, hd⟩ := id ht;obtain ⟨⟨cls2, dd2, data2, sl2⟩, ho2, hc2, n2, hd2⟩ := id hb;simp only at hc hd hc2 hd2;subst hc hd hc2 hd2;have e : vs.toArray ++ ws.toArray = (vs ++ ws).toArray := by simp
 by_cases hw : ws = []
 · exact concat_meets ⟨_, ho, rfl⟩ ⟨_, ho2, rfl⟩ noFill_tuple_add seq_tuple_add PySem.F.slot_tuple_add PySem.F.entry_tuple_add (PySem.F.args_tuple_add_2 _ _)
    (tuple_addW1 t b vs.toArray ws.toArray n n2 dd dd2 sl sl2 (by simpa using hv) (by simp [hw])) ⟨ho, ho2, h1 hw⟩
 · refine concat_meets ⟨_, ho, rfl⟩ ⟨_, ho2, rfl⟩ noFill_tuple_add seq_tuple_add PySem.F.slot_tuple_add PySem.F.entry_tuple_add (PySem.F.args_tuple_add_2 _ _)
    (tuple_addW2 t b vs.toArray ws.toArray n n2 dd dd2 sl sl2 (by simpa using hv) (by simpa using hw) (by rw [bq, bq]; exact hsz)) ⟨ho, ho2, ?_⟩
   rw [e];exact h2 hw
noncomputable def sIx (n d : Nat) : Option Int → Nat
 | none => d
 | some v => if v < 0 then (v + (n : Int)).toNat else min v.toNat n
theorem sIx_none (n d : Nat) : sIx n d none = d := rfl
theorem sIx_nat (n d k : Nat) : sIx n d (some (k : Int)) = min k n := by
 show (if (k : Int) < 0 then ((k : Int) + (n : Int)).toNat else min (k : Int).toNat n) = min k n;rw [if_neg (by omega), df]
theorem zop (n d : Nat) (hd : d ≤ n) (o : Option Int) : sIx n d o ≤ n := by
 cases o with
 | none => exact hd
 | some v =>
   show (if v < 0 then (v + (n : Int)).toNat else min v.toNat n) ≤ n;by_cases hv : v < 0
   · rw [if_pos hv]; omega
   · rw [if_neg hv]; exact Nat.min_le_right _ _
theorem zgp (v : Int) (n d : Nat) : (if v < 0 then max (v + (n : Int)) 0 else min v (n : Int)) = ((sIx n d (some v) : Nat) : Int) := by
 show (if v < 0 then max (v + (n : Int)) 0 else min v (n : Int)) = (((if v < 0 then (v + (n : Int)).toNat else min v.toNat n) : Nat) : Int);by_cases hv : v < 0
 · simp only [if_pos hv]; omega
 · simp only [if_neg hv]; omega
theorem zfl (lo hi : Option Int) (n : Nat) : Builtin.Slice.sliceAdjust lo hi 1 (n : Int) = (((sIx n 0 lo : Nat) : Int), ((sIx n n hi : Nat) : Int)) := by
 have h1 : ¬ ((1 : Int) < 0) := by omega
 unfold Builtin.Slice.sliceAdjust;simp only [h1, if_false];refine Prod.ext ?_ ?_
 · cases lo with
   | none => rfl
   | some v => exact zgp v n 0
 · cases hi with
   | none => rfl
   | some v => exact zgp v n n
theorem zek (i j : Nat) : Builtin.Slice.slicePlaces (i : Int) (j : Int) 1 = j - i := by
 unfold Builtin.Slice.slicePlaces;have h1 : (1 : Int) > 0 := by omega
 simp only [h1, if_true, Int.ediv_one];split <;> omega
theorem Qv {v : Value} {o : Option Int} {Q : Option Int → Shared → Prop} (p : IsPart v o) (h : Q o s) : wpAny (model prog w) A (Builtin.Slice.slicePartIndex v) Q E s := by
 cases p with
 | none => exact slicePart_none h
 | int i t => exact slicePart_int h
theorem Zk {lo hi : Option Int} {n : Nat} {Q : Int × Int × Nat → Shared → Prop} (hs : s.heap.IsSliceOf sl vl vu .none) (pl : IsPart vl lo) (pu : IsPart vu hi)
  (h : Q (((sIx n 0 lo : Nat) : Int), 1, sIx n n hi - sIx n 0 lo) s) : wpAny (model prog w) A (Builtin.Slice.sliceApplied (.ref sl) (pure (n : Int))) Q E s := by
 obtain ⟨os, hos, hcs, hds⟩ := id hs;unfold Builtin.Slice.sliceApplied Builtin.Slice.sliceFields;refine aa (aa (wpAny_field hos hds (x := vl) rfl (aa (wpAny_field hos hds (x := vu) rfl (aa (wpAny_field hos hds (x := .none) rfl (aj ?_)))))));refine aa (slicePart_none ?_);show wpAny _ _ (if ((1 : Int) == 0) = true then _ else _) _ _ s;rw [if_neg (by decide)];refine aa (Qv pl (aa (Qv pu (aa (aj ?_)))));show wpAny _ _ (match Builtin.Slice.sliceAdjust lo hi 1 (n : Int) with | (lo, hi) => pure (lo, (1 : Int), Builtin.Slice.slicePlaces lo hi 1)) _ _ s;rw [zfl lo hi n];show wpAny _ _ (pure (((sIx n 0 lo : Nat) : Int), (1 : Int), Builtin.Slice.slicePlaces ((sIx n 0 lo : Nat) : Int) ((sIx n n hi : Nat) : Int) 1)) _ _ s;rw [zek];exact aj h
theorem zjs (xs : Array Value) (i k : Nat) : ((List.range k).filterMap fun (m : Nat) => xs[((i : Int) + (m : Int) * 1).toNat]?).toArray = ((xs.toList.drop i).take k).toArray := by
 have e : (fun (m : Nat) => xs[((i : Int) + (m : Int) * 1).toNat]?) = fun m => xs[i + m]? := by
  funext m;have : ((i : Int) + (m : Int) * 1).toNat = i + m := by omega
  rw [this]
 rw [e];have := pick_run xs i k;rw [List.filterMap_map] at this;have e2 : ((fun x => xs[x]?) ∘ fun x => i + x) = fun m => xs[i + m]? := rfl;rw [e2] at this;rw [this]
theorem getItem_tuple_cut {lo hi : Option Int} (ht : IsTup s.heap t items) (hs : s.heap.IsSliceOf sl vl vu .none) (pl : IsPart vl lo) (pu : IsPart vu hi)
  (hw : ¬ (sIx items.size 0 lo = 0 ∧ sIx items.size items.size hi = items.size))
  (h : Q (.ref s.heap.objs.size) { s with heap := s.heap.push { cls := .type "tuple", data := .seq ((items.toList.drop (sIx items.size 0 lo)).take (sIx items.size items.size hi - sIx items.size 0 lo)).toArray } })
  (hsz : items.size ≤ sizeLine) : wpAny (model prog w) A (getItem (.ref t) (.ref sl)) Q E s := by
 have htake : sizeOk (.seq ((items.toList.drop (sIx items.size 0 lo)).take (sIx items.size items.size hi - sIx items.size 0 lo)).toArray) := by
  show ((items.toList.drop (sIx items.size 0 lo)).take (sIx items.size items.size hi - sIx items.size 0 lo)).toArray.size ≤ sizeLine;rw [bq, cg, List.length_drop, Array.length_toList];omega
 have hj : sIx items.size items.size hi ≤ items.size := zop _ _ (ai _) hi;obtain ⟨os, hos, hcs, hds⟩ := id hs;have hTs : s.TypeIs (.ref sl) "slice" := ⟨os, hos, hcs⟩
 unfold getItem
 try with_reducible refine wpAny_holding ?_
 first | refine aa (aj ?_) | skip
 refine aa (wpAny_sequenceKey ht.typeIs (by decide) ?_);refine aa (wpAny_callSpecial?_slot (name := Str.ofString "__getitem__") ht.typeIs PyProof.Rows.slot_tuple_getitem
  (cy PyProof.Rows.slot_tuple_getitem ht.typeIs entry_tuple_getitem ?_ (args_tuple_getitem _ _)))
 show wpAny _ _ (Builtin.Tuple.tupleItemsOf (.ref t) >>= _) _ _ s;refine aa (tupleItemsOf_ ht ?_);refine aa (wpAny_typeOf hTs ?_);rw [if_pos (by decide)];refine aa (Zk hs pl pu ?_);have hno : ¬ ((((sIx items.size 0 lo : Nat) : Int) == 0 && (1 : Int) == 1 && (sIx items.size items.size hi - sIx items.size 0 lo) == items.size) = true) := by
  intro q;rw [bu, bu] at q;have q1 : ((sIx items.size 0 lo : Nat) : Int) = 0 := eq_of_beq q.1.1;have q2 : sIx items.size items.size hi - sIx items.size 0 lo = items.size := eq_of_beq q.2;exact hw ⟨by omega, by omega⟩
 show wpAny _ _ (if (((sIx items.size 0 lo : Nat) : Int) == 0 && (1 : Int) == 1 && (sIx items.size items.size hi - sIx items.size 0 lo) == items.size) = true then _ else _) _ _ s;rw [if_neg hno, zjs];first
  | exact aa (m := Builtin.Tuple.tupleExact _) (cz (aj ⟨_, rfl, aj h⟩) htake)
  | exact aa (m := Builtin.Tuple.tupleExact _) (cz (aa (aj (aj ⟨_, rfl, aj h⟩))) htake)
  | exact aa (aa (m := Builtin.Tuple.tupleExact _) (cz (aj (aj ⟨_, rfl, aj h⟩)) htake))
  | exact aa (aa (m := Builtin.Tuple.tupleExact _) (cz (aj ⟨_, rfl, aj h⟩) htake))
end
end HT
namespace L2
open PySem PySem.Spec PyProof.Rows
variable {A : Around} {X : Cx} {e : Expr} {H : Hp} {i : Int} {pins : List (Addr × Obj)} {es : List Expr} {ns : List Int} {xs ys : List V} {its its' us : List Value} {j n t' : Nat} {pos : Pos} {s : Shared} {σ : St} {x : V} {u v : Value} {E : Value → Shared → Prop}
abbrev TO := St → Hp → (Option Int → Hp → Prop) → Prop
noncomputable def PO (X : Cx) (e : Option Expr) (t : TO) : Prop :=
 ∀ (pins : List (Addr × Obj)) (s : Shared) (σ : St) (H : Hp) (Q : Option Int → Hp → Prop), Inv X pins σ H s → t σ H Q →
   wpAny (model X.prog X.w) X.A (evalPart e X.env) (fun u s' => ∃ o H', Inv X pins σ H' s' ∧ IsPart u o ∧ Q o H') X.xe s
noncomputable def zap : TO := fun _ H Q => Q none H
noncomputable def zqg (t : TE) : TO := fun σ H Q => t σ H fun x H1 => ∃ i, x = .int i ∧ Q (some i) H1
theorem ze5 : ∀ {us : List Value}, yn (ns.map V.int) us → IntsAre us ns := by
 induction ns with
 | nil => intro us r; rw [List.map_nil] at r; cases r; exact .nil
 | cons n ns ih =>
   intro us r;rw [bh] at r;cases r with
   | cons r1 r2 =>
     obtain ⟨t, e⟩ := r1;subst e;exact .cons n t (ih r2)
section
variable {te : TE} {lo hi : Option Expr} {tl th : TO} {p2 : Pos}
theorem w6 : PO X none zap := by
 intro pins s σ H Q I h;rw [evalPart_none];exact aj ⟨none, H, I, .none, h⟩
theorem w5 (h : PE X e te) : PO X (some e) (zqg te) := by
 intro pins s σ H Q I hw;rw [evalPart_some];refine thn (h pins s σ H _ I hw) fun u s1 ⟨x, H1, I1, r1, q1⟩ => ?_;obtain ⟨i, rfl, q⟩ := q1;obtain ⟨t, rfl⟩ := r1;exact ⟨some i, H1, I1, .int i t, q⟩
noncomputable def SlR (X : Cx) (r : V → Option Int → Option Int → Hp → VK → Prop) : Prop :=
 ∀ (pins : List (Addr × Obj)) (s : Shared) (σ : St) (H : Hp) (x : V) (v vl vu : Value) (lo hi : Option Int) (sl : Addr) (Q : VK), Inv X pins σ H s → yq x v → s.heap.IsSliceOf sl vl vu .none → IsPart vl lo → IsPart vu hi → r x lo hi H Q →
   ∃ T id, typeLookup (.type T) "__getitem__" = pure (some (.builtin id)) ∧ s.TypeIs v T ∧ wpAny (model X.prog X.w) X.A (getItem v (.ref sl)) (EP X pins σ Q) X.xe s
noncomputable def tSl (r : V → Option Int → Option Int → Hp → VK → Prop) (te : TE) (tl th : TO) : TE := fun σ H Q => te σ H fun x H1 => tl σ H1 fun l H2 => th σ H2 fun u H3 => r x l u H3 Q
theorem wg {r : V → Option Int → Option Int → Hp → VK → Prop} (hr : SlR X r) (he : PE X e te) (hl : PO X lo tl) (hu : PO X hi th) : PE X (.Subscript e (.Slice lo hi none p2) pos) (tSl r te tl th) := by
 intro pins s σ H Q I h;refine Subscript_ (thn (he pins s σ H _ I h) fun v s1 ⟨x, H1, I1, r1, q1⟩ => ?_);refine wpAny_Slice (thn (hl pins s1 σ H1 _ I1 q1) fun vl s2 ⟨l, H2, I2, pl, q2⟩ => thn (hu pins s2 σ H2 _ I2 q2) fun vu s3 ⟨u, H3, I3, pu, q3⟩ => ?_);rw [evalPart_none];refine aj ?_;have I4 : Inv X pins σ H3 { s3 with heap := s3.heap.push { cls := .type "slice", data := .fields #[vl, vu, .none] } } := I3.kept (t' := s3.toks) fun b ob q => ap _ q;obtain ⟨T, id, hT, ht, hg⟩ := hr pins { s3 with heap := s3.heap.push { cls := .type "slice", data := .fields #[vl, vu, .none] } } σ H3 x v vl vu l u s3.heap.objs.size Q I4 r1 (Heap.IsSliceOf.new ..) pl pu q3;show wpAny (model X.prog X.w) X.A (subscriptTail e (.Slice lo hi none p2) v (.ref s3.heap.objs.size)) (EP X pins σ Q) X.xe { s3 with heap := s3.heap.push { cls := .type "slice", data := .fields #[vl, vu, .none] } };exact tail_any (ops := [.ref s3.heap.objs.size, v]) ht hT hg (by with_unfolding_all rfl)
noncomputable def Z7 (xs : List V) (lo hi : Option Int) : List V := (xs.drop (HT.sIx xs.length 0 lo)).take (HT.sIx xs.length xs.length hi - HT.sIx xs.length 0 lo)
theorem V4 (xs : List V) (lo hi : Option Int) : (Z7 xs lo hi).length ≤ xs.length := by
 unfold Z7;rw [cg, List.length_drop];omega
noncomputable def ztm (K : PySem.W.Frag) : V → Option Int → Option Int → Hp → VK → Prop := fun x lo hi H Q => ∃ a xs, x = .ref a ∧ SqT K H a xs ∧
 ¬ (HT.sIx xs.length 0 lo = 0 ∧ HT.sIx xs.length xs.length hi = xs.length) ∧ ∀ p, H p = none → Q (.ref p) (upd H p (.tup (Z7 xs lo hi)))
theorem zed : SlR X (ztm X.K) := by
 intro pins s σ H x v vl vu lo hi sl Q I rx hs pl pu h;obtain ⟨a, xs, rfl, hx, hw, q⟩ := h;cases rx;obtain ⟨its, r, ht, hz⟩ := I.tuple hx;have hlen : its.toArray.size = xs.length := by rw [bq]; exact r.length.symm
 refine ⟨"tuple", _, PyProof.Rows.slot_tuple_getitem.lookup, ht.typeIs, ?_⟩;refine HT.getItem_tuple_cut ht hs pl pu (by rw [hlen]; exact hw) ?_ (by rw [hlen]; exact hz);rw [hlen];refine ⟨.ref s.heap.objs.size, _, I.laid (t' := s.toks) (o := .tup (Z7 xs lo hi)) (fun b ob q => ap _ q) (ai _) ?_, rfl, q _ (I.hok.fresh (ai _))⟩;exact ⟨bp (V4 xs lo hi) hz, _, (r.drop (HT.sIx xs.length 0 lo)).take (HT.sIx xs.length xs.length hi - HT.sIx xs.length 0 lo), IsTup.new _ _, NoD.push⟩
noncomputable def zrk (K : PySem.W.Frag) : R2 := fun x y H Q => ∃ a b xs ys, x = .ref a ∧ y = .ref b ∧ SqT K H a xs ∧ SqT K H b ys ∧ xs ≠ [] ∧ xs.length + ys.length ≤ sizeLine ∧
 (ys = [] → Q (.ref a) H) ∧ (ys ≠ [] → ∀ p, H p = none → Q (.ref p) (upd H p (.tup (xs ++ ys))))
theorem yn.nil_iff (r : yn xs us) : us = [] ↔ xs = [] := by
 cases r with
 | nil => simp
 | cons _ _ => simp
theorem Qf : OpR X (binaryOp .Add) (zrk X.K) := by
 intro pins s σ H x y v u Q I rx ry h;obtain ⟨a, b, xs, ys, rfl, rfl, ha, hb, hx, hz, q1, q2⟩ := h;cases rx;cases ry;obtain ⟨its, r1, p1, _⟩ := I.tuple ha;obtain ⟨its2, r2, p2, _⟩ := I.tuple hb;refine HT.cat_tup p1 p2 (fun z => hx (r1.nil_iff.mp z)) (fun z => ⟨.ref a, H, I, rfl, q1 (r2.nil_iff.mp z)⟩) (fun z => ?_) (by rw [← r1.length, ← r2.length]; exact hz);refine ⟨.ref s.heap.objs.size, _, I.laid (t' := s.toks) (o := .tup (xs ++ ys)) (fun b ob q => ap _ q) (ai _) ?_, rfl, q2 (fun w => z (r2.nil_iff.mpr w)) _ (I.hok.fresh (ai _))⟩;exact ⟨by rw [ar]; exact hz, _, r1.append r2, IsTup.new _ _, NoD.push⟩
end
noncomputable def ixN (n : Nat) (i : Int) : Option Nat := if 0 ≤ i then (if i < n then some i.toNat else none) else if -(n : Int) ≤ i then some (i + n).toNat else none
noncomputable def atI {α : Type} (xs : List α) (i : Int) : Option α := (ixN xs.length i).bind fun j => xs[j]?
theorem zf9 (h : ixN n i = some j) : seqIndex? i n = some j ∧ j < n ∧ -(n : Int) ≤ i ∧ i < n := by
 unfold ixN at h;by_cases h0 : 0 ≤ i
 · rw [if_pos h0] at h;by_cases h1 : i < n
   · rw [if_pos h1] at h;have e : i.toNat = j := Option.some.inj h;exact ⟨by rw [seqIndex_of h0 h1, e], by omega, by omega, h1⟩
   · rw [if_neg h1] at h; cases h
 · rw [if_neg h0] at h;by_cases h1 : -(n : Int) ≤ i
   · rw [if_pos h1] at h;have e : (i + n).toNat = j := Option.some.inj h;exact ⟨by rw [seqIndex_neg (by omega) h1, e], by omega, h1, by omega⟩
   · rw [if_neg h1] at h; cases h
theorem zgt {α : Type} {xs : List α} {v : α} (h : atI xs i = some v) : ∃ j, seqIndex? i xs.length = some j ∧ xs[j]? = some v ∧ j < xs.length ∧ -(xs.length : Int) ≤ i ∧ i < xs.length := by
 unfold atI at h;cases e : ixN xs.length i with
 | none => rw [e] at h; cases h
 | some j =>
   rw [e] at h;obtain ⟨h1, h2, h3, h4⟩ := zf9 e;exact ⟨j, h1, h, h2, h3, h4⟩
theorem we {α : Type} {xs : List α} {v : α} (h : xs[j]? = some v) : atI xs (j : Int) = some v := by
 have hj : j < xs.length := (c9.mp h).1;have e : ixN xs.length (j : Int) = some j := by
  unfold ixN;rw [if_pos (by omega), if_pos (by omega)]; simp
 unfold atI; rw [e]; exact h
noncomputable def zgu (b : Expr) : Prop := ∀ o i, subscripted b false o i = operate [o, i] (getItem o i)
noncomputable def IxR (X : Cx) (r : R2) : Prop :=
 ∀ (value slice : Expr) (pins : List (Addr × Obj)) (s : Shared) (σ : St) (H : Hp) (x y : V) (v u : Value) (Q : VK), Inv X pins σ H s → yq x v → yq y u → r x y H Q →
   subscripted slice false v u = operate [v, u] (getItem v u) → wpAny (model X.prog X.w) X.A (subscriptTail value slice v u) (EP X pins σ Q) X.xe s
noncomputable def MtR (X : Cx) (id : String) (r : V → List V → Hp → VK → Prop) : Prop :=
 ∀ (pins : List (Addr × Obj)) (s : Shared) (σ : St) (H : Hp) (x : V) (xs : List V) (v : Value) (us : List Value) (Q : VK), Inv X pins σ H s → yq x v → yn xs us → r x xs H Q →
   wpAny (model X.prog X.w) X.A (call (.builtin id) (v :: us)) (EP X pins σ Q) X.xe s
section
variable {a b : Expr} {ta tb : TE}
theorem zp {r : R2} (hr : IxR X r) (ha : PE X a ta) (hb : PE X b tb) (hs : zgu b) : PE X (.Subscript a b pos) (tOp r ta tb) := by
 intro pins s σ H Q I h;exact Subscript_ (zp0 ha hb I h fun v u s2 x y H2 I2 rx ry q => hr a b pins s2 σ H2 x y v u Q I2 rx ry q (hs _ _))
noncomputable def zov (K : PySem.W.Frag) : R2 := fun x y H Q => ∃ p xs i v, x = .ref p ∧ y = .int i ∧ SqL K H p xs ∧ atI xs i = some v ∧ Q v H
noncomputable def zej (K : PySem.W.Frag) : R2 := fun x y H Q => ∃ p xs i v, x = .ref p ∧ y = .int i ∧ SqT K H p xs ∧ atI xs i = some v ∧ Q v H
theorem yi : IxR X (zov X.K) := by
 intro value slice pins s σ H x y v u Q I rx ry h hs;obtain ⟨p, xs, i, z, rfl, rfl, hq, he, q⟩ := h;cases rx;obtain ⟨t, rfl⟩ := ry;obtain ⟨its, r, pl, hz⟩ := I.list hq;obtain ⟨j, h1, h2, h3, h4, h5⟩ := zgt he;obtain ⟨w, ew, rw'⟩ := r.get h2;have hl := r.length;have hn := Xs;have fin : EP X pins σ Q w s := ⟨z, H, I, rw', q⟩
 by_cases h0 : 0 ≤ i
 · have hj : i.toNat = j := by
    rw [seqIndex_of h0 h5] at h1;exact Option.some.inj h1
   exact item_listR pl.isList h0 (by omega) (by rw [hj]; simpa using ew) fin hs
 · have hj : (i + (its.toArray.size : Int)).toNat = j := by
    rw [seqIndex_neg (by omega) h4] at h1;rw [bq, ← hl];exact Option.some.inj h1
   exact subscriptTail_builtinR (x := w) pl.isList.typeIs slot_list_getitem.lookup
    (wpAny_getItem_list_neg (Q := fun r s' => r = w ∧ EP X pins σ Q r s') pl.isList (by omega) (by rw [bq] <;> omega) (by omega) (by rw [hj]; simpa using ew) ⟨rfl, fin⟩) hs
theorem zt : IxR X (zej X.K) := by
 intro value slice pins s σ H x y v u Q I rx ry h hs;obtain ⟨p, xs, i, z, rfl, rfl, hq, he, q⟩ := h;cases rx;obtain ⟨t, rfl⟩ := ry;obtain ⟨its, r, pl, hz⟩ := I.tuple hq;obtain ⟨j, h1, h2, h3, h4, h5⟩ := zgt he;obtain ⟨w, ew, rw'⟩ := r.get h2;have hl := r.length;have hn := Xs;have fin : EP X pins σ Q w s := ⟨z, H, I, rw', q⟩
 exact subscriptTail_builtinR (x := w) pl.typeIs slot_tuple_getitem.lookup
  (getItem_tuple (j := j) (Q := fun r s' => r = w ∧ EP X pins σ Q r s') pl (by omega) (by omega) (by rw [bq, ← hl]; exact h1) (by simpa using ew) ⟨rfl, fin⟩) hs
theorem zey (its : List Value) (n j : Nat) (u : Value) : Obj.mapSeq (·.setIfInBounds j u) { cls := .type "list", data := .seq its.toArray n } = { cls := .type "list", data := .seq (its.set j u).toArray n } := by
 simp [Obj.mapSeq]
theorem Inv.lst {pins : List (Addr × Obj)} {σ : St} {H : Hp} {s : Shared} {p : Addr} {xs : List V} (I : Inv X pins σ H s) (h : H p = some (.lst xs)) :
  ∃ (its : List Value) (n : Nat), yn xs its ∧ s.heap.get? p = some { cls := .type "list", data := .seq its.toArray n } ∧ xs.length ≤ sizeLine := by
 obtain ⟨z, its, n, r, e⟩ := I.hok p _ h;exact ⟨its, n, r, e, z⟩
theorem Inv.lstUpd {p : Addr} {n' : Nat} {f : Obj → Obj} (I : Inv X pins σ H s) (h : H p = some (.lst xs))
  (ho : s.heap.get? p = some { cls := .type "list", data := .seq its.toArray n }) (hf : f { cls := .type "list", data := .seq its.toArray n } = { cls := .type "list", data := .seq its'.toArray n' }) (r : yn ys its') (hz : ys.length ≤ sizeLine) (t : Nat) :
  Inv X pins σ (upd H p (.lst ys)) { s with heap := s.heap.update p f, toks := t } := by
 have e : (s.heap.update p f).get? p = some { cls := .type "list", data := .seq its'.toArray n' } := by
  rw [Heap.get?_update_self f ho (by rw [hf] <;> rfl), hf]
 refine I.write (x := p) (e := p) (by rw [h]; trivial) (.inl rfl) (fun b u hb q => (Heap.get?_update_other _ _ (ak hb)).trans q) ⟨_, e⟩ ?_;exact ⟨hz, its', n', r, e⟩
noncomputable def zre : V → V → V → Hp → (Hp → Prop) → Prop := fun o i v H Q => ∃ p xs k j, o = .ref p ∧ i = .int k ∧ H p = some (.lst xs) ∧ ixN xs.length k = some j ∧ Q (upd H p (.lst (xs.set j v)))
theorem Qw : zs5 X zre := by
 intro pins s σ H o i v ov iv u Q I ro ri rv h;obtain ⟨p, xs, k, j, rfl, rfl, hp, hj, q⟩ := h;cases ro;obtain ⟨t, rfl⟩ := ri;obtain ⟨its, n, r, ho, hz⟩ := I.lst hp;obtain ⟨h1, h2, h3, h4⟩ := zf9 hj;have hl := r.length;have hn := Xs;have I' : Inv X pins σ (upd H p (.lst (xs.set j v))) { s with heap := s.heap.update p (Obj.mapSeq (·.setIfInBounds j u)) } :=
  I.lstUpd hp ho (zey its n j u) (r.set rv j) (by rw [List.length_set]; exact hz) s.toks
 by_cases h0 : 0 ≤ k
 · have hk : k.toNat = j := by
    rw [seqIndex_of h0 h4] at h1;exact Option.some.inj h1
   exact PySem.W.ki_setAt ho h0 (by omega) (by rw [bq, ← hl]; exact h4) (by rw [hk]; exact ⟨_, I', q⟩)
 · have hk : (k + (its.toArray.size : Int)).toNat = j := by
    rw [seqIndex_neg (by omega) h3] at h1;rw [bq, ← hl];exact Option.some.inj h1
   exact PySem.W.ki_setBack ho (by omega) (by rw [bq, ← hl]; exact h3) (by omega) (by rw [hk]; exact ⟨_, I', q⟩)
theorem zaq (lo hi : Option Int) (n : Nat) : (sliceBounds lo hi none n).1 = ((HT.sIx n 0 lo : Nat) : Int) ∧ (sliceBounds lo hi none n).2.1 = ((HT.sIx n n hi : Nat) : Int) ∧ (sliceBounds lo hi none n).2.2 = 1 := by
 refine ⟨?_, ?_, rfl⟩
 · cases lo with
   | none => simp [sliceBounds, HT.sIx]
   | some i =>
     simp only [sliceBounds, HT.sIx, Option.getD_none, show (1 : Int) > 0 by decide, if_true];by_cases h : i < 0
     · simp only [h, if_true] <;> omega
     · simp only [h, if_false] <;> omega
 · cases hi with
   | none => simp [sliceBounds, HT.sIx]
   | some i =>
     simp only [sliceBounds, HT.sIx, Option.getD_none, show (1 : Int) > 0 by decide, if_true];by_cases h : i < 0
     · simp only [h, if_true] <;> omega
     · simp only [h, if_false] <;> omega
theorem J5 (its : List Value) (lo hi : Option Int) : slicePick its.toArray lo hi none = ((its.drop (HT.sIx its.length 0 lo)).take (HT.sIx its.length its.length hi - HT.sIx its.length 0 lo)).toArray := by
 obtain ⟨h1, h2, h3⟩ := zaq lo hi its.toArray.size;unfold slicePick;rw [h1, h2, h3];simp only [sliceRange_one, pick_run, bq] <;> rfl
noncomputable def zou (K : PySem.W.Frag) : V → Option Int → Option Int → Hp → VK → Prop := fun x lo hi H Q => ∃ a xs, x = .ref a ∧ SqL K H a xs ∧ ∀ p, H p = none → Q (.ref p) (upd H p (.lst (Z7 xs lo hi)))
theorem je : SlR X (zou X.K) := by
 intro pins s σ H x v vl vu lo hi sl Q I rx hs pl pu h;obtain ⟨a, xs, rfl, hx, q⟩ := h;cases rx;obtain ⟨its, r, ht, hz⟩ := I.list hx;have hlen := r.length;refine ⟨"list", _, slot_list_getitem.lookup, ht.isList.typeIs, ?_⟩;refine wpAny_getItem_list_slice ht.isList hs pl pu .none (by simp) ?_ (by rw [bq] <;> omega);rw [J5, ← hlen];refine ⟨.ref s.heap.objs.size, _, I.laid (t' := s.toks) (o := .lst (Z7 xs lo hi)) (fun b ob q => ap _ q) (ai _) ?_, rfl, q _ (I.hok.fresh (ai _))⟩;exact ⟨bp (V4 xs lo hi) hz, _, 0, (r.drop (HT.sIx xs.length 0 lo)).take (HT.sIx xs.length xs.length hi - HT.sIx xs.length 0 lo), bv _ rfl⟩
noncomputable def Zq : V → Bool
 | .non => true
 | .bl _ => true
 | .int _ => true
 | .str _ => true
 | _ => false
noncomputable def eqV : V → V → Bool
 | .non, .non => true
 | .bl a, .bl b => a == b
 | .bl a, .int b => (if a then 1 else 0) == b
 | .int a, .bl b => a == (if b then 1 else 0)
 | .int a, .int b => a == b
 | .str a, .str b => a == b
 | _, _ => false
theorem zpm {y : V} (ry : yq y u) (rx : yq x v) (fy : Zq y = true) (fx : Zq x = true) : SeqAt.EqAt A s u v (eqV y x) := by
 cases y with
 | non =>
   cases ry;cases x with
   | non => cases rx; exact SeqAt.EqAt.same _
   | bl b => cases rx; exact SeqAt.EqAt.none_bool b
   | int b => obtain ⟨t, rfl⟩ := rx; exact SeqAt.EqAt.none_int b t
   | str b => obtain ⟨t, rfl⟩ := rx; exact SeqAt.EqAt.none_str b t
   | _ => exact absurd (show false = true from fx) c8
 | bl a =>
   cases ry;cases x with
   | non => cases rx; exact SeqAt.EqAt.bool_none a
   | bl b => cases rx; exact SeqAt.EqAt.bool_bool a b
   | int b => obtain ⟨t, rfl⟩ := rx; exact SeqAt.EqAt.bool_int a b t
   | str b => obtain ⟨t, rfl⟩ := rx; exact SeqAt.EqAt.bool_str a b t
   | _ => exact absurd (show false = true from fx) c8
 | int a =>
   obtain ⟨t', rfl⟩ := ry;cases x with
   | non => cases rx; exact SeqAt.EqAt.int_none a t'
   | bl b => cases rx; exact SeqAt.EqAt.int_bool a t' b
   | int b => obtain ⟨t, rfl⟩ := rx; exact SeqAt.EqAt.int_int a t' b t
   | str b => obtain ⟨t, rfl⟩ := rx; exact SeqAt.EqAt.int_str a t' b t
   | _ => exact absurd (show false = true from fx) c8
 | str a =>
   obtain ⟨t', rfl⟩ := ry;cases x with
   | non => cases rx; exact SeqAt.EqAt.str_none a t'
   | bl b => cases rx; exact SeqAt.EqAt.str_bool a t' b
   | int b => obtain ⟨t, rfl⟩ := rx; exact SeqAt.EqAt.str_int a t' b t
   | str b => obtain ⟨t, rfl⟩ := rx; exact SeqAt.EqAt.str_str a t' b t
   | _ => exact absurd (show false = true from fx) c8
 | _ => exact absurd (show false = true from fy) c8
noncomputable def eqU (x : V) (u : Value) : Bool := match u with
 | .none => eqV .non x
 | .bool b => eqV (.bl b) x
 | .int i _ => eqV (.int i) x
 | .str z _ => eqV (.str z) x
 | _ => false
theorem zfa {y : V} (r : yq y u) (f : Zq y = true) : eqU x u = eqV y x := by
 cases y with
 | non => cases r; rfl
 | bl b => cases r; rfl
 | int i => obtain ⟨t, rfl⟩ := r; rfl
 | str z => obtain ⟨t, rfl⟩ := r; rfl
 | _ => exact absurd (show false = true from f) c8
theorem W4 {x : V} : ∀ {xs : List V} {us : List Value}, yn xs us → xs.all Zq = true → us.any (eqU x) = xs.any fun y => eqV y x
 | _, _, .nil, _ => rfl
 | y :: xs, u :: us, .cons r t, f => by
   rw [List.all_cons, bu] at f;rw [List.any_cons, List.any_cons, zfa r f.1, W4 t f.2]
theorem ki {A : Around} {s : Shared} {x : V} {v : Value} (rx : yq x v) (fx : Zq x = true) : ∀ {xs : List V} {us : List Value}, yn xs us → xs.all Zq = true → ∀ u ∈ us, SeqAt.EqAt A s u v (eqU x u)
 | _, _, .nil, _ => fun u hu => by cases hu
 | y :: xs, u :: us, .cons r t, f => fun u' hu => by
   rw [List.all_cons, bu] at f;rcases ag.mp hu with rfl | hu
   · rw [zfa r f.1]; exact zpm r rx f.1 fx
   · exact ki rx fx t f.2 u' hu
noncomputable def inV (x : V) (xs : List V) : Bool := xs.any fun y => eqV y x
noncomputable def rIn (K : PySem.W.Frag) (neg : Bool) : R2 := fun x y H Q => ∃ p xs, y = .ref p ∧ (SqL K H p xs ∨ SqT K H p xs) ∧ Zq x = true ∧ xs.all Zq = true ∧ Q (.bl (if neg then !inV x xs else inV x xs)) H
theorem jb : OpR X (compareOp .In) (rIn X.K false) := by
 intro pins s σ H x y v u Q I rx ry h;obtain ⟨p, xs, rfl, hq, fx, fs, q⟩ := h;cases ry;rcases hq with hq | hq
 · obtain ⟨its, r, pl, hz⟩ := I.list hq;refine SeqAt.in_listAt (eqU x) pl.isList (fun w hw => ki rx fx r fs w (by simpa using hw)) ⟨.bl _, H, I, rfl, ?_⟩;rw [show its.toArray.any (eqU x) = its.any (eqU x) by simp, W4 r fs];exact q
 · obtain ⟨its, r, pl, hz⟩ := I.tuple hq;refine SeqAt.in_tupleAt (eqU x) pl (fun w hw => ki rx fx r fs w (by simpa using hw)) ⟨.bl _, H, I, rfl, ?_⟩;rw [show its.toArray.any (eqU x) = its.any (eqU x) by simp, W4 r fs];exact q
theorem zaz : OpR X (compareOp .NotIn) (rIn X.K true) := by
 intro pins s σ H x y v u Q I rx ry h;obtain ⟨p, xs, rfl, hq, fx, fs, q⟩ := h;cases ry;rcases hq with hq | hq
 · obtain ⟨its, r, pl, hz⟩ := I.list hq;refine SeqAt.notIn_listAt (eqU x) pl.isList (fun w hw => ki rx fx r fs w (by simpa using hw)) ⟨.bl _, H, I, rfl, ?_⟩;rw [show its.toArray.any (eqU x) = its.any (eqU x) by simp, W4 r fs];exact q
 · obtain ⟨its, r, pl, hz⟩ := I.tuple hq;refine SeqAt.notIn_tupleAt (eqU x) pl (fun w hw => ki rx fx r fs w (by simpa using hw)) ⟨.bl _, H, I, rfl, ?_⟩;rw [show its.toArray.any (eqU x) = its.any (eqU x) by simp, W4 r fs];exact q
theorem yg : Zu X (.builtin "len") (fun xs H Q => ∃ p ys, xs = [.ref p] ∧ (SqL X.K H p ys ∨ SqT X.K H p ys) ∧ Q (.int ys.length) H) := by
 intro pins s σ H xs us Q I r h;obtain ⟨p, ys, rfl, hq, q⟩ := h;obtain ⟨u, rfl, rx⟩ := j6 r;cases rx;have hn := Xs;rcases hq with hq | hq
 · obtain ⟨its, r', pl, hz⟩ := I.list hq;have hlen := r'.length;exact Calls.call_len_list pl.isList (by simp only [bq] <;> omega) ⟨.int ys.length, H, I.tok _, ⟨s.toks + 1, by rw [bq, hlen]⟩, q⟩
 · obtain ⟨its, r', pl, hz⟩ := I.tuple hq;have hlen := r'.length;exact len_tuple pl (by simp only [bq] <;> omega) ⟨.int ys.length, H, I.tok _, ⟨s.toks + 1, by rw [bq, hlen]⟩, q⟩
theorem Z8 : Zu X (.builtin "len") (fun xs H Q => ∃ z, xs = [.str z] ∧ z.length ≤ sizeLine ∧ Q (.int z.length) H) := by
 intro pins s σ H xs us Q I r h;obtain ⟨z, rfl, hz, q⟩ := h;obtain ⟨u, rfl, t, rfl⟩ := j6 r;have hn := Xs;exact len_str (by omega) ⟨.int z.length, H, I.tok _, ⟨_, rfl⟩, q⟩
theorem yv : Zu X (.type "tuple") (fun xs H Q => ∃ p ys, xs = [.ref p] ∧ ((SqL X.K H p ys ∧ ∀ l, H l = none → Q (.ref l) (upd H l (.tup ys))) ∨ (SqT X.K H p ys ∧ Q (.ref p) H))) := by
 intro pins s σ H xs us Q I r h;obtain ⟨p, ys, rfl, h⟩ := h;obtain ⟨u, rfl, rx⟩ := j6 r;cases rx;rcases h with ⟨hq, q⟩ | ⟨hq, q⟩
 · obtain ⟨its, r', pl, hz⟩ := I.list hq;have hlen := r'.length;refine call_tuple_list pl.isList (fun h' kp => ?_) (by simp only [bq] <;> omega);have I1 : Inv X pins σ H { s with heap := h' } := I.kept (t' := s.toks) kp;have I2 : Inv X pins σ (upd H h'.objs.size (.tup ys)) { s with heap := h'.push { cls := .type "tuple", data := .seq its.toArray } } :=
    I1.laid (t' := s.toks) (fun b o e => ap _ e) (ai _) (show yw X.prog X.w _ _ _ (.tup ys) from ⟨hz, its, r', IsTup.new _ _, NoD.push⟩)
   exact ⟨.ref h'.objs.size, _, I2, rfl, q _ (I1.hok.fresh (ai _))⟩
 · obtain ⟨its, r', pl, hz⟩ := I.tuple hq;exact call_tuple_same pl ⟨.ref p, H, I, rfl, q⟩
noncomputable def tyV (K : PySem.W.Frag) (T : String) (x : V) (H : Hp) : Prop := match x with
 | .str _ => T = "str"
 | .int _ => T = "int"
 | .ref p => (T = "list" ∧ ∃ xs, SqL K H p xs) ∨ (T = "tuple" ∧ ∃ o, K.lookup p = some o ∧ o.cls = .type "tuple" ∧ o.dict = none) ∨
  (T = "dict" ∧ ((∃ kvs, H p = some (.dK kvs)) ∨ ∃ kvs, H p = some (.dT kvs))) ∨ (T = "set" ∧ ∃ S n, H p = some (.set S n))
 | _ => False
theorem zir {T : String} (I : Inv X pins σ H s) (r : yq x v) (ty : tyV X.K T x H) :
  s.TypeIs v T ∧ ∀ a, v = .ref a → ∃ ob, s.heap.get? a = some ob ∧ ob.dict = none := by
 cases x with
 | str z =>
   obtain ⟨t, rfl⟩ := r;cases (show T = "str" from ty);exact ⟨typeIs_str s z t, fun _ e => nomatch e⟩
 | int i =>
   obtain ⟨t, rfl⟩ := r;cases (show T = "int" from ty);exact ⟨typeIs_int s i t, fun _ e => nomatch e⟩
 | ref p =>
   cases r;rcases ty with ⟨rfl, xs, hq⟩ | ⟨rfl, o, hk, hc, hd⟩ | ⟨rfl, hk⟩ | ⟨rfl, S, n, hk⟩
   · obtain ⟨its, _, pl, _⟩ := I.list hq;refine ⟨pl.isList.typeIs, fun a e => ?_⟩;cases e;obtain ⟨o, n, e, c, hd, _⟩ := pl;exact ⟨o, e, hd⟩
   · refine ⟨⟨o, I.kIn p o hk, hc⟩, fun a e => ?_⟩;cases e;exact ⟨o, I.kIn _ o hk, hd⟩
   · have z : ∃ o, s.heap.get? p = some o ∧ o.ExactDict := by
      rcases hk with ⟨kvs, hk⟩ | ⟨kvs, hk⟩
      · obtain ⟨_, _, _, _, o, _, _, e, ex, _⟩ := I.hok p _ hk;exact ⟨o, e, ex⟩
      · obtain ⟨_, _, _, _, o, _, _, e, ex, _⟩ := I.hok p _ hk;exact ⟨o, e, ex⟩
     obtain ⟨o, e, ex⟩ := z;refine ⟨⟨o, e, ex.1⟩, fun a e2 => ?_⟩;cases e2;exact ⟨o, e, ex.2.1⟩
   · obtain ⟨o, _, _, _, e, ex, _⟩ := I.hok p _ hk;refine ⟨⟨o, e, ex.1⟩, fun a e2 => ?_⟩;cases e2;exact ⟨o, e, ex.2.1⟩
 | _ => exact False.elim ty
noncomputable def ztj (K : PySem.W.Frag) (T : String) (r : V → List V → Hp → VK → Prop) (to : TE) : TE := fun σ H Q => to σ H fun x H1 => tyV K T x H1 ∧ r x [] H1 Q
noncomputable def tBM (K : PySem.W.Frag) (T : String) (r : V → List V → Hp → VK → Prop) (to : TE) (t : TA) : TE := fun σ H Q => to σ H fun x H1 => tyV K T x H1 ∧ t σ H1 fun xs H2 => r x xs H2 Q
variable {o : Expr} {to : TE} {t : TA} {name : Str} {apos cpos : Pos} {T id : String} {r : V → List V → Hp → VK → Prop}
theorem zjx (pa : PlainAttrs T) (slot : Slot T name id) (hty : typeOf (.builtin id) = pure (.type "method_descriptor")) (hm : MtR X id r) (ho : PE X o to)
  (hbase : attributeBase o name X.env (eval o X.env) = eval o X.env := by rfl) (hline : (apos.endLine == cpos.line) = true := by rfl) : PE X (.Call (.Attribute o name apos) [] [] cpos) (ztj X.K T r to) := by
 intro pins s σ H Q I h;refine wpAny_Call_method0_late hbase hline (thn (ho pins s σ H _ I h) fun v s1 ⟨x, H1, I1, r1, ty, q1⟩ => ?_);obtain ⟨h1, h2⟩ := zir I1 r1 ty;exact ⟨T, id, pa, slot, hty, h1, h2, Calls.callWith_builtin rfl (PySem.evalArgs_none (hm pins s1 σ H1 x [] v [] Q I1 r1 .nil q1))⟩
theorem wn (pa : PlainAttrs T) (slot : Slot T name id) (hty : typeOf (.builtin id) = pure (.type "method_descriptor")) (hm : MtR X id r) (ho : PE X o to) (ha : PA X (e :: es) t)
  (hbase : attributeBase o name X.env (eval o X.env) = eval o X.env := by rfl)
  (hfew : ((backTo cpos (starEach (e :: es) X.env)).all (fun x => !x.1) && (backToKw cpos (keywordEach [] X.env)).all (fun x => x.1.isSome)
   && decide ((e :: es).length + ([] : List Keyword).length + (if ([] : List Keyword).isEmpty then 0 else 1) < 30)) = true := by rfl)
  (hline : (apos.endLine == cpos.line) = true := by rfl) (hs : starEach (e :: es) X.env = (false, eval e X.env) :: starEach es X.env := by rfl) (hplain : (backTo cpos (starEach es X.env)).any (·.1) = false := by rfl) :
  PE X (.Call (.Attribute o name apos) (e :: es) [] cpos) (tBM X.K T r to t) := by
 intro pins s σ H Q I h;refine wpAny_Call_method_late hbase hfew hline rfl (thn (ho pins s σ H _ I h) fun v s1 ⟨x, H1, I1, r1, ty, q1⟩ => ?_);obtain ⟨h1, h2⟩ := zir I1 r1 ty;refine ⟨T, id, pa, slot, hty, h1, h2, ?_⟩;have hA := ha cpos pins s1 σ H1 _ I1 q1;rw [hs] at hA ⊢;refine Calls.callWith_builtin (by show (false || (backTo cpos (starEach es X.env)).any (·.1)) = false; rw [hplain] <;> rfl) (Calls.evalArgs_plain ?_);exact thn hA fun us s2 ⟨vs, H2, I2, r2, q2⟩ => hm pins s2 σ H2 x vs v us Q I2 r1 r2 q2
/- xs.append(e), list.index on a module's tuple .. are MtR facts of 06m -/
end
noncomputable def MtM (X : Cx) (id : String) (r : V → List V → Hp → VK → Prop) : Prop :=
 ∀ (pins : List (Addr × Obj)) (s : Shared) (σ : St) (H : Hp) (x : V) (xs : List V) (v : Value) (us : List Value) (Q : VK), Inv X pins σ H s → yq x v → yn xs us → r x xs H Q →
   wpAny (model X.prog X.w) X.A (call (.builtin id) (v :: us)) (EP X pins σ Q) X.xe s
theorem yn.one : ∀ {x : V} {us : List Value}, yn [x] us → ∃ u, us = [u] ∧ yq x u
 | _, _, .cons r .nil => ⟨_, rfl, r⟩
theorem yn.zero : ∀ {us : List Value}, yn [] us → us = []
 | _, .nil => rfl
section
variable {l b : Addr} {zs : List V}
theorem Inv.lset {f : Array Value → Array Value} (I : Inv X pins σ H s) (hH : H l = some (.lst xs))
  (e : s.heap.get? l = some { cls := .type "list", data := .seq its.toArray n }) (hf : f its.toArray = its'.toArray) (hv : yn ys its') (hz : ys.length ≤ sizeLine) :
  Inv X pins σ (upd H l (.lst ys)) { s with heap := s.heap.update l (Obj.mapSeq f), toks := t' } := by
 have q := PySem.IsL.update e f;rw [hf] at q;refine I.write (x := l) (e := l) (by rw [hH]; exact trivial) (.inl rfl) (fun b' u hb hu => (Heap.get?_update_other s.heap (Obj.mapSeq f) (ak hb)).trans hu) ⟨_, q⟩ ?_;exact ⟨hz, its', _, hv, q⟩
theorem Inv.lnew (I : Inv X pins σ H s) (hv : yn ys its) (hz : ys.length ≤ sizeLine) :
  Inv X pins σ (upd H s.heap.objs.size (.lst ys)) { s with heap := s.heap.push { cls := .type "list", data := .seq its.toArray }, toks := t' } :=
 I.laid (fun _ _ q => ap _ q) (ai _) ⟨hz, its, 0, hv, bv _ rfl⟩
theorem Inv.fresh (I : Inv X pins σ H s) : H s.heap.objs.size = none := I.hok.fresh (ai _)
theorem Inv.lstM (I : Inv X pins σ H s) (hH : H l = some (.lst xs)) : xs.length ≤ sizeLine ∧ ∃ (its : List Value) (n : Nat), yn xs its ∧ xs.length = its.length ∧ s.heap.get? l = some { cls := .type "list", data := .seq its.toArray n } := by
 obtain ⟨z, its, n, r, e⟩ := I.hok l _ hH;exact ⟨z, its, n, r, r.length, e⟩
end
section
noncomputable def zmj : V → List V → Hp → VK → Prop := fun x vs H Q => ∃ l xs y, x = .ref l ∧ vs = [y] ∧ H l = some (.lst xs) ∧ xs.length < sizeLine ∧ Q .non (upd H l (.lst (xs ++ [y])))
theorem xb : MtM X "list.append" zmj := by
 intro pins s σ H x vs v us Q I rx rv h;obtain ⟨l, xs, y, rfl, rfl, hH, hz, q⟩ := h;cases rx;obtain ⟨u, rfl, ru⟩ := rv.one;obtain ⟨z, its, n, r, hl, e⟩ := I.lstM hH;refine call_meets F.slot_list_append ⟨_, e, rfl⟩ F.entry_list_append (F.args_list_append_2 _ _) (PySem.list_append l its.toArray n u (by rw [bq]; omega)) ⟨e, ?_⟩;refine ⟨.non, _, I.lset (its' := its ++ [u]) hH e (by simp) (r.append (.cons ru .nil)) ?_, rfl, q⟩;rw [ar, ce];omega
noncomputable def zjn : R2 := fun x y H Q => ∃ l b xs zs, x = .ref l ∧ y = .ref b ∧ H l = some (.lst xs) ∧ H b = some (.lst zs) ∧ xs.length + zs.length ≤ sizeLine ∧ ∀ p, H p = none → Q (.ref p) (upd H p (.lst (xs ++ zs)))
theorem qd : OpR X (binaryOp .Add) zjn := by
 intro pins s σ H x y v u Q I rx ry h;obtain ⟨l, b, xs, zs, rfl, rfl, hH, hB, hz, q⟩ := h;cases rx;cases ry;obtain ⟨z, its, n, r, hl, e⟩ := I.lstM hH;obtain ⟨z2, its2, n2, r2, hl2, e2⟩ := I.lstM hB;refine PySem.P.add_list e e2 ?_ (by rw [bq, bq]; omega);have ea : its.toArray ++ its2.toArray = (its ++ its2).toArray := by simp
 rw [ea];exact ⟨.ref _, _, I.lnew (t' := s.toks) (r.append r2) (by rw [ar]; omega), rfl, q _ I.fresh⟩
end
section
variable {prog : Program} {w : World}
set_option maxRecDepth 100000 in
end
section
end
end L2
namespace Att
open PySem PySem.W PySem.Calls PyProof.Rows
variable {A : Around} {h : Heap} {vals : List Value} {n : Nat} {q : Program} {s : Shared} {E : Value → Shared → Prop}
theorem V9 {P : Params} : ∀ (ns : List Int) (vs : List Value), WellAll P h vs (ns.map WData.int) → IntsAre vs ns := by
 intro ns;induction ns with
 | nil =>
   intro vs w;rw [List.map_nil] at w;cases w;exact .nil
 | cons n ns ih =>
   intro vs w;rw [bh] at w;cases w with
   | cons a b =>
     cases a;exact .cons _ _ (ih _ b)
theorem zg3 {l : OpenLaw} (hn : l.most = some n) {P : Params} {args : List WData}
  (hpre : l.row.toRowW.claim.pre args = true) (hwl : WellAll P h vals args) :
  ∃ a vs ns, vals = [Value.ref a] ∧ args = [WData.list (ns.map WData.int)] ∧ h.get? a = some { cls := .type "list", data := .seq vs.toArray } ∧ IntsAre vs ns ∧ ns.length ≤ n := by
 have hsh : WShape.hasAll [] args [.list .int] = true := (pre_splitW hpre).1;have hc : l.pre.holds [] { args := args } = true := (pre_splitW hpre).2;obtain ⟨d, r, rfl, h1, h2⟩ := hasAllW_cons hsh;obtain rfl := hasAllW_nil h2;obtain ⟨xs, rfl, h3⟩ := hasW_list h1;obtain ⟨ns, rfl⟩ := items_int h3;have hlen : ns.length ≤ n := by
  unfold OpenLaw.pre at hc;have h4 : (WTm.not (.lt (.lit (.int (n : Int))) (.len (.arg 0)))).holds [] { args := [.list (ns.map .int)] } = true := by
   have h4 := (holds_andW hc).1;rw [hn] at h4;exact h4
  have h5 := condW_of h4 (w_not (w_lt w_lit (w_len_list (w_arg rfl))));rw [ae] at h5;refine Nat.le_of_not_lt fun q => ?_;have q' : (n : Int) < ((ns.length : Nat) : Int) := by omega
  first
   | (rw [au q'] at h5; exact absurd h5 (by decide))
   | (simp at h5; omega)
 cases hwl with
 | cons w1 w2 =>
   cases w2;cases w1 with
   | list ho hall => exact ⟨_, _, ns, rfl, rfl, ho, V9 ns _ hall, hlen⟩
theorem zg9 (l : OpenLaw) (args : List WData) : l.row.toRowW.claim.post args (.bool true) args = true :=
 postW_of (r := l.row.toRowW) (X := (true == true))
  (show WShape.has [] (.bool true) .bool = true by first | rfl | decide | simp [WShape.has, WShape.arms, WShape.armsAll])
  (show (WTm.eq .res (.lit (.bool true))).value [] { args := args, res := some (.bool true), after := args } = some (.bool (true == true)) from w_eq_bool (w_res rfl) w_lit) rfl
theorem attach_call {l : OpenLaw} {loose : List Str} {XP : (Str → Option Value) → Heap → Prop} {YP : World → Heap → Prop} {d : DefRec}
  (hn : l.most = some n) (hdf : d.params.defaults = [])
  (call : ∀ (w : World) (s₀ s₁ : Shared) (mg mb : Str → Option Value) (fa : Addr) (o : Obj) (pm cd doc : Value) (a : Addr) (vs : List Value) (ns : List Int),
   Ground q loose [] XP w s₀ mg mb s₁.heap → YP w s₁.heap →
   s₁.heap.get? fa = some o → o.data = .func (docDef d.name d.params d.body d.scope pm cd doc) → s₁.heap.CodeRec cd d.name → mg d.name = some (.ref fa) →
   s₁.heap.get? a = some { cls := .type "list", data := .seq vs.toArray } → IntsAre vs ns → ns.length ≤ n → s₁.gens = #[] →
   codeAny (model l.prog w) callerA (.call (.ref fa) ⟨[.ref a], []⟩) (fun r s' => r = .ok (.ret (.bool true)) ∧ OldK s₁.heap s'.heap ∧ s'.os = s₁.os ∧ AllBare s'.gens) s₁) :
  WalkO q loose XP YP l.row.toRowW d [] (fun f vs => PySem.call f vs) := by
 intro w s₀ s₁ mg mb G Y fa o pm cd doc dV kV ho hd hcd hD hmg hg args vals as hpre hlay hrd hwl hlo;obtain rfl : dV = .none := Dflts.none hD hdf;obtain rfl : kV = .none := Dflts.noKw hD;obtain ⟨a, vs, ns, rfl, rfl, hobj, hints, hlen⟩ := zg3 hn hpre hwl;refine enter_call (codeAny_mono (call w s₀ s₁ mg mb fa o pm cd doc a vs ns G Y ho (fd_plain hd) hcd hmg hobj hints hlen hg) fun r s' hq => ?_);obtain ⟨rfl, h2, h3, h4⟩ := hq;exact ⟨.inl ⟨.bool true, .bool true, [], rfl, fun _ => rfl, .bool true, zg9 l _, fun _ => ⟨List.Pairwise.nil, fun _ hm => (nomatch hm)⟩⟩, h2, h3, h4⟩
section
variable {prog : Program} {w : World} {K : Frag}
end
end Att
namespace L2
open PySem PySem.Spec PyProof.Rows
variable {a c f it p t : Addr} {A : Around} {osl sl : Array (Option Value)} {its : Array Value} {X : Cx} {D : Ends} {env : Env} {tg : Expr} {fd : FuncData} {h' : Heap} {H H' H2 : Hp} {lo : Int} {pins pins' : List (Addr × Obj)} {kvs : List (Key × V)} {fp : List Addr} {elts ifs : List Expr} {ns : List Int} {cap : List Nat} {ps : List Str} {xs : List V} {us vs : List Value} {i n : Nat} {o : Obj} {pos : Pos} {P prog q : Program} {K : PySem.W.Frag} {R : Result → Shared → Prop} {scope : Scope} {s s' : Shared} {σ σ' : St} {st : Stmt} {qual x : Str} {mb mg : Str → Option Value} {ta : TA} {te : TE} {g : TG} {tb : TS} {tc : TT} {v : V} {old : Value} {E Ex Q : Value → Shared → Prop} {w : World}
theorem Kg : ∀ {vs : List Value} {ns : List Int}, IntsAre vs ns → yn (ns.map V.int) vs
 | _, _, .nil => .nil
 | _, _, .cons n t h => .cons ⟨t, rfl⟩ (Kg h)
noncomputable def zp8 (H : Hp) : Prop := ∀ b, H b = none ∨ ∃ o xs, H b = some (.frz o (.lst xs))
theorem zkj {CX : CXT} {k : Nat} {fa : Addr} {sp : Sp} {s₁ : Shared}
  (KX : K.In s₁.heap) (hns : s₁.heap.Ns mainGlobals mg) (hb : s₁.heap.Ns builtinsNs mb) (hbb : ∀ x : Str, x ≠ "__name__" → mb x = bootBuiltins x) (hlim : s₁.heap.NoLimit) (hg : s₁.gens = #[])
  (ha : s₁.heap.get? a = some { cls := .type "list", data := .seq vs.toArray }) (hi : IntsAre vs ns) (hl : ns.length ≤ sizeLine) (hr : Room k callerA)
  (F : ∀ base : Heap, K.In base → base.Ns mainGlobals mg → FnOk P w K mg base CX k fa fd [x] sp) (hbind : ∀ (s : Shared) (u : Value), BindsTo s fd ⟨[u], []⟩ [(x, u)])
  (hsp : ∀ H : Hp, zp8 H → SqL K H a (ns.map V.int) → sp [.ref a] H (fun v _ => v = .bl true) fun _ _ _ => False)
  (hCX : ∀ H e s', CX [] H s₁ (fun _ _ _ => False) e s' → False) :
  codeAny (model P w) callerA (.call (.ref fa) ⟨[.ref a], []⟩) (fun r s' => r = .ok (.ret (.bool true)) ∧ OldK s₁.heap s'.heap ∧ s'.os = s₁.os ∧ AllBare s'.gens) s₁ := by
 have rv := Kg hi;have lenV := hi.length;have core : ∀ H : Hp, zp8 H → SqL K H a (ns.map V.int) → HOk P w H s₁.heap → (∀ b, H b ≠ none → b = a) → (H a ≠ none → K.lookup a = none) →
   codeAny (model P w) callerA (.call (.ref fa) ⟨[.ref a], []⟩) (fun r s' => r = .ok (.ret (.bool true)) ∧ OldK s₁.heap s'.heap ∧ s'.os = s₁.os ∧ AllBare s'.gens) s₁ := by
  intro H hO hS hok hA hK;have base_of : ∀ {b : Addr} {o : Obj}, s₁.heap.get? b = some o → H b = none → (zbi s₁.heap H).get? b = some o := fun e n => zku e n;have noA : ∀ {b : Addr} {o : Obj} {es : Array DictEntry} {ep : Nat}, s₁.heap.get? b = some o → o.data = .dict es ep → H b = none := fun {b o es ep} e d => by
   cases q : H b with
   | none => rfl
   | some u =>
     have e' : b = a := hA b (by rw [q]; simp);subst e';rw [ha] at e; cases e;have d' : Data.seq vs.toArray _ = Data.dict es ep := d;cases d'
  have nsK : ∀ {b : Addr} {m : Str → Option Value}, s₁.heap.Ns b m → (zbi s₁.heap H).Ns b m := fun {b m} ⟨o, es, ep, e, d, r⟩ => ⟨o, es, ep, base_of e (noA e d), d, r⟩
  have hKb : K.In (zbi s₁.heap H) := fun b o e => base_of (KX b o e) (by
   cases q : H b with
   | none => rfl
   | some u =>
     have e' : b = a := hA b (by rw [q]; simp);subst e';rw [hK (by rw [q]; simp)] at e; cases e)
  have hM : Mod K mg (zbi s₁.heap H) := ⟨hKb, nsK hns, ⟨mb, nsK hb, hbb⟩, let ⟨mc, h1, h2⟩ := hlim; ⟨mc, nsK h1, h2⟩⟩
  have e0 : Env0 P w K mg (zbi s₁.heap H) callerA [] s₁ H := ⟨rfl, hM, fun b o e => zmu e, Nat.le_of_eq (zhv _ _), trivial, fun b hb => absurd (show b ∈ ([] : List Addr) from hb) (by simp), hok, .of_eq hg⟩
  refine codeAny_mono ((F _ hKb (nsK hns)).run callerA [] s₁ H ⟨[.ref a], []⟩ [.ref a] [.ref a] _ _ hr e0 (hbind s₁ (.ref a)) (.cons rfl .nil) (hsp H hO hS)) fun r s' h => ?_;cases r with
  | error e => exact (hCX H e s' h).elim
  | ok fl =>
    cases fl with
    | next => exact False.elim h
    | brk => exact False.elim h
    | cont => exact False.elim h
    | ret u =>
      obtain ⟨v, H', os, bare, un, hok', r', q⟩ := h;have q' : v = .bl true := q;subst q';obtain rfl : u = Value.bool true := r';refine ⟨rfl, OldK.of_keep fun b o e => ?_, os, bare⟩;cases q : H b with
      | none => exact un.keep b o e q (by intro z; exact absurd (show b ∈ ([] : List Addr) from z) (by simp)) (by simp)
      | some u =>
        rcases hO b with z | ⟨ob, xs, z⟩
        · rw [q] at z; cases z
        · have z2 := un.frzs b ob _ z;obtain ⟨e1, _⟩ := hok b _ z;obtain ⟨e2, _⟩ := hok' b _ z2;rw [e] at e1; cases e1;exact e2
 cases hk : K.lookup a with
 | some o =>
   have e := KX a o hk;rw [ha] at e;cases e;refine core (fun _ => none) (fun _ => .inl rfl) (.inr ⟨_, vs.toArray, _, hk, rfl, rfl, rfl, by rw [bq, lenV]; exact hl, by simpa using rv⟩) (fun b u z => by have z' : (none : Option HO) = some u := z; cases z') (fun b z => absurd rfl z) fun z => absurd rfl z
 | none =>
   refine core (fun b => if b = a then some (.frz { cls := .type "list", data := .seq vs.toArray } (.lst (ns.map V.int))) else none) (fun b => ?_) (.inl (.inr ⟨{ cls := .type "list", data := .seq vs.toArray }, if_pos rfl⟩)) (fun b u z => ?_) (fun b z => ?_) fun _ => hk
   · by_cases hb : b = a
     · exact .inr ⟨_, _, if_pos hb⟩
     · exact .inl (if_neg hb)
   · by_cases hb : b = a
     · have z' := (if_pos hb).symm.trans z;cases z';subst hb;exact ⟨ha, by rw [ae]; exact hl, vs, _, rv, ha⟩
     · have z' := (if_neg hb).symm.trans z;cases z'
   · by_cases hb : b = a
     · exact hb
     · exact absurd (if_neg hb) z
theorem walk_of {l : PySem.W.OpenLaw} {k : Nat} {loose : List Str} {XP : (Str → Option Value) → Heap → Prop} {YP : World → Heap → Prop} {d : DefRec} {K : Params → PySem.W.Frag} {CX : World → CXT} {sp : World → Sp}
  (hn : l.most = some n) (hn2 : n ≤ sizeLine) (hdf : d.params.defaults = []) (hr : Room k callerA)
  (hY : ∀ (w : World) (h : Heap), YP w h → (K w.params).In h)
  (F : ∀ (w : World) (mg : Str → Option Value) (fa : Addr) (h : Heap), (K w.params).In h → h.Ns mainGlobals mg → mg d.name = some (.ref fa) →
   ∃ fd : FuncData, (∀ (s : Shared) (u : Value), BindsTo s fd ⟨[u], []⟩ [(x, u)]) ∧
     ∀ base : Heap, (K w.params).In base → base.Ns mainGlobals mg → FnOk l.prog w (K w.params) mg base (CX w) k fa fd [x] (sp w))
  (hsp : ∀ (w : World) (H : Hp) (a : Addr) (ns : List Int), ns.length ≤ n → zp8 H → SqL (K w.params) H a (ns.map V.int) → sp w [.ref a] H (fun v _ => v = .bl true) fun _ _ _ => False)
  (hCX : ∀ (w : World) (H : Hp) (s : Shared) (e : Value) (s' : Shared), CX w [] H s (fun _ _ _ => False) e s' → False) :
  PySem.W.WalkO q loose XP YP l.row.toRowW d [] (fun f vs => PySem.call f vs) := by
 refine Att.attach_call hn hdf fun w s₀ s₁ mg mb fa o pm cd doc a vs ns G Y ho hd hcd hmg hobj hints hlen hg => ?_;have KX := hY w _ Y;obtain ⟨fd, hb, hF⟩ := F w mg fa _ KX G.T.g hmg;exact zkj KX G.T.g G.T.b G.T.builtins G.T.nolimit hg hobj hints (bp hlen hn2) hr hF hb (fun H hO hS => hsp w H a ns hlen hO hS) fun H e s' => hCX w H s₁ e s'
noncomputable def jx (s : Stmt) : Arguments := match s with
 | .FunctionDef _ a _ _ _ _ _ _ _ _ => a
 | _ => { posonlyargs := [], args := [], vararg := none, kwonlyargs := [], kw_defaults := [], kwarg := none, defaults := [] }
noncomputable def xg (s : Stmt) : List Stmt := match s with
 | .FunctionDef _ _ b _ _ _ _ _ _ _ => b
 | _ => []
noncomputable def zi (s : Stmt) : Scope := match s with
 | .FunctionDef _ _ _ _ _ _ sc _ _ _ => sc
 | _ => { kind := .function, names := [], isGenerator := false, isCoroutine := false }
abbrev CX0 : CXT := fun _ _ _ _ _ _ => False
abbrev E0 : XK := fun _ _ _ => False
theorem zrt : X1 CX0 X E0 := fun _ _ _ _ _ _ _ h => h.elim
structure Fun (K : PySem.W.Frag) (x qual : Str) (st : Stmt) (f : Addr) (fd : FuncData) : Prop where
 ex : ∃ (oc : Value) (od : Option Addr) (kV doc pm : Value) (an : Option Addr) (cdv ct : Value) (osl : Array (Option Value)),
  fd = PySem.W.fnOf x qual (jx st) (xg st) (zi st) .none kV doc pm an cdv ct ∧ K.lookup f = some ⟨oc, od, .func fd, osl⟩ ∧ PySem.W.codeIn K cdv qual = true
 kp : PySem.W.keepIn K (.ref f) = true
section
variable {base : Heap}
theorem Fun.ok {N : List Str} {k : Nat} {sp : Sp} (F : Fun K x qual st f fd) (S : FnScope N ps (zi st)) (len : ∀ vs H Q E, sp vs H Q E → vs.length = ps.length)
  (hbody : ∀ (cdv : Value) (A : Around) (outer : List Env) (s : Shared) (H : Hp) (vs : List V) (Q : VK) (E : XK), Room k (A.deeper (envOfC qual (zi st) s.heap.objs.size f cdv)) → sp vs H Q E →
   ∃ t, PSs (vn CX0 P w K mg base N qual (zi st) f cdv A outer s H E).nox (xg st) t ∧ t { nx := fun _ H' => Q .non H', rt := Q } (start N vs) H) : FnOk P w K mg base CX0 (k + 1) f fd ps sp := by
 obtain ⟨oc, od, kV, doc, pm, an, cdv, ct, osl, rfl, lk, hcd⟩ := F.ex;refine znz lk hcd S len fun A outer s H vs Q E hr hsp => ?_;obtain ⟨t, h, q⟩ := hbody cdv A outer s H vs Q E hr hsp;exact ⟨t, h.nox, q⟩
theorem Fun.binds (F : Fun K x qual st f fd)
  (h : ∀ (kV doc pm : Value) (an : Option Addr) (cdv ct : Value) (us : List Value), us.length = ps.length → bindArgs (PySem.W.fnOf x qual (jx st) (xg st) (zi st) .none kV doc pm an cdv ct) ⟨us, []⟩ = pure (ps.zip us)) : J2 K fd ps [] := by
 obtain ⟨oc, od, kV, doc, pm, an, cdv, ct, osl, rfl, lk, hcd⟩ := F.ex;exact .all (h kV doc pm an cdv ct)
theorem zpj {oc : Value} {od an : Option Addr} {kV doc pm cdv ct : Value} (l : K.lookup f = some ⟨oc, od, .func (PySem.W.fnOf x qual (jx st) (xg st) (zi st) .none kV doc pm an cdv ct), osl⟩)
 (c : PySem.W.codeIn K cdv qual = true) (k : PySem.W.keepIn K (.ref f) = true) : Fun K x qual st f (PySem.W.fnOf x qual (jx st) (xg st) (zi st) .none kV doc pm an cdv ct) := ⟨⟨oc, od, kV, doc, pm, an, cdv, ct, osl, rfl, l, c⟩, k⟩
theorem Ji {k : Nat} (hr : Room k A) : A.units + 1 < cLine := Nat.lt_of_le_of_lt (Nat.add_le_add_left (by decide : 1 ≤ 64) _) hr.units
theorem y7 (h : n ≤ 1000) : n < sizeLine := Nat.lt_of_le_of_lt h (by decide)
section
theorem pv (i : Nat) (hN : X.N[i]? = some x := by rfl) (hv : Vis X.env.scope x := by first | exact Or.inl rfl | exact Or.inr (Or.inl rfl) | exact Or.inr (Or.inr rfl)) (hd : (x == ("__debug__" : Str)) = false := by decide)
 (hcd : (x == ("__classdict__" : Str)) = false := by decide) : PE X (.Name x pos) (zao i) := zay hN hv hd hcd
end
theorem yl {A B : Prop} (h : B) : if false = true then A else B := by
 rw [if_neg c8];exact h
theorem yp {A B : Prop} (h : A) : if true = true then A else B := by
 rw [if_pos rfl];exact h
theorem vm {c A B : Prop} [Decidable c] (h1 : c → A) (h2 : ¬ c → B) : if c then A else B := by
 by_cases h : c
 · rw [if_pos h];exact h1 h
 · rw [if_neg h];exact h2 h
noncomputable def Same (H H' : Hp) : Prop := ∀ b o, H b = some o → H' b = some o
theorem Same.refl (H : Hp) : Same H H := fun _ _ h => h
theorem Same.trans {H1 : Hp} (a : Same H H1) (b : Same H1 H2) : Same H H2 := fun c o h => b c o (a c o h)
theorem Same.seq (e : Same H H') (h : SqL K H a xs) : SqL K H' a xs := by
 rcases h with (h | ⟨o, h⟩) | h
 · exact .inl (.inl (e _ _ h))
 · exact .inl (.inr ⟨o, e _ _ h⟩)
 · exact .inr h
section
variable {κ : Type} [DecidableEq κ]
theorem zl3 {kvs : List (κ × V)} {k : κ} (h : xz kvs k = some v) : k ∈ kvs.map (·.1) := by
 have q : (kvs.any fun kv => decide (kv.1 = k)) = true := by
  rw [Zi, h]
  all_goals rfl
 obtain ⟨p, hp, e⟩ := List.any_eq_true.mp q;exact ax.mpr ⟨p, hp, cb e⟩
end
section
theorem zbs {elt target iter : Expr} {it acc : Value} (I : Nat → Shared → Prop) (hEx : ∀ e s', Ex e s' → notedBy (model prog w) A env (fun x s'' => R (.error x) s'') e s')
  (turn : ∀ n s, I n s → wpAny (model prog w) A (pyNext it) (fun r s₁ => match r with
   | none => R (.ok .next) s₁
   | some v => wpAny (model prog w) A (letOwnedTupleGo target it v) (fun _ s₂ => wpAny (model prog w) A (assign target env v) (fun _ s₂ =>
    wpAny (model prog w) A (forIn ifs true fun c r => if r = true then do let ok ← isTrue c env (eval c env); pure (ForInStep.yield ok) else pure (ForInStep.yield r)) (fun ok s₃ =>
     if ok = true then wpAny (model prog w) A (eval elt env) (fun x s₄ =>
      wpAny (model prog w) A (call (.builtin "list.append") [acc, x]) (fun _ s₅ => ∃ m, m < n ∧ I m s₅) (fun _ _ => False) s₄) Ex s₃
     else ∃ m, m < n ∧ I m s₃) (fun _ _ => False) s₂) (fun _ _ => False) s₂) (fun _ _ => False) s₁) (fun _ _ => False) s)
  (n : Nat) (h : I n s) :
  codeAny (model prog w) A (.compLoop (.ListComp elt [⟨target, iter, ifs, 0⟩] scope pos) 0 it acc env) R s := by
 refine codeAny_loop rfl I (fun n s hI => ?_) n h;show wpAny _ A ((compTurn (.ListComp elt [⟨target, iter, ifs, 0⟩] scope pos) 0 it acc env).onRaise (fun x => do noteFrame x env; theTreesLotGoes x)) _ _ s;refine wpAny_noted ?_;rw [compTurn_list];refine aa (wpAny_standAt (aa (cn (turn n s hI) (fun r s₁ h₁ => ?_) fun _ _ h' => h'.elim)));cases r with
 | none => exact aj h₁
 | some v =>
   refine aa (cn h₁ (fun _ s₁ h₁ => ?_) fun _ _ h' => h'.elim);refine aa (cn h₁ (fun _ s₂ h₂ => aa (cn h₂ (fun ok s₃ h₃ => ?_) fun _ _ h' => h'.elim)) fun _ _ h' => h'.elim);cases ok with
   | false => exact aj ⟨rfl, h₃⟩
   | true =>
     exact aa (aa (cn h₃ (fun x s₄ h₄ => aa (cn h₄ (fun _ s₅ h₅ => aj (aj ⟨rfl, h₅⟩)) fun _ _ h' => h'.elim)) hEx))
end
noncomputable def clo (env : Env) : List (Str × NameKind) → List (Str × Addr) → List (Str × Addr)
 | [], cs => cs
 | (n, k) :: r, cs => if k == .free then clo env r ((n, (env.cells.lookup n).getD 0) :: cs) else clo env r cs
theorem kr (hf : ∀ x ∈ scope.names, x.2 = .free → ∃ c, env.cells.lookup x.1 = some c) : closureFor scope env = pure (clo env scope.names []) := by
 have go : ∀ (l : List (Str × NameKind)) (cs : List (Str × Addr)), (∀ x ∈ l, x.2 = .free → ∃ c, env.cells.lookup x.1 = some c) →
   (forIn (m := Sem) l cs fun x r => (if (x.2 == NameKind.free) = true then do let a ← cellOf env x.1; pure (ForInStep.yield ((x.1, a) :: r)) else pure (ForInStep.yield r))) = pure (clo env l cs) := by
  intro l;induction l with
  | nil => intro cs _; rfl
  | cons p r ih =>
    obtain ⟨n, k⟩ := p;intro cs h;have hr : ∀ x ∈ r, x.2 = .free → ∃ c, env.cells.lookup x.1 = some c := fun x hx => h x (aq _ hx);rw [List.forIn_cons];by_cases hk : k = .free
    · subst hk;obtain ⟨c, hc⟩ := h (n, .free) ao rfl;have e : cellOf env n = pure c := by unfold cellOf; dsimp only at hc; rw [hc]
      dsimp only;rw [if_pos (by rfl), e, pure_bind, pure_bind];dsimp only;rw [ih _ hr];dsimp only at hc;show _ = pure (if (NameKind.free == .free) = true then clo env r ((n, (env.cells.lookup n).getD 0) :: cs) else clo env r cs);rw [if_pos (by rfl), hc];rfl
    · have hk' : (k == NameKind.free) = false := by simpa using hk
      dsimp only;rw [hk', if_neg c8, pure_bind];dsimp only;rw [ih _ hr];show _ = pure (if (k == .free) = true then clo env r ((n, (env.cells.lookup n).getD 0) :: cs) else clo env r cs);rw [hk', if_neg c8]
 have e := go scope.names [] hf;unfold closureFor;simp only [];exact (by
  first
   | exact e
   | (rw [show (forIn (m := Sem) scope.names ([] : List (Str × Addr)) _) = _ from e]; rfl)
   | (simpa using e))
theorem Xy {env : Env} {x : Str} {c : Addr} : ∀ {l : List (Str × NameKind)} {cs : List (Str × Addr)}, (∀ x ∈ l, x.2 = .free → ∃ c, env.cells.lookup x.1 = some c) → (clo env l cs).lookup x = some c → cs.lookup x = some c ∨ env.cells.lookup x = some c
 | [], cs, _, h => .inl h
 | (n, k) :: r, cs, hf, h => by
   have hr : ∀ x ∈ r, x.2 = .free → ∃ c, env.cells.lookup x.1 = some c := fun x hx => hf x (aq _ hx);unfold clo at h;split at h
   · rename_i hk
     obtain ⟨c', hc'⟩ := hf (n, k) ao (by simpa using hk);dsimp only at hc';rcases Xy hr h with q | q
     · rw [List.lookup_cons] at q;cases e : x == n with
       | true =>
         rw [e] at q;have : x = n := by simpa using e
         subst this;rw [hc'] at q;dsimp at q;exact .inr (hc'.trans q)
       | false => rw [e] at q; exact .inl q
     · exact .inr q
   · exact Xy hr h
theorem W0 {env : Env} {x : Str} : ∀ {l : List (Str × NameKind)} {cs : List (Str × Addr)}, (x, NameKind.free) ∈ l ∨ (∃ c, cs.lookup x = some c) → ∃ c, (clo env l cs).lookup x = some c
 | [], cs, h => by
   rcases h with h | h
   · cases h
   · exact h
 | (n, k) :: r, cs, h => by
   unfold clo;split
   · rename_i hk
     have hk : k = .free := by simpa using hk
     subst hk;refine W0 (cs := (n, (env.cells.lookup n).getD 0) :: cs) ?_;rcases h with h | ⟨c, h⟩
     · rcases ag.mp h with h | h
       · cases h;exact .inr ⟨_, List.lookup_cons_self⟩
       · exact .inl h
     · refine .inr ?_;cases e : x == n with
       | true => exact ⟨_, by rw [List.lookup_cons, e]⟩
       | false => exact ⟨c, by rw [List.lookup_cons, e]; exact h⟩
   · rename_i hk
     refine W0 ?_;rcases h with h | h
     · rcases ag.mp h with h | h
       · cases h;exact absurd rfl hk
       · exact .inl h
     · exact .inr h
theorem Wc (hcell : ∀ y ∈ scope.names, y.2 ≠ .cell) (h : (relabel scope env).names.lookup x = some .cell ∨ (relabel scope env).names.lookup x = some .free) : (x, NameKind.free) ∈ scope.names := by
 have go : ∀ (l : List (Str × NameKind)), (∀ y ∈ l, y.2 ≠ .cell) → ∀ k, (k = NameKind.cell ∨ k = .free) →
   (l.map fun (n, k) => if (k == NameKind.free && env.scope.kind == .function && env.kindOf n == some .cell) then (n, NameKind.cell) else (n, k)).lookup x = some k → (x, NameKind.free) ∈ l := by
  intro l;induction l with
  | nil => intro _ k _ h; cases h
  | cons p r ih =>
    obtain ⟨n, k0⟩ := p;intro hc k hk h;have hr : ∀ y ∈ r, y.2 ≠ .cell := fun y hy => hc y (aq _ hy);rw [bh] at h;dsimp only at h;have hn := hc (n, k0) ao;dsimp only at hn;by_cases hx : (x == n) = true
    · have e : x = n := by simpa using hx
      subst e;split at h
      · rename_i hz
        have : k0 = .free := by
         simp only [bu] at hz;simpa using hz.1.1
        subst this;exact ao
      · rw [List.lookup_cons_self] at h;cases h;rcases hk with rfl | rfl
        · exact absurd rfl hn
        · exact ao
    · have hx : (x == n) = false := by simpa using hx
      have h' : (r.map fun (n, k) => if (k == NameKind.free && env.scope.kind == .function && env.kindOf n == some .cell) then (n, NameKind.cell) else (n, k)).lookup x = some k := by
       split at h
       · rw [List.lookup_cons, hx] at h; exact h
       · rw [List.lookup_cons, hx] at h; exact h
      exact aq _ (ih hr k hk h')
 rcases h with h | h
 · exact go scope.names hcell _ (.inl rfl) h
 · exact go scope.names hcell _ (.inr rfl) h
abbrev Vm (us : List Value) : Obj := { cls := .type "list", data := .seq us.toArray us.length }
theorem zhl (us : List Value) (u : Value) : ({ cls := .type "list", data := .seq (us.toArray.push u) (us.length + 1) } : Obj) = Vm (us ++ [u]) := by
 show ({ cls := .type "list", data := .seq (us.toArray.push u) (us.length + 1) } : Obj) = { cls := .type "list", data := .seq (us ++ [u]).toArray (us ++ [u]).length };rw [ar, ce, List.push_toArray]
noncomputable def capσ (k : Nat) (cap : List Nat) (σ : St) : St := List.replicate k none ++ cap.map fun j => (σ[j]?).getD none
noncomputable def zff (own : List Str) (cap : List Nat) (N : List Str) : List Str := own ++ cap.map fun j => (N[j]?).getD Str.empty
noncomputable def y6 (X : Cx) (own : List Str) (cap : List Nat) (scope : Scope) (C : Addr) (fp : List Addr) (s₂ : Shared) (H₂ : Hp) : Cx :=
 { X with N := zff own cap X.N, s₀ := s₂, H₀ := H₂, env := compEnvC scope (clo X.env scope.names []) C X.env, outer := X.stack, ex := fp, fn := fun _ => false, pn := [], xe := fun _ _ => False }
noncomputable def zal (X : Cx) (scope : Scope) : List Nat → Prop
 | [] => True
 | j :: r => (∃ x, X.N[j]? = some x ∧ (X.env.scope.names.lookup x = some .cell ∨ X.env.scope.names.lookup x = some .free) ∧ (relabel scope X.env).names.lookup x ≠ some .local) ∧ zal X scope r
theorem zal.mem {X : Cx} {scope : Scope} : ∀ {cap : List Nat}, zal X scope cap → ∀ j ∈ cap, ∃ x, X.N[j]? = some x ∧ (X.env.scope.names.lookup x = some .cell ∨ X.env.scope.names.lookup x = some .free) ∧ (relabel scope X.env).names.lookup x ≠ some .local
 | [], _, _, h => nomatch h
 | _ :: _, ⟨a, b⟩, j, h => by
   rcases ag.mp h with rfl | h
   · exact a
   · exact zal.mem b j h
structure LcScope (X : Cx) (own : List Str) (cap : List Nat) (scope : Scope) : Prop where
 kind : scope.kind = .function
 free : ∀ x ∈ scope.names, x.2 = .free → X.env.kindOf x.1 = some .cell ∨ X.env.kindOf x.1 = some .free
 cell : ∀ x ∈ scope.names, x.2 ≠ .cell
 names : ∀ x ∈ scope.names, x.2 = .local → scope.names.lookup x.1 = some .local
 cap : zal X scope cap
section
variable {H₂ : Hp} {s₂ : Shared} {own : List Str} {C : Addr}
theorem LcScope.has (S : LcScope X own cap scope) (ok : X.Ok) : ∀ x ∈ scope.names, x.2 = .free → ∃ c, X.env.cells.lookup x.1 = some c := fun x hx hk => ok.has _ (S.free x hx hk)
theorem LcScope.look (S : LcScope X own cap scope) (ok : X.Ok) (h : (clo X.env scope.names []).lookup x = some c) : X.env.cells.lookup x = some c := by
 rcases Xy (S.has ok) h with q | q
 · cases q
 · exact q
theorem Un.cellK {fs ex : List Addr} {h : Heap} {v : Option Value} (u : Un fs ex H H' h h') (n : H c = none) (hx : c ∉ ex) (z : h.IsCell c v) : h'.IsCell c v := by
 obtain ⟨o, ho, hd⟩ := z;obtain ⟨sl, e⟩ := u.any ho n hx;exact ⟨_, e, hd⟩
theorem zib (I : Inv X pins σ H₂ s₂) (S : LcScope X own cap scope) (f : ∀ b ∈ fp, W6 X pins H₂ b) (hC : s₂.heap.objs.size ≤ C) (hfp : ∀ b ∈ fp, b < s₂.heap.objs.size) : (y6 X own cap scope C fp s₂ H₂).Ok where
 mod := I.ok.mod
 kind := S.kind
 glob := I.ok.glob
 blt := I.ok.blt
 above := hC
 inj := fun x y c h1 h2 => I.ok.inj x y c (S.look I.ok h1) (S.look I.ok h2)
 has := fun x h => W0 (.inl (Wc S.cell h))
 cab := fun x c h => by cases h
 hd := I.ok.hd
 frames := I.ok.frames
 stk := .inl rfl
 exf := fun b hb => ⟨bo (br (hfp b hb) hC), fun x c h => (f b hb).2.2.2.2.1 x c (S.look I.ok h)⟩
 bs := I.bs
 bsz := bp I.ok.bsz I.sz
 noex := fun b o e hb => by
  rcases (f b hb).2.2.2.1 with z | z
  · exact I.ok.noex b o e z
  · exact absurd (br (al e) (bp I.ok.bsz z)) (cj _)
 exfs := fun b hb z => by
  rcases ag.mp (I.stkSub b z) with e | e
  · exact (f b hb).2.1 e
  · exact (f b hb).2.2.1 e
 funs := I.stack
 frf := fun b hb => I.stkFree b hb
theorem zdu (I : Inv X pins σ H₂ s₂) (S : LcScope X own cap scope) (f : ∀ b ∈ fp, W6 X pins H₂ b) {fs : List Addr} (u : Un fs fp H₂ H' s₂.heap h') (m : Str → Option Value) :
  ∀ (i : Nat) (x : Str) (v : V), (zff own cap X.N)[i]? = some x → (capσ own.length cap σ)[i]? = some (some v) → Vis (relabel scope X.env) x → ∃ q, yq v q ∧ zs7 (compEnvC scope (clo X.env scope.names []) C X.env) h' m x q := by
 intro i x v h1 h2 h3;unfold capσ at h2;unfold zff at h1;by_cases hi : i < own.length
 · rw [d0 (by simpa using hi), List.getElem?_replicate] at h2;split at h2 <;> cases h2
 · rw [List.getElem?_append_right (by simpa using hi)] at h2 h1;rw [List.length_replicate] at h2;rw [ay] at h1 h2;cases e : cap[i - own.length]? with
   | none => rw [e] at h1; cases h1
   | some j =>
     rw [e] at h1 h2;obtain ⟨y, hy, hk, hnl⟩ := S.cap.mem j (bz e);have h1 : (X.N[j]?).getD Str.empty = x := Option.some.inj h1;rw [hy] at h1;have h1 : y = x := h1;subst h1;have h2 : (σ[j]?).getD none = some v := Option.some.inj h2;have h2' : σ[j]? = some (some v) := by
      cases q : σ[j]? with
      | none => rw [q] at h2; cases h2
      | some z => rw [q] at h2; exact congrArg some h2
     obtain ⟨m0, hn, hl⟩ := I.loc;obtain ⟨q, r, l⟩ := hl j y v hy h2' (.inr hk);refine ⟨q, r, ?_⟩;rcases l with ⟨kl, _⟩ | ⟨_, c, hc, z⟩
     · have kl : X.env.scope.names.lookup y = some .local := kl;rcases hk with k | k <;> (rw [kl] at k; cases k)
     · have hk' : (relabel scope X.env).names.lookup y = some .cell ∨ (relabel scope X.env).names.lookup y = some .free := h3.resolve_left hnl;obtain ⟨c', hc'⟩ := W0 (env := X.env) (cs := []) (.inl (Wc S.cell hk'));have e2 := S.look I.ok hc';rw [hc] at e2;cases e2;exact .inr ⟨hk', c, hc', u.cellK (I.freeC y c hc) (fun zz => (f c zz).2.2.2.2.1 y c hc rfl) z⟩
theorem K7 (I : Inv X pins σ H₂ s₂) (S : LcScope X own cap scope) (f : ∀ b ∈ fp, W6 X pins H₂ b) (J : Inv (y6 X own cap scope C fp s₂ H₂) pins' σ' H' s') :
  Inv (y6 X own cap scope C fp s₂ H₂) pins' (capσ own.length cap σ) H' s' := by
 obtain ⟨m, hn, _⟩ := id J.loc;refine ⟨J.ok, J.os, J.bare, J.base, ⟨m, hn, zdu I S f J.base m⟩, J.cell, J.free, J.freeC, J.pin, J.hok, ?_⟩;unfold capσ;show _ = (zff own cap X.N).length;unfold zff;simp
theorem Ju {D : Addr} {ys : List V} (I : Inv X pins σ H₂ s₂) (f : ∀ b ∈ fp, W6 X pins H₂ b) (J : Inv (y6 X own cap scope C fp s₂ H₂) pins' σ' H' s')
  (hs : Heap.SameBut C s'.heap h') (hC : s₂.heap.objs.size ≤ C) (hD : s₂.heap.objs.size ≤ D) (hDC : D ≠ C) (ho : s'.heap.get? D = some (Vm us)) (hn : H' D = none) (hl : ys.length ≤ sizeLine) (r : yn ys us) :
  Inv X pins σ (upd H' D (.lst ys)) { s' with heap := h' } := by
 have same : ∀ b o, b ≠ C → s'.heap.get? b = some o → h'.get? b = some o := fun b o hb e => (hs.2 b hb).trans e;have old : ∀ b o, s₂.heap.get? b = some o → b ≠ C ∧ b ≠ D := fun b o e => ⟨bo (br (al e) hC), bo (br (al e) hD)⟩
 have u : Un (frs X.stack) fp H₂ H' s₂.heap s'.heap := J.base;have HC : H' C = none := J.free;have hok : HOk X.prog X.w (upd H' D (.lst ys)) h' := by
  intro b ob e;by_cases hb : b = D
  · subst hb;rw [zf] at e;cases e;exact ⟨hl, us, us.length, r, same b _ hDC ho⟩
  · rw [zk hb] at e;have neC : ∀ c w', H' c = some w' → c ≠ C := fun c w' z q => by rw [q, HC] at z; cases z
    refine (J.hok b ob e).stay (fun c v hc q => same c v ?_ q) (fun c q => ?_) fun c xs q => ?_
    · rcases hc with z | z
      · rw [z]; exact neC b ob e
      · exact neC c _ z
    · rw [zk (zj q hn)]; exact q
    · rw [zk (zj q hn)]; exact q
 refine I.call' (s' := { s' with heap := h' }) (ch := fp) J.os ⟨fun b o e n hb hx => ?_, fun b o e n hb hx => ?_, fun b o e n hx => ?_, fun b o e hx => ?_, fun b xs e => ?_, fun b o xs e => ?_, fun b ps e => ?_⟩ hok J.bare fun b hb => ?_
 · exact same b o (old b o e).1 (u.keep b o e n hb hx)
 · obtain ⟨sl, q⟩ := u.slot b o e n hb hx;exact ⟨sl, same b _ (old b o e).1 q⟩
 · rw [zk (old b o e).2]; exact u.free b o e n hx
 · obtain ⟨o', q⟩ := u.there b o e hx;exact ⟨o', same b _ (old b o e).1 q⟩
 · have q := u.tups b xs e;rw [zk (zj q hn)]; exact q
 · have q := u.frzs b o xs e;rw [zk (zj q hn)]; exact q
 · obtain ⟨more, q⟩ := u.tbls b ps e;exact ⟨more, by rw [zk (zj q hn)]; exact q⟩
 · obtain ⟨f0, f1, f2, f3, f4, f5⟩ := f b hb;exact ⟨f3, f1, f4, f5⟩
end
noncomputable def zij (X : Cx) (ifs : List Expr) (t : TT) : Prop :=
 ∀ (pins : List (Addr × Obj)) (s : Shared) (σ : St) (H : Hp) (Q : Bool → Hp → Prop), Inv X pins σ H s → t σ H Q →
   wpAny (model X.prog X.w) X.A (forIn ifs true fun c r => if r = true then do let ok ← isTrue c X.env (eval c X.env); pure (ForInStep.yield ok) else pure (ForInStep.yield r)) (TP X pins σ Q) X.xe s
noncomputable def zod : TT := fun _ H Q => Q true H
theorem wa : zij X [] zod := by
 intro pins s σ H Q I h;exact aj ⟨H, I, h⟩
theorem zfv {c : Expr} {t : TT} (h : PT X c t) : zij X [c] t := by
 intro pins s σ H Q I hq;rw [List.forIn_cons];rw [if_pos rfl];refine aa (aa (thn (h pins s σ H Q I hq) fun b s1 ⟨H1, I1, q1⟩ => ?_));refine aj ?_;dsimp only;rw [List.forIn_nil];exact aj ⟨H1, I1, q1⟩
noncomputable def zag (J : It) (g : TG) (tc : TT) (te : TE) (k : Nat) (cap : List Nat) (σ : St) (H : Hp) (Q : VK) : Prop :=
 ∃ W : Nat → Nat → List V → Hp → Prop, (∃ m, W 0 m [] H) ∧ ∀ i m ys H, W i m ys H →
   (J.stop i H ∧ ys.length ≤ sizeLine ∧ ∀ p, H p = none → Q (.ref p) (upd H p (.lst ys))) ∨
   (J.go i H ∧ ys.length ≤ sizeLine ∧ ∃ N : List V → Hp → Prop, (∀ ys' H', N ys' H' → ∃ m', m' < m ∧ W (i + 1) m' ys' H') ∧ ∀ x H', J.yld i H x H' → g x (capσ k cap σ) H' fun σ2 H2 => tc σ2 H2 fun b H3 => if b = true then te σ2 H3 fun y H4 => N (ys ++ [y]) H4 else N ys H3)
noncomputable def tLc (wi : TI) (g : TG) (tc : TT) (te : TE) (k : Nat) (cap : List Nat) : TE := fun σ H Q => wi σ H fun J H1 => zag J g tc te k cap σ H1 Q
section
variable {own : List Str} {iter elt : Expr} {wi : TI}
theorem Jf {Zw : Cx → List Str → List Nat → Scope → Addr → List Addr → Shared → Hp → Value → Shared → Prop} {s2 : Shared} {tn : Nat → Heap → Prop} {J : It} {W : Nat → Nat → List V → Hp → Prop} {m0 : Nat} {QQ : List V → Hp → Prop} {RR : Value → Addr → Result → Shared → Prop}
  (hc : X.calm = true) (S : LcScope X own cap scope)
  (hg : ∀ C fp s₂ H₂, PG (y6 X own cap scope C fp s₂ H₂) tg g) (ht : ∀ C fp s₂ H₂, zij (y6 X own cap scope C fp s₂ H₂) ifs tc) (he : ∀ C fp s₂ H₂, PE ((y6 X own cap scope C fp s₂ H₂).wish (Zw X own cap scope C fp s₂ H₂)) elt te)
  (I2 : Inv X pins σ H2 s2) (T : Turn X.prog X.w X.K tg J fp it tn) (st2 : tn 0 s2.heap) (f2 : ∀ b ∈ fp, W6 X pins H2 b) (w0 : W 0 m0 [] H2)
  (turn : ∀ i m ys H, W i m ys H →
   (J.stop i H ∧ ys.length ≤ sizeLine ∧ QQ ys H) ∨
   (J.go i H ∧ ys.length ≤ sizeLine ∧ ∃ N : List V → Hp → Prop, (∀ ys' H', N ys' H' → ∃ m', m' < m ∧ W (i + 1) m' ys' H') ∧ ∀ x H', J.yld i H x H' → g x (capσ own.length cap σ) H' fun σ2 H2 => tc σ2 H2 fun b H3 => if b = true then te σ2 H3 fun y H4 => N (ys ++ [y]) H4 else N ys H3))
  (hZ : ∀ (D C : Addr) (e : Value) (s' : Shared), Zw X own cap scope C fp s2 H2 e s' → notedBy (model X.prog X.w) X.A (compEnvC scope (clo X.env scope.names []) C X.env) (fun x s'' => RR (.ref D) C (.error x) s'') e s')
  (hRR : ∀ (D C : Addr) (pins' : List (Addr × Obj)) (σ' : St) (H' : Hp) (s' : Shared) (us : List Value) (ys : List V), Inv (y6 X own cap scope C fp s2 H2) pins' σ' H' s' → s2.heap.objs.size ≤ C → s2.heap.objs.size ≤ D → D ≠ C → s'.heap.get? D = some (Vm us) → H' D = none →
   ys.length ≤ sizeLine → yn ys us → QQ ys H' → RR (.ref D) C (.ok .next) s') :
  wpAny (model X.prog X.w) X.A (newList []) (fun acc s₃ => wpAny (model X.prog X.w) X.A (newFunctionEnv scope X.env.globals (clo X.env scope.names []) [] X.env.qual none .none (some X.env)) (fun cenv s₄ =>
   codeAny (model X.prog X.w) X.A (.compStart (.ListComp elt [⟨tg, iter, ifs, 0⟩] scope pos) 0 (.ref it) acc { cenv with scope := relabel scope X.env }) (RR acc cenv.locals) s₄) X.xe s₃) X.xe s2 := by
 refine cz (wpAny_newFunctionEnv S.cell (by intro y hy; simp at hy) (fun h₁ hns₁ hsb₁ => ?_) S.kind);dsimp only at hns₁ hsb₁ ⊢;generalize hH2 : s2.heap.push { cls := .type "list", dict := none, data := .seq ([] : List Value).toArray } = g2 at hns₁ hsb₁ ⊢;have hCs : g2.objs.size = s2.heap.objs.size + 1 := by rw [← hH2, db]
 have hC : s2.heap.objs.size ≤ g2.objs.size := by rw [hCs]; exact Nat.le_succ _
 have hDC : s2.heap.objs.size ≠ g2.objs.size := by rw [hCs]; exact bo (Nat.lt_succ_self _)
 have below : ∀ b, b < s2.heap.objs.size → b ≠ g2.objs.size ∧ b ≠ s2.heap.objs.size := fun b hb => ⟨by rw [hCs]; exact bo (Nat.lt_succ_of_lt hb), bo hb⟩
 have old : ∀ b o, s2.heap.get? b = some o → h₁.get? b = some o := fun b o e => hsb₁.extBut b o (below b (al e)).1 (ap _ (hH2 ▸ ap _ e));have hacc : h₁.get? s2.heap.objs.size = some (Vm []) := hsb₁.extBut _ _ hDC (ap _ (hH2 ▸ bv _ rfl));have hfp : ∀ b ∈ fp, b < s2.heap.objs.size := fun b hb => by
  obtain ⟨o, e, _⟩ := T.obj _ _ st2 b hb;exact al e
 have freeAt : ∀ a, s2.heap.objs.size ≤ a → H2 a = none := fun a ha => I2.hok.fresh ha;have ok := zib (own := own) (C := g2.objs.size) I2 S f2 hC hfp;have st1 : tn 0 h₁ := T.keep _ _ _ st2 fun b hb o e => old b o e;let X' := y6 X own cap scope g2.objs.size fp s2 H2;have u1 : Un (frs X.stack) fp H2 H2 s2.heap h₁ := Un.kept old;have start : Inv X' [(s2.heap.objs.size, Vm [])] (capσ own.length cap σ) H2 { s2 with heap := h₁, toks := s2.toks + ([] : List (Str × Value)).length } := by
  refine ⟨ok, rfl, I2.bare, u1, ⟨_, hns₁, zdu I2 S f2 u1 _⟩, fun x c e => ?_, freeAt _ hC, fun x c e => I2.freeC x c (S.look I2.ok e), fun p hp => ?_, I2.hok.kept old, ?_⟩
  · obtain ⟨v, z⟩ := I2.cell x c (S.look I2.ok e);obtain ⟨o, ho, hd⟩ := z;exact ⟨v, o, old c o ho, hd⟩
  · have e : p = (s2.heap.objs.size, Vm []) := by simpa [X', y6] using hp
    subst e;refine ⟨hacc, freeAt _ (ai _), hDC, fun z => ?_, fun v z => by cases z⟩;obtain ⟨_, o, ho, _⟩ := I2.stack.mem z;exact absurd (al ho) (cj _)
  · unfold capσ;show _ = (zff own cap X.N).length;unfold zff;simp
 have stat : ∀ {D : Addr} {o : Obj} {H' : Hp}, s2.heap.objs.size ≤ D → (∀ b ∈ fp, H' b = none) → ∀ b ∈ fp, W6 X' [(D, o)] H' b := fun {D o H'} hD hn b hb =>
  ⟨hn b hb, (ok.exf b hb).1, ok.exfs b hb, .inl hb, fun x c e => (ok.exf b hb).2 x c e, fun p hp => by
   have e : p = (D, o) := by simpa [X', y6] using hp
   subst e;exact ak (bo (br (hfp b hb) hD))⟩
 have loop : ∀ s₃ : Shared, s₃ = { s2 with heap := h₁, toks := s2.toks + ([] : List (Str × Value)).length } →
   codeAny (model X.prog X.w) X.A (.compLoop (.ListComp elt [⟨tg, iter, ifs, 0⟩] scope pos) 0 (.ref it) (.ref s2.heap.objs.size) (compEnvC scope (clo X.env scope.names []) g2.objs.size X.env))
    (RR (.ref s2.heap.objs.size) g2.objs.size) s₃ := by
  rintro s₃ rfl;refine zbs (fun n s' => ∃ i H' us ys, Inv X' [(s2.heap.objs.size, Vm us)] (capσ own.length cap σ) H' s' ∧ tn i s'.heap ∧ (∀ b ∈ fp, H' b = none) ∧ yn ys us ∧ W i n ys H') (hZ _ _) ?_ m0
   ⟨0, H2, [], [], start, st1, fun b hb => (f2 b hb).1, .nil, w0⟩
  rintro n s3 ⟨i, H3, us, ys, I3, st3, fr3, rv, w3⟩;have hacc3 := I3.pin (s2.heap.objs.size, Vm us) (ck _ ao);rcases turn i n ys H3 w3 with ⟨stop, hl, qn⟩ | ⟨go, hl, N, hN, step⟩
  · refine thn (T.done X' rfl rfl rfl hc i _ s3 _ H3 _ I3 (stat (ai _) fr3) st3 stop) fun r s4 ⟨hr, I4⟩ => ?_;subst hr;have hacc4 := I4.pin (s2.heap.objs.size, Vm us) (ck _ ao);exact hRR _ _ _ _ H3 s4 us ys I4 hC (ai _) hDC hacc4.1 hacc4.2.1 hl rv qn
  · refine thn (T.item X' rfl rfl rfl hc i _ s3 _ H3 _ I3 (stat (ai _) fr3) st3 go) fun r s4 ⟨u, hr, h4⟩ => ?_;subst hr;refine thn h4 fun _ s5 ⟨x, H5, I5, r5, y5, st5, fr5⟩ => ?_;have I5' := I5.pinned (stat (ai _) fr5) (T.obj _ _ st5);refine thn (hg _ _ _ _ _ s5 _ H5 x u _ I5' r5 (step x H5 y5)) fun _ s6 ⟨σ6, H6, I6, q6⟩ => ?_;refine thn (ht _ _ _ _ _ s6 σ6 H6 _ I6 q6) fun b s7 ⟨H7, I7, q7⟩ => ?_;have tnK : ∀ {σ8 : St} {H8 : Hp} {s8 : Shared}, Inv X' ([(s2.heap.objs.size, Vm us)] ++ Q4 fp s5.heap) σ8 H8 s8 → tn (i + 1) s8.heap ∧ ∀ b ∈ fp, H8 b = none := fun {σ8 H8 s8} I8 => by
     refine ⟨T.keep _ _ _ st5 fun b hb o e => (I8.pin (b, o) (ck _ (ck _ (Z4 hb e)))).1, fun b hb => ?_⟩;obtain ⟨o, e, d⟩ := T.obj _ _ st5 b hb;exact (I8.pin (b, o) (ck _ (ck _ (Z4 hb e)))).2.1
    cases b with
    | false =>
      rw [if_neg c8] at q7;obtain ⟨m', hm, w7⟩ := hN _ _ q7;rw [if_neg c8];obtain ⟨t7, n7⟩ := tnK I7;exact ⟨m', hm, i + 1, H7, us, ys, K7 I2 S f2 I7.unpinned, t7, n7, rv, w7⟩
    | true =>
      rw [if_pos rfl] at q7;rw [if_pos rfl];refine cn (he _ _ _ _ _ s7 σ6 H7 _ (I7.wish _) q7) (fun y s8 h8 => ?_) fun _ _ z => z;obtain ⟨z, H8, I8, r8, n8'⟩ := h8;have I8 := I8.unwish;obtain ⟨m', hm, w8⟩ := hN _ _ n8';obtain ⟨t8, n8⟩ := tnK I8;have p8 := I8.pin (s2.heap.objs.size, Vm us) (ck _ (dk _ ao));have hlu : us.length ≤ sizeLine := by rw [← rv.length]; exact hl
      refine append_at (hsz := by show us.toArray.size ≤ sizeLine; rw [bq]; exact hlu) p8.1 fun h9 hs9 hD9 => ?_;have hD9' : h9.get? s2.heap.objs.size = some (Vm (us ++ [y])) := hD9.trans (congrArg some (zhl us y));refine ⟨m', hm, i + 1, H8, us ++ [y], ys ++ [z], ?_, T.keep _ _ _ t8 fun b hb o e => (hs9.2 b (fun q => ?_)).trans e, n8, yn.append rv (.cons r8 .nil), w8⟩
      · have J0 : Inv X' [] (capσ own.length cap σ) H8 s8 := (K7 I2 S f2 I8).pins_of fun p hp => by cases hp
        have J1 : Inv X' [] (capσ own.length cap σ) H8 { s8 with heap := h9, toks := s8.toks } := J0.turned (it := s2.heap.objs.size) (fun b o hb e => (hs9.2 b hb).trans e) p8.2.1 p8.2.2.1 (.inr (ai _)) (fun x c e q => by
         obtain ⟨v, hv⟩ := I2.cell x c (S.look I2.ok e);exact absurd (br hv.lt (by rw [q]; exact ai _)) (cj _)) (fun p hp => by
         have : p ∈ ([] : List (Addr × Obj)) := by simpa [X', y6] using hp
         cases this)
        exact J1.pins_of fun p hp => by
         have e : p = (s2.heap.objs.size, Vm (us ++ [y])) := by simpa using hp
         subst e;exact ⟨hD9', p8.2.1, p8.2.2.1, p8.2.2.2.1, fun v z => by cases z⟩
      · exact absurd (hfp b hb) (by rw [q]; exact cj _)
 exact codeAny_compStart_list (loop _ rfl) (T.self _ 0 _ _ _ st1 (loop _ rfl))
theorem Yd (hc : X.calm = true) (S : LcScope X own cap scope) (hi : PI X tg iter wi)
  (hg : ∀ C fp s₂ H₂, PG (y6 X own cap scope C fp s₂ H₂) tg g) (ht : ∀ C fp s₂ H₂, zij (y6 X own cap scope C fp s₂ H₂) ifs tc) (he : ∀ C fp s₂ H₂, PE (y6 X own cap scope C fp s₂ H₂) elt te)
  (hs : ∀ x, foldedSetIterable iter X.env x = pure x := by intro _; rfl) : PE X (.ListComp elt [⟨tg, iter, ifs, 0⟩] scope pos) (tLc wi g tc te own.length cap) := by
 intro pins s σ H Q I h;rw [eval_ListComp];refine wpAny_comprehension_free (use := none) (cl := clo X.env scope.names []) rfl hs (kr (S.has I.ok)) S.kind S.names (thn (hi pins s σ H _ I h) fun v s1 h1 => thn h1 fun itv s2 h2 => ?_);obtain ⟨it, fp, tn, J, H2, e, I2, T, st2, f2, W, ⟨m0, w0⟩, turn⟩ := h2;subst e;refine Jf (Zw := fun _ _ _ _ _ _ _ _ _ _ => False) hc S hg ht he I2 T st2 f2 w0 turn (fun _ _ _ _ h => h.elim) fun D C pins' σ' H' s' us ys J' hC hD hDC hD' hn hl rv q => ?_;obtain ⟨m, hns, _⟩ := id J'.loc;exact ⟨m, hns, fun h' hs' => ⟨.ref D, _, Ju I2 f2 J' hs' hC hD hDC hD' hn hl rv, rfl, q D hn⟩⟩
noncomputable def ztf (i : Nat) (te : TE) : TS := fun D σ H => te σ H fun x H1 => D.nx (σ.set i (some x)) H1
theorem zcd {y : Str} {py spos : Pos} (hc : X.calm = true) (S : LcScope X own cap scope) (hi : PI X tg iter wi)
  (hg : ∀ C fp s₂ H₂, PG (y6 X own cap scope C fp s₂ H₂) tg g) (ht : ∀ C fp s₂ H₂, zij (y6 X own cap scope C fp s₂ H₂) ifs tc) (he : ∀ C fp s₂ H₂, PE (y6 X own cap scope C fp s₂ H₂) elt te)
  (hN : X.N.Nodup) (hy : X.N[i]? = some y) (hl : X.env.scope.names.lookup y = some .local)
  (hsw : swapsWith (.ListComp elt [⟨tg, iter, ifs, 0⟩] scope pos) (some (.Name y py)) spos.line X.env = pure true)
  (hs : ∀ x, foldedSetIterable iter X.env x = pure x := by intro _; rfl) : PS X (.Assign [.Name y py] (.ListComp elt [⟨tg, iter, ifs, 0⟩] scope pos) spos) (ztf i (tLc wi g tc te own.length cap)) := by
 intro pins s σ H D I h;rw [exec_Assign_Name_used _ _ _ _ hsw];refine aa (wpAny_standAt (aa ?_));show wpAny _ X.A (do let _ ← comprehension (.ListComp elt [⟨tg, iter, ifs, 0⟩] scope pos) scope X.env _ (newList []) false (eval iter X.env) (some (assign (.Name y py) X.env))) _ _ s;refine aa (cn (wpAny_comprehension_free (use := some (assign (.Name y py) X.env)) (Q := fun _ s' => SP X pins D .next s') (cl := clo X.env scope.names []) rfl hs (kr (S.has I.ok)) S.kind S.names
  (thn (hi pins s σ H _ I h) fun v s1 h1 => thn h1 fun itv s2 h2 => ?_)) (fun _ s' hq => aj (aj hq)) fun _ _ e => e)
 obtain ⟨it, fp, tn, J, H2, e, I2, T, st2, f2, W, ⟨m0, w0⟩, turn⟩ := h2;subst e;refine Jf (Zw := fun _ _ _ _ _ _ _ _ _ _ => False) hc S hg ht he I2 T st2 f2 w0 turn (fun _ _ _ _ h => h.elim) fun L C pins' σ' H' s' us ys J' hC hD hDC hD' hn hll rv q => ?_;show wpAny _ X.A (assign (.Name y py) X.env (.ref L)) _ _ _;obtain ⟨m, hns, _⟩ := id J'.loc;have I3 : Inv X pins σ (upd H' L (.lst ys)) s' := Ju I2 f2 J' (h' := s'.heap) ⟨rfl, fun _ _ => rfl⟩ hC hD hDC hD' hn hll rv;refine wpAny_assign_Name (Kj I3 hN hy (.inl hl) (v := .ref L) rfl (fun s5 I5 hch => ?_) (.inr hl));have hCn : (upd H' L (.lst ys)) C = none := by rw [zk (ak hDC)]; exact J'.free
 have neC : ∀ a, (a = X.env.locals ∨ X.env.cells.lookup y = some a) → C ≠ a := fun a ha z => by
  rcases ha with e | e
  · exact absurd (br I2.lt (by rw [← e, ← z]; exact hC)) (cj _)
  · obtain ⟨v, hv⟩ := I2.cell y a e;exact absurd (br hv.lt (by rw [← z]; exact hC)) (cj _)
 obtain ⟨a, sb, ha⟩ := hch;refine ⟨m, hns.sameBut sb (neC a ha), fun h6 hs6 => ?_⟩;refine ⟨σ.set i (some (.ref L)), _, ?_, q L hn⟩;refine I5.turned (t' := s5.toks) (it := C) (fun b o hb e => (hs6.2 b hb).trans e) hCn ?_ (.inr (bp I2.sz hC)) (fun x c e z => ?_) fun p hp z => ?_
 · exact fun z => absurd (br I2.lt (by rw [← z]; exact hC)) (cj _)
 · obtain ⟨v, hv⟩ := I2.cell x c e;exact absurd (br hv.lt (by rw [z]; exact hC)) (cj _)
 · exact absurd (br (al (I2.pin p hp).1) (by rw [z]; exact hC)) (cj _)
end
section
noncomputable def zrh (K : PySem.W.Frag) : List V → Hp → VK → Prop := fun xs H Q => ∃ x n t b, xs = [x, .ty n] ∧ TyOf K H x t ∧ PySem.W.kitOne K t (.type n) = some b ∧ Q (.bl b) H
theorem zlk : Zu X (.builtin "isinstance") (zrh X.K) := by
 intro pins s σ H xs us Q I r h;obtain ⟨x, n, t, b, rfl, ty, e, q⟩ := h;obtain ⟨u, u', rfl, rx, ry⟩ := zio r;cases (show u' = Value.type n from ry);exact zht I rx ty e fun tk => ⟨.bl b, H, I.tok tk, rfl, q⟩
theorem Y3 : OpR X (compareOp .LtE) (fun x y H Q => ∃ i j, x = .str i ∧ y = .str j ∧ Q (.bl (!decide (j.cps.toList < i.cps.toList))) H) := by
 intro pins s σ H x y v u Q I rx ry h;obtain ⟨i, j, rfl, rfl, q⟩ := h;obtain ⟨t, rfl⟩ := rx;obtain ⟨t', rfl⟩ := ry;exact PySem.P.le_str (yu I q rfl)
theorem zfz (hu : X.A.units < cLine) : OpR X (compareOp .NotEq) (fun x y H Q => ∃ a b xs, x = .ref a ∧ y = .ref b ∧ SqL X.K H a xs ∧ SqL X.K H b [] ∧ Q (.bl (!xs.isEmpty)) H) := by
 intro pins s σ H x y v u Q I rx ry h;obtain ⟨a, b, xs, rfl, rfl, ha, hb, q⟩ := h;cases rx;cases ry;obtain ⟨ia, ra, pa, za⟩ := I.list ha;obtain ⟨ib, rb, pb, zb⟩ := I.list hb;cases rb;cases xs with
 | nil =>
   cases ra;exact SeqAt.RcNeAt.lists (e := fun _ => true) pa.isList pb.isList rfl hu (fun i hi => absurd hi (Nat.not_lt_zero i)) X.prog X.w _ _ ⟨.bl false, H, I, rfl, q⟩
 | cons z r =>
   cases ra with
   | cons r1 r2 =>
     exact SeqAt.RcNeAt.lists_lengths pa.isList pb.isList (by simp) hu X.prog X.w _ _ ⟨.bl true, H, I, rfl, q⟩
theorem Zr (hc : X.calm = true) : Zu X (.builtin "all") (fun xs H Q => ∃ (a : Addr) (bs : List Bool), xs = [.ref a] ∧ SqL X.K H a (bs.map V.bl) ∧ Q (.bl (bs.all id)) H) := by
 intro pins s σ H xs us Q I r h;obtain ⟨a, bs, rfl, hq, q⟩ := h;obtain ⟨u, rfl, rx⟩ := j6 r;cases rx;obtain ⟨its, rv, p, hz⟩ := I.list hq;have hlt : a < s.heap.objs.size := by obtain ⟨_, e, _⟩ := p.isList; exact al e
 have hl := rv.length;rw [ae] at hl;refine call_all_walk (wpAny_pyIter_list p.isList ?_);refine ⟨s.heap.objs.size, _, _, _, _, _, fun i => (bs[i]?).getD false, rfl, Walks.list (A := X.A.in1) (show X.A.in1.handled = none from I.ok.hd hc) s.heap.objs.size a (bo hlt) its.toArray, ⟨⟨_, bv _ rfl, rfl, rfl⟩, p.isList.push _⟩, ?_, fun h' tk hk => ?_⟩
 · intro i v s' Q' E' hP hQ';have hP : its[i]? = some v := by simpa using hP
   cases e : bs[i]? with
   | none =>
     have := List.getElem?_eq_none_iff.mp e;have h2 : its[i]? = none := List.getElem?_eq_none_iff.mpr (by omega);rw [h2] at hP;cases hP
   | some b =>
     obtain ⟨u, hu, ru⟩ := rv.get (i := i) (x := V.bl b) (by rw [ay, e]; rfl);rw [hu] at hP;cases hP;cases (show v = Value.bool b from ru);dsimp only at hQ';rw [e] at hQ';exact aj hQ'
 · have e : ((List.range its.toArray.size).all fun i => (bs[i]?).getD false) = bs.all id := by
    rw [bq, ← hl];clear q hq rv hl;rw [Bool.eq_iff_iff, cq, cq];constructor
    · intro h x hx;obtain ⟨i, hi, rfl⟩ := List.mem_iff_getElem.mp hx;have := h i (dj.mpr hi);simpa [hi] using this
    · intro h i hi;have hi := dj.mp hi;have := h (bs[i]) (List.getElem_mem hi);simpa [hi] using this
   rw [e];refine ⟨.bl (bs.all id), H, I.kept fun b o e => hk b o (fun hb => ?_) (ap _ e), rfl, q⟩;have z : b = s.heap.objs.size := by simpa using hb
   exact absurd (al e) (by rw [z]; exact cj _)
theorem K8 (hc : X.calm = true) : Zu X (.builtin "sum") (fun xs H Q => ∃ (a : Addr) (ns : List Int), xs = [.ref a] ∧ SqL X.K H a (ns.map V.int) ∧ (∀ n ∈ ns, 0 ≤ n) ∧ ns.sum < 2 ^ 63 ∧ Q (.int ns.sum) H) := by
 intro pins s σ H xs us Q I r h;obtain ⟨a, ns, rfl, hq, h0, h1, q⟩ := h;obtain ⟨u, rfl, rx⟩ := j6 r;cases rx;obtain ⟨its, rv, p, hz⟩ := I.list hq;have hlt : a < s.heap.objs.size := by obtain ⟨_, e, _⟩ := p.isList; exact al e
 have hl := rv.length;rw [ae] at hl;have ps : ∀ k, k ≤ ns.length → preSum (fun i => (ns[i]?).getD 0) k = (ns.take k).sum := by
  intro k;induction k with
  | zero => intro _; rfl
  | succ k ih =>
    intro hk;have this : ns[k]? = some ns[k] := be (by omega);rw [preSum, ih (by omega), cm, this, List.sum_append];simp
 have nn : ∀ (l : List Int), (∀ n ∈ l, 0 ≤ n) → 0 ≤ l.sum := by
  intro l;induction l with
  | nil => intro _; exact Int.le_refl _
  | cons a r ih =>
    intro h;have h1 := h a ao;have h2 := ih fun n hn => h n (aq _ hn);rw [List.sum_cons]; omega
 have tk : ∀ k, (ns.take k).sum ≤ ns.sum := by
  intro k;have e : ns.sum = (ns.take k).sum + (ns.drop k).sum := by rw [← List.sum_append, List.take_append_drop]
  have := nn (ns.drop k) fun n hn => h0 n (List.mem_of_mem_drop hn);omega
 refine call_sum_walk (wpAny_pyIter_list p.isList ?_);refine ⟨s.heap.objs.size, _, _, _, _, _, fun i => (ns[i]?).getD 0, rfl, Walks.list (A := X.A.in1) (show X.A.in1.handled = none from I.ok.hd hc) s.heap.objs.size a (bo hlt) its.toArray, ⟨⟨_, bv _ rfl, rfl, rfl⟩, p.isList.push _⟩, ?_, ?_, ?_, fun h' tk' t' hk => ?_⟩
 · intro b hb;show b < (s.heap.push _).objs.size;rw [db];rcases ag.mp hb with z | z
   · rw [z]; exact Nat.lt_succ_self _
   · have z : b = a := by simpa using z
     rw [z]; exact Nat.lt_succ_of_lt hlt
 · intro i v hP;have hP : its[i]? = some v := by simpa using hP
   have hi : i < ns.length := by
    have := (c9.mp hP).1;omega
   obtain ⟨u, hu, ru⟩ := rv.get (i := i) (x := V.int ns[i]) (by rw [ay, be hi]; rfl);rw [hu] at hP;cases hP;obtain ⟨t, rfl⟩ := (show ∃ t, v = Value.int ns[i] t from ru)
   exact ⟨t, by dsimp only; rw [be hi]; rfl⟩
 · intro j hj;rw [bq] at hj;have hj : j < ns.length := by omega
   have hm : ns[j] ∈ ns := List.getElem_mem hj;have hp := ps (j + 1) (by omega);have hp0 := ps j (by omega);have h3 := tk (j + 1);have h4 := nn (ns.take (j + 1)) fun n hn => h0 n (List.mem_of_mem_take hn);have h5 := nn (ns.take j) fun n hn => h0 n (List.mem_of_mem_take hn);have h6 := h0 _ hm;rw [preSum, hp0, be hj] at hp;have hp : (ns.take j).sum + ns[j] = (ns.take (j + 1)).sum := hp;refine ⟨?_, ?_⟩
   · dsimp only;rw [be hj];show InLong ns[j];unfold InLong; omega
   · rw [ps (j + 1) (by omega)];unfold InLong; omega
 · have e : preSum (fun i => (ns[i]?).getD 0) its.toArray.size = ns.sum := by
    rw [bq, ← hl, ps _ (ai _), ci]
   rw [e];refine ⟨.int ns.sum, H, I.kept fun b o e => hk b o (fun hb => ?_) (ap _ e), ⟨t', rfl⟩, q⟩;have z : b = s.heap.objs.size := by simpa using hb
   exact absurd (al e) (by rw [z]; exact cj _)
end
section
theorem Q9 {v : Value} (hit : s.heap.IsTupleIter it t i) (ht : s.heap.IsTuple t its) (hv : its[i]? = some v)
  (k : ∀ g, g.IsTupleIter it t (i + 1) → Heap.SameBut it s.heap g → Q v { s with heap := g }) : wpAny (model prog w) A (Builtin.SmallTypes.nextOf (.ref it)) Q E s := by
 obtain ⟨o, e1, e2, e3⟩ := id hit;obtain ⟨ot, et, _, nt, dt⟩ := ht;unfold Builtin.SmallTypes.nextOf;refine aa (wpAny_callSpecial?_slot (name := Str.ofString "__next__") hit.typeIs PySem.F.slot_tuple_iterator_next (cy PySem.F.slot_tuple_iterator_next hit.typeIs PySem.F.entry_tuple_iterator_next ?_ (PySem.F.args_tuple_iterator_next_1 _)));show wpAny _ _ (field (.ref it) 0 >>= _) _ _ s;refine aa (wpAny_field e1 e3 (x := .ref t) rfl ?_);show wpAny _ _ (if (Value.ref t == Value.none) = true then _ else _) _ _ s;rw [if_neg (fun z => by cases (show false = true from z))];show wpAny _ _ (field (.ref it) 1 >>= _) _ _ s;refine aa (wpAny_field e1 e3 (x := .int i 0) rfl ?_);show wpAny _ _ (seqItems? (.ref t) >>= _) _ _ s;refine aa (wpAny_seqItems et dt ?_);simp only [df, hv];refine aa (wpAny_setField e1 e3 (by simp) (aj ⟨v, rfl, aj (k _ ⟨_, Heap.get?_update_self _ e1 (Obj.isFreed_of_fields (Obj.data_mapFields e3 _)), (Obj.cls_mapFields ..).trans e2, ?_⟩ (Heap.SameBut.update ..))⟩));rw [Obj.data_mapFields e3]; simp [rawInt]
theorem Xd (hh : A.handled = none) (hit : s.heap.IsTupleIter it t i) (ht : s.heap.IsTuple t its) (hv : its[i]? = none)
  (k : ∀ g x, Heap.ExtBut it s.heap g → (∃ o, g.get? x = some o ∧ o.cls = .type "StopIteration") → E (.ref x) { s with heap := g }) : wpAny (model prog w) A (Builtin.SmallTypes.nextOf (.ref it)) Q E s := by
 obtain ⟨o, e1, e2, e3⟩ := id hit;obtain ⟨ot, et, _, nt, dt⟩ := ht;unfold Builtin.SmallTypes.nextOf;refine aa (wpAny_callSpecial?_slot (name := Str.ofString "__next__") hit.typeIs PySem.F.slot_tuple_iterator_next (cy PySem.F.slot_tuple_iterator_next hit.typeIs PySem.F.entry_tuple_iterator_next ?_ (PySem.F.args_tuple_iterator_next_1 _)));show wpAny _ _ (field (.ref it) 0 >>= _) _ _ s;refine aa (wpAny_field e1 e3 (x := .ref t) rfl ?_);show wpAny _ _ (if (Value.ref t == Value.none) = true then _ else _) _ _ s;rw [if_neg (fun z => by cases (show false = true from z))];show wpAny _ _ (field (.ref it) 1 >>= _) _ _ s;refine aa (wpAny_field e1 e3 (x := .int i 0) rfl ?_);show wpAny _ _ (seqItems? (.ref t) >>= _) _ _ s;refine aa (wpAny_seqItems et dt ?_);simp only [df, hv];refine aa (wpAny_rule (aa (wpAny_setField e1 e3 (by simp) ?_)));show wpAny _ _ (newExc (.type "StopIteration") [] >>= _) _ _ _;refine aa ?_;simp only [newExc, newTuple];refine aa (cz ?_ (by size_fits));refine aa (m := firstArgMember _ _) (wpAny_of_eq (a := Value.none) (by first | rfl | (simp only [firstArgMember]; rfl)) ?_);refine cz ?_ (by size_fits);simp only [raiseNew];refine aa (wpAny_handled ?_);first | rw [show A.in1.handled = none from hh] | rw [hh]
 exact aa (aj (wpAny_throw (k _ _ (((Heap.SameBut.update ..).extBut.push _).push _) ⟨_, bv _ rfl, rfl⟩)))
theorem zfb {e : Addr} {v : Value} {Q : Option Value → Shared → Prop} (he : IsEnum s.heap e it i old) (hit : s.heap.IsTupleIter it t i) (ht : s.heap.IsTuple t its) (hv : its[i]? = some v) (hne : e ≠ it)
  (k : ∀ g, IsEnumOut g e it ((i : Int) + 1) v s.heap.objs.size → g.IsTupleIter it t (i + 1) → g.get? s.heap.objs.size = some { cls := .type "tuple", data := .seq #[.int i s.toks, v] } → g.objs.size = s.heap.objs.size + 1 →
   (∀ b o, b ≠ e → b ≠ it → s.heap.get? b = some o → g.get? b = some o) → Q (some (.ref s.heap.objs.size)) { s with heap := g, toks := s.toks + 1 }) : wpAny (model prog w) A (pyNext (.ref e)) Q E s := by
 have hT : s.TypeIs (.ref e) "enumerate" := ⟨_, he, rfl⟩
 unfold pyNext;refine aa (wpAny_attempt (wpAny_callSpecial?_slot (name := Str.ofString "__next__") hT PySem.F.slot_enumerate_next (cy PySem.F.slot_enumerate_next hT PySem.F.entry_enumerate_next ?_ (PySem.F.args_enumerate_next_1 _))));obtain ⟨hp, gs, d, tk, os⟩ := s;show wpAny _ _ (field (.ref e) 2 >>= _) _ _ _;refine aa (wpAny_field he rfl (x := .ref it) rfl ?_);refine aa (Q9 hit ht hv fun g1 hit1 hs1 => ?_);replace hs1 : Heap.SameBut it hp g1 := hs1;have he1 : IsEnum g1 e it i old := (hs1.2 e hne).trans he;show wpAny _ _ (field (.ref e) 3 >>= _) _ _ ⟨g1, gs, d, tk, os⟩;refine aa (wpAny_field he1 rfl (x := rawInt i) rfl ?_);show wpAny _ _ (field (.ref e) 4 >>= _) _ _ ⟨g1, gs, d, tk, os⟩;refine aa (wpAny_field he1 rfl (x := .none) rfl ?_);show wpAny _ _ (mkInt i >>= _) _ _ ⟨g1, gs, d, tk, os⟩;refine aa (wpAny_mkInt ?_);show wpAny _ _ (setField (.ref e) 3 (rawInt ((i : Int) + 1)) >>= _) _ _ ⟨g1, gs, d, tk + 1, os⟩;refine aa (wpAny_setField_rec he1 (by simp) fun g2 he2 hs2 => ?_);replace hs2 : Heap.SameBut e g1 g2 := hs2;replace he2 : IsEnum g2 e it ((i : Int) + 1) old := he2;show wpAny _ _ (setField (.ref e) 4 .none >>= _) _ _ ⟨g2, gs, d, tk + 1, os⟩;refine aa (wpAny_setField_rec he2 (by simp) fun g3 he3 hs3 => ?_);replace hs3 : Heap.SameBut e g2 g3 := hs3;replace he3 : IsEnum g3 e it ((i : Int) + 1) old := he3;show wpAny _ _ (newTuple [.int i tk, v] >>= _) _ _ ⟨g3, gs, d, tk + 1, os⟩;refine aa (wpAny_newTuple ?_);have he4 : IsEnum (g3.push { cls := .type "tuple", data := .seq #[.int i tk, v] }) e it ((i : Int) + 1) old := ap _ he3;generalize hh4 : g3.push { cls := .type "tuple", data := .seq #[.int i tk, v] } = g4 at he4;have hsz : g3.objs.size = hp.objs.size := by rw [hs3.1, hs2.1, hs1.1]
 have hel : e < hp.objs.size := al he;have ht4 : g4.get? hp.objs.size = some { cls := .type "tuple", data := .seq #[.int i tk, v] } := by rw [← hh4, ← hsz]; exact bv _ rfl
 have hz4 : g4.objs.size = hp.objs.size + 1 := by rw [← hh4, db, hsz]
 have hk4 : ∀ b o, b ≠ e → b ≠ it → hp.get? b = some o → g4.get? b = some o := fun b o n1 n2 hb => by
  rw [← hh4]; exact ap _ (hs3.extBut b o n1 (hs2.extBut b o n1 (hs1.extBut b o n2 hb)))
 have hit4 : g4.IsTupleIter it t (i + 1) := by
  rw [← hh4];obtain ⟨o, ho, r⟩ := (hit1.extBut hs2.extBut (ak hne)).extBut hs3.extBut (ak hne);exact ⟨o, ap _ ho, r⟩
 show wpAny _ _ (Builtin.SmallTypes.ownedTupleIsFree (.ref e) >>= _) _ _ ⟨g4, gs, d, tk + 1, os⟩;rw [hsz];clear hh4 he3 hs3 he2 hs2 he1 hs1 hit1 hsz g3 g2 g1;refine aa ?_;unfold Builtin.SmallTypes.ownedTupleIsFree;refine aa (wpAny_field he4 rfl (x := .none) rfl (aj ?_));simp only [if_true];refine aa (wpAny_rule (aa (wpAny_field he4 rfl (x := old) rfl (aa (wpAny_setField_rec he4 (by simp) fun g5 he5 hs5 => ?_)))));replace hs5 : Heap.SameBut e g4 g5 := hs5;replace he5 : IsEnum g5 e it ((i : Int) + 1) v := he5;show wpAny _ _ (Builtin.SmallTypes.ownedTupleHandOut (.ref e) (.ref hp.objs.size) >>= _) _ _ ⟨g5, gs, d, tk + 1, os⟩;refine aa ?_;unfold Builtin.SmallTypes.ownedTupleHandOut;refine aa (wpAny_setField_rec he5 (by simp) fun g6 he6 hs6 => ?_);replace hs6 : Heap.SameBut e g5 g6 := hs6;replace he6 : IsEnumOut g6 e it ((i : Int) + 1) v hp.objs.size := he6;refine wpAny_setField_rec he6 (by simp) fun g7 he7 hs7 => ?_;replace hs7 : Heap.SameBut e g6 g7 := hs7;replace he7 : IsEnumOut g7 e it ((i : Int) + 1) v hp.objs.size := he7;refine aa (wpAny_letGo (aj ⟨_, rfl, aj (k g7 he7 ?_ ?_ ?_ ?_)⟩))
 · exact ((hit4.extBut hs5.extBut (ak hne)).extBut hs6.extBut (ak hne)).extBut hs7.extBut (ak hne)
 · exact hs7.extBut _ _ (cx hel) (hs6.extBut _ _ (cx hel) (hs5.extBut _ _ (cx hel) ht4))
 · rw [hs7.1, hs6.1, hs5.1, hz4]
 · exact fun b o n1 n2 hb => hs7.extBut b o n1 (hs6.extBut b o n1 (hs5.extBut b o n1 (hk4 b o n1 n2 hb)))
theorem zh1 {e : Addr} {Q : Option Value → Shared → Prop} (hh : A.handled = none) (he : IsEnum s.heap e it i old) (hit : s.heap.IsTupleIter it t i) (ht : s.heap.IsTuple t its) (hv : its[i]? = none)
  (k : ∀ g, Heap.ExtBut it s.heap g → Q none { s with heap := g }) : wpAny (model prog w) A (pyNext (.ref e)) Q E s := by
 have hT : s.TypeIs (.ref e) "enumerate" := ⟨_, he, rfl⟩
 unfold pyNext;refine aa (wpAny_attempt (wpAny_callSpecial?_slot (name := Str.ofString "__next__") hT PySem.F.slot_enumerate_next (cy PySem.F.slot_enumerate_next hT PySem.F.entry_enumerate_next ?_ (PySem.F.args_enumerate_next_1 _))));show wpAny _ _ (field (.ref e) 2 >>= _) _ _ _;refine aa (wpAny_field he rfl (x := .ref it) rfl ?_);refine aa (Xd hh hit ht hv fun g x hx ⟨o, ho, hc⟩ => ?_);exact aa (du (T := "StopIteration") (b := true) ⟨o, ho, hc⟩ isSubtype_stop (aj (k _ hx)))
theorem zkc (t : Addr) (its : Array Value) (n : Nat) (dct : Option Addr) (sl : Array (Option Value)) :
  Meets (Builtin.«enumerate.__new__» ⟨[.type "enumerate", .ref t], []⟩) (fun _ R s => s.heap.get? t = some { cls := .type "tuple", dict := dct, data := .seq its n, slots := sl } ∧
   R (.ok (.ret (.ref (s.heap.push { cls := .type "tuple_iterator", data := .fields #[.ref t, .int 0 0] }).objs.size)))
     { s with heap := (s.heap.push { cls := .type "tuple_iterator", data := .fields #[.ref t, .int 0 0] }).push { cls := .type "enumerate", data := .fields #[.none, .bool false, .ref s.heap.objs.size, rawInt 0, .none, .none] } }) :=
 .of_wp fun prog w A R s h => by
  obtain ⟨hp, g, d, tk, os⟩ := s;obtain ⟨hl, h⟩ := h;have hsub := sub_enumerate;have hL : Heap.IsTuple (Shared.heap ⟨hp, g, d, tk, os⟩) t its := ⟨_, hl, rfl, n, rfl⟩
  wp_walk using AutoSeq1.wpAny_loadPart' hl
  refine wpAny_stack_any fun st => aj ?_;split
  · rename_i c _ _ _ _ _
    cases (c == Value.type "enumerate")
    · wp_walk using AutoSeq1.wpAny_loadPart' hl, wpAny_pyIter_tuple hL
      exact ⟨_, rfl, h⟩
    · wp_walk using AutoSeq1.wpAny_loadPart' hl, wpAny_pyIter_tuple hL
      exact ⟨_, rfl, h⟩
  · wp_walk using AutoSeq1.wpAny_loadPart' hl, wpAny_pyIter_tuple hL
    exact ⟨_, rfl, h⟩
theorem zfh (ht : s.heap.IsTuple t its)
  (k : ∀ g, IsEnum g (s.heap.objs.size + 1) s.heap.objs.size 0 .none → g.IsTupleIter s.heap.objs.size t 0 → g.objs.size = s.heap.objs.size + 2 → (∀ b o, s.heap.get? b = some o → g.get? b = some o) → Q (.ref (s.heap.objs.size + 1)) { s with heap := g }) :
  wpAny (model prog w) A (call (.type "enumerate") [.ref t]) Q E s := by
 obtain ⟨⟨c, dct, dt, sl⟩, hl, hc, n, hd⟩ := ht;replace hc : c = .type "tuple" := hc;replace hd : dt = .seq its n := hd;subst hc hd;refine callType_new PySem.F.called_enumerate (by decide) (PySem.F.typeCall_enumerate_1 _) (PySem.F.newCall_enumerate_1 _) (fun obj => PySem.F.args_object_init_2 obj _) PySem.F.entry_enumerate_new (zkc t its n dct sl) ⟨hl, ?_⟩;have hz : (s.heap.push { cls := .type "tuple_iterator", data := .fields #[.ref t, .int 0 0] }).objs.size = s.heap.objs.size + 1 := db ..;show _ ∧ _;rw [hz];have he : IsEnum ((s.heap.push { cls := .type "tuple_iterator", data := .fields #[.ref t, .int 0 0] }).push { cls := .type "enumerate", data := .fields #[.none, .bool false, .ref s.heap.objs.size, rawInt 0, .none, .none] }) (s.heap.objs.size + 1) s.heap.objs.size 0 .none := by
  have q := bv (s.heap.push { cls := .type "tuple_iterator", data := .fields #[.ref t, .int 0 0] }) (o := { cls := .type "enumerate", data := .fields #[.none, .bool false, .ref s.heap.objs.size, rawInt 0, .none, .none] }) rfl;rw [hz] at q;exact q
 refine ⟨⟨_, he, rfl⟩, k _ he ⟨_, ap _ (bv _ rfl), rfl, rfl⟩ (by rw [db, hz]) fun b o e => ap _ (ap _ e)⟩
end
noncomputable def Ite (K : PySem.W.Frag) (a : Addr) : It :=
 ⟨fun i H => ∃ xs x, SqT K H a xs ∧ xs[i]? = some x, fun i H x H' => ∃ p y, x = .ref p ∧ H p = none ∧ H' = upd H p (.tup [.int i, y]) ∧ ∀ xs, SqT K H a xs → xs[i]? = some y, fun i H => ∃ xs, SqT K H a xs ∧ xs.length ≤ i⟩
theorem zgy {k1} (a e it : Addr) (hne : e ≠ it) (hb : sizeLine ≥ 2) :
  Turn P w K (.Tuple elts k1 pos) (Ite K a) [e, it] e (fun i h => (∃ old, IsEnum h e it i old) ∧ h.IsTupleIter it a i) where
 mem := by simp
 obj := fun i h st b hb => by
  obtain ⟨⟨old, he⟩, hi⟩ := st;rcases ag.mp hb with z | z
  · rw [z];exact ⟨_, he, fun v q => by
     have q' : Data.fields _ = Data.cell v := q;cases q'⟩
  · have z : b = it := by simpa using z
    rw [z];obtain ⟨o, e1, c, d⟩ := hi;exact ⟨o, e1, fun v q => by rw [d] at q; cases q⟩
 keep := fun i h h' st k => by
  obtain ⟨⟨old, he⟩, o, e1, r⟩ := st;exact ⟨⟨old, k e (by simp) _ he⟩, o, k it (by simp) o e1, r⟩
 item := by
  intro X hP hw hK hc i pins s σ H E I hf st hg;subst hP hw hK;obtain ⟨xs, x, hq, hx⟩ := hg;obtain ⟨its, rv, p, hz⟩ := I.tuple hq;obtain ⟨u, hu, ru⟩ := rv.get hx;obtain ⟨⟨old, he⟩, hi⟩ := st;obtain ⟨f0, f1, f2, f3, f4, f5⟩ := hf e (by simp);obtain ⟨g0, g1, g2, g3, g4, g5⟩ := hf it (by simp);refine zfb he hi (show s.heap.IsTuple a its.toArray from p) (v := u) (by simpa using hu) hne fun g ho hi' hT hsz hk => ?_;refine ⟨.ref s.heap.objs.size, rfl, wpAny_letOwnedTupleGo_enum ho fun g' he' hs' => ?_⟩;have hTe : s.heap.objs.size ≠ e := cx (al he);have hTi : s.heap.objs.size ≠ it := by
   obtain ⟨o, e1, _⟩ := hi;exact cx (al e1)
  have hk' : ∀ b o, b ≠ e → b ≠ it → s.heap.get? b = some o → g'.get? b = some o := fun b o n1 n2 z => (hs'.2 b n1).trans (hk b o n1 n2 z);have hT' : g'.get? s.heap.objs.size = some { cls := .type "tuple", data := .seq #[.int i s.toks, u] } := (hs'.2 _ hTe).trans hT;have hfr : H s.heap.objs.size = none := I.hok.fresh (ai _);have old1 : ∀ b o, H b = some o → b ≠ e ∧ b ≠ it := fun b o z => ⟨(fun q => by rw [q, f0] at z; cases z), (fun q => by rw [q, g0] at z; cases z)⟩
  have I1 : Inv X pins σ (upd H s.heap.objs.size (.tup [.int i, x])) { s with heap := g', toks := s.toks + 1 } := by
   refine I.step (g' := s.gens) (d' := s.drawn) (ch := [e, it]) (fun b hb => ?_) (fun b o n1 n2 n3 z _ => hk' b o (fun q => n3 (by simp [q])) (fun q => n3 (by simp [q])) z)
    (fun b o n1 n2 n3 z _ => ⟨o.slots, hk' b o (fun q => n3 (by simp [q])) (fun q => n3 (by simp [q])) z⟩) (fun b o n3 z n => ?_) (fun b o n3 z => ⟨o, hk' b o (fun q => n3 (by simp [q])) (fun q => n3 (by simp [q])) z⟩)
    (fun b ys z => by rw [zk (zj z hfr)]; exact z) (fun b o ys z => by rw [zk (zj z hfr)]; exact z) (fun b ps z => ⟨#[], by rw [zk (zj z hfr), z]; simp⟩) (fun m hm => ?_) (fun b ob z => ?_) I.bare
   · rcases ag.mp hb with q | q
     · rw [q]; exact ⟨f3, f1, f4, f5⟩
     · have q : b = it := by simpa using q
       rw [q]; exact ⟨g3, g1, g4, g5⟩
   · rw [zk (bo (al z))]; exact n
   · obtain ⟨o, es, ep, hoo, r⟩ := hm;exact ⟨o, es, ep, hk' _ o (ak f1) (ak g1) hoo, r⟩
   · by_cases hb : b = s.heap.objs.size
     · subst hb;rw [zf] at z;cases z;exact ⟨by show 2 ≤ sizeLine; omega, [.int i s.toks, u], .cons ⟨_, rfl⟩ (.cons ru .nil), ⟨_, hT', rfl, _, rfl⟩, fun q hq => by
        have hq : g'.get? s.heap.objs.size = some q := hq;rw [hT'] at hq;cases hq;rfl⟩
     · rw [zk hb] at z;refine (I.hok b ob z).stay (fun c v hc q => ?_) (fun c q => by rw [zk (zj q hfr)]; exact q) fun c ys q => by rw [zk (zj q hfr)]; exact q
       rcases hc with rfl | hc
       · exact hk' c v (old1 c _ z).1 (old1 c _ z).2 q
       · exact hk' c v (old1 c _ hc).1 (old1 c _ hc).2 q
  refine ⟨.ref s.heap.objs.size, _, I1, rfl, ⟨_, x, rfl, hfr, rfl, fun ys hy => by rw [I.tuple_inj hy hq]; exact hx⟩, ⟨⟨u, by simpa using he'⟩, ?_⟩, fun b hb => ?_⟩
  · obtain ⟨o, e1, r⟩ := hi';exact ⟨o, (hs'.2 it (ak hne)).trans e1, r⟩
  · rcases ag.mp hb with q | q
    · rw [q, zk (ak hTe)]; exact f0
    · have q : b = it := by simpa using q
      rw [q, zk (ak hTi)]; exact g0
 done := by
  intro X hP hw hK hc i pins s σ H E I hf st hg;subst hP hw hK;obtain ⟨xs, hq, hx⟩ := hg;obtain ⟨its, rv, p, hz⟩ := I.tuple hq;obtain ⟨⟨old, he⟩, hi⟩ := st;obtain ⟨g0, g1, g2, g3, g4, g5⟩ := hf it (by simp);have hl := rv.length;exact zh1 (I.ok.hd hc) he hi (show s.heap.IsTuple a its.toArray from p) (by simp; omega) fun g eb => ⟨rfl, I.turned (t' := s.toks) (fun b o hb z => eb b o hb z) g0 g1 g3 g4 g5⟩
 self := fun _ _ _ _ _ st h => by
  obtain ⟨⟨old, he⟩, _⟩ := st;exact wpAny_pyIter_enum he h
section
noncomputable def zr8 (K : PySem.W.Frag) (ta : TA) : TI := fun σ H R => ta σ H fun vs H1 => ∃ a xs, vs = [.ref a] ∧ SqT K H1 a xs ∧ R (Ite K a) H1
theorem zml {k1} {tpos : Pos} {a : Expr} {p : Pos} (hg : Gl X "enumerate") (hm : X.mg "enumerate" = none) (ha : PA X [a] ta) (hs : starEach [a] X.env = [(false, eval a X.env)] := by rfl) :
  PI X (.Tuple elts k1 tpos) (.Call (.Name "enumerate" p) [a] [] pos) (zr8 X.K ta) := by
 intro pins s σ H R I h;refine Call_ (Yt I hg hm boot_enumerate (PyProof.Rows.callWith_type1 (thn (ha pos pins s σ H _ I h) fun us s1 ⟨vs, H1, I1, r1, q1⟩ => ?_) hs rfl));obtain ⟨t, xs, e, hq, q⟩ := q1;subst e;obtain ⟨u, rfl, ru⟩ := j6 r1;cases ru;obtain ⟨its, rv, pt, hz⟩ := I1.tuple hq;refine zfh (show s1.heap.IsTuple t its.toArray from pt) fun g he hi hsz hk => ?_;refine wpAny_pyIter_enum he ?_;have hlt : t < s1.heap.objs.size := by obtain ⟨o, e1, _⟩ := pt; exact al e1
 refine ⟨s1.heap.objs.size + 1, [s1.heap.objs.size + 1, s1.heap.objs.size], _, _, H1, rfl, I1.kept (t' := s1.toks) hk, zgy t (s1.heap.objs.size + 1) s1.heap.objs.size (Nat.succ_ne_self _) (by rw [sizeLine_eq]; omega), ⟨⟨_, he⟩, hi⟩, fun b hb => ?_, q⟩;rcases ag.mp hb with z | z
 · rw [z]; exact I1.fpOk (Nat.le_succ _) (I1.hok.fresh (Nat.le_succ _))
 · have z : b = s1.heap.objs.size := by simpa using z
   rw [z]; exact I1.fpOk (ai _) (I1.hok.fresh (ai _))
end
theorem zk0 (Pv : Nat → St → Hp → Prop) (h0 : Pv 0 σ H) (hl : ∀ i σ H, i ≤ xs.length → Pv i σ H → SqT K H a xs)
  (hs : ∀ i x σ H p, xs[i]? = some x → Pv i σ H → H p = none → g (.ref p) σ (upd H p (.tup [.int i, x])) fun σ2 H2 => tb { D with nx := Pv (i + 1), ct := Pv (i + 1), bk := D.nx } σ2 H2) (hd : ∀ σ H, Pv xs.length σ H → D.nx σ H) :
  ∃ W : Nat → Nat → St → Hp → Prop, (∃ m, W 0 m σ H) ∧ ∀ i m σ H, W i m σ H →
    ((Ite K a).stop i H ∧ D.nx σ H) ∨ ((Ite K a).go i H ∧ ∃ N : St → Hp → Prop, (∀ σ' H', N σ' H' → ∃ m', m' < m ∧ W (i + 1) m' σ' H') ∧ ∀ x H', (Ite K a).yld i H x H' → g x σ H' fun σ2 H2 => tb { D with nx := N, ct := N, bk := D.nx } σ2 H2) := by
 refine ⟨fun i m σ H => m = xs.length - i ∧ i ≤ xs.length ∧ Pv i σ H, ⟨xs.length, by simp, bd _, h0⟩, ?_⟩;rintro i m σ H ⟨rfl, hi, p⟩;have q := hl i σ H hi p;by_cases hlt : i < xs.length
 · refine .inr ⟨⟨xs, xs[i], q, by simp [hlt]⟩, Pv (i + 1), fun σ' H' p' => ⟨xs.length - (i + 1), by omega, rfl, hlt, p'⟩, fun x H' y => ?_⟩;obtain ⟨p', y', rfl, hn, rfl, hy⟩ := y;exact hs i y' σ H p' (hy xs q) p hn
 · have e : i = xs.length := by omega
   subst e;exact .inl ⟨⟨xs, q, ai _⟩, hd σ H p⟩
noncomputable def Itd (lo : Int) (n : Nat) : It := ⟨fun i _ => i < n, fun i H x H' => H' = H ∧ x = .int (lo - i), fun i _ => n ≤ i⟩
theorem zgz (it : Addr) (lo : Int) (n : Nat) : Turn P w K tg (Itd lo n) [it] it (fun i h => IsRangeIter h it (lo + (i : Nat) * (-1)) ((n : Int) - (i : Nat)) (-1)) where
 mem := by simp
 obj := fun i h st b hb => by
  have e : b = it := by simpa using hb
  subst e;exact ⟨_, st, fun v z => by
   have z' : Data.fields _ = Data.cell v := z;cases z'⟩
 keep := fun i h h' st k => k it (by simp) _ st
 item := by
  intro X hP hw hK hc i pins s σ H E I hf st hg;subst hP hw hK;obtain ⟨f0, f1, f2, f3, f4, f5⟩ := hf it (by simp);refine (Walks.range (prog := X.prog) (w := X.w) (I.ok.hd hc) it lo (-1) n).item i s _ _ hg st fun v h' tk hv st' kk => ?_;obtain ⟨t, rfl⟩ := hv;have I1 : Inv X pins σ H { s with heap := h', toks := tk } := I.turned (fun b o hb e => kk b o (by simpa using hb) e) f0 f1 f3 f4 f5;refine ⟨_, rfl, zdg (s := { s with heap := h', toks := tk }) (n := "range_iterator") st' rfl rfl (by decide) ⟨.int (lo - i), H, I1, ⟨t, ?_⟩, ⟨rfl, rfl⟩, st', fun b hb => (hf b hb).1⟩⟩;congr 1;omega
 done := by
  intro X hP hw hK hc i pins s σ H E I hf st hg;subst hP hw hK;obtain ⟨f0, f1, f2, f3, f4, f5⟩ := hf it (by simp);exact wpAny_pyNext_range_end (I.ok.hd hc) st (by have : n ≤ i := hg; omega) fun h' eb => ⟨rfl, I.turned (t' := s.toks) (fun b o hb e => eb b o hb e) f0 f1 f3 f4 f5⟩
 self := fun _ _ _ _ _ st h => wpAny_pyIter_rangeiter st h
section
noncomputable def zr9 (ta : TA) : TI := fun σ H R => ta σ H fun vs H1 => ∃ n : Nat, vs = [.int ((n : Int) - 1), .int (-1), .int (-1)] ∧ (n : Int) < 2 ^ 62 ∧ R (Itd ((n : Int) - 1) n) H1
theorem zmm {a b c : Expr} {p : Pos} (hg : Gl X "range") (hm : X.mg "range" = none) (ha : PA X [a, b, c] ta) (hs : starEach [a, b, c] X.env = [(false, eval a X.env), (false, eval b X.env), (false, eval c X.env)] := by rfl)
  (hs2 : starEach [b, c] X.env = [(false, eval b X.env), (false, eval c X.env)] := by rfl) :
  PI X tg (.Call (.Name "range" p) [a, b, c] [] pos) (zr9 ta) := by
 intro pins s σ H R I h;refine Call_ (Yt I hg hm boot_range (PyProof.Rows.callWith_type1 (thn (ha pos pins s σ H _ I h) fun us s1 ⟨vs, H1, I1, r1, q1⟩ => ?_) (by rw [hs, hs2]) (by rw [hs2]; rfl)));obtain ⟨n, e, hn, q⟩ := q1;subst e;cases r1 with
 | cons r rr =>
   cases rr with
   | cons r' rr =>
     cases rr with
     | cons r'' rr =>
       cases rr;obtain ⟨t, rfl⟩ := r;obtain ⟨t', rfl⟩ := r';obtain ⟨t'', rfl⟩ := r'';refine call_range_3 (by decide) ?_ (.inl (PyProof.noPylong_small (by omega)));have sz : Builtin.Range.rangeSize ((n : Int) - 1) (-1) (-1) = n := by
        unfold Builtin.Range.rangeSize;rw [if_neg (by decide)];rw [show (-(-1 : Int)) = 1 from rfl, Int.ediv_one];split
        · omega
        · omega
       have sm : Builtin.Range.small ((n : Int) - 1) (-1) (-1) = true := by
        unfold Builtin.Range.small;simp only [sz, Builtin.Range.rangeFitsLong, bu, Bool.or_eq_true, decide_eq_true_eq, beq_iff_eq];exact ⟨⟨⟨⟨by omega, by decide⟩, by decide⟩, by omega⟩, .inr (by decide)⟩
       refine wpAny_pyIter_range (IsRange.new ..) sm ?_;rw [sz];have I2 : Inv X pins σ H1 { s1 with heap := s1.heap.push { cls := .type "range", data := .fields #[.int ((n : Int) - 1) t, .int (-1) t', .int (-1) t''] }, toks := s1.toks } := I1.kept fun b o e => ap _ e;refine ⟨_, [_], _, _, H1, rfl, I2.kept (t' := s1.toks) fun b o e => ap _ e, zgz _ ((n : Int) - 1) n, ?_, fun b hb => ?_, q⟩
       · have e1 : (n : Int) - 1 + ((0 : Nat) : Int) * (-1) = (n : Int) - 1 := by omega
         have e2 : (n : Int) - ((0 : Nat) : Int) = n := by omega
         show IsRangeIter _ _ ((n : Int) - 1 + ((0 : Nat) : Int) * (-1)) ((n : Int) - ((0 : Nat) : Int)) (-1);rw [e1, e2];exact bv _ rfl
       · have e := av.mp hb;rw [e];exact I2.fpOk (ai _) (I2.hok.fresh (ai _))
end
theorem zk1 (Pv : Nat → St → Hp → Prop) (h0 : Pv 0 σ H)
  (hs : ∀ i σ H, i < n → Pv i σ H → g (.int (lo - i)) σ H fun σ2 H2 => tb { D with nx := Pv (i + 1), ct := Pv (i + 1), bk := D.nx } σ2 H2) (hd : ∀ σ H, Pv n σ H → D.nx σ H) :
  ∃ W : Nat → Nat → St → Hp → Prop, (∃ m, W 0 m σ H) ∧ ∀ i m σ H, W i m σ H →
    ((Itd lo n).stop i H ∧ D.nx σ H) ∨ ((Itd lo n).go i H ∧ ∃ N : St → Hp → Prop, (∀ σ' H', N σ' H' → ∃ m', m' < m ∧ W (i + 1) m' σ' H') ∧ ∀ x H', (Itd lo n).yld i H x H' → g x σ H' fun σ2 H2 => tb { D with nx := N, ct := N, bk := D.nx } σ2 H2) := by
 refine ⟨fun i m σ H => m = n - i ∧ i ≤ n ∧ Pv i σ H, ⟨n, by simp, bd _, h0⟩, ?_⟩;rintro i m σ H ⟨rfl, hi, p⟩;by_cases hlt : i < n
 · refine .inr ⟨hlt, Pv (i + 1), fun σ' H' p' => ⟨n - (i + 1), by omega, rfl, hlt, p'⟩, fun x H' y => ?_⟩;obtain ⟨e, y⟩ := y;subst e y;exact hs i σ _ hlt p
 · have e : i = n := by omega
   subst e;exact .inl ⟨ai _, hd σ H p⟩
theorem K5 : entryFor table "dict.update.loop" = some Builtin.«dict.update.loop» := entryFor_of_tree (by kernel_rfl)
theorem Y2 : plainId "dict.update.loop" = true := by decide +kernel
theorem zhk : typeLookup (.type "tuple") "keys" = pure none := am_miss_of_fast (by decide +kernel)
section
set_option maxRecDepth 8000 in
theorem zan {xs : Array Value} {k : Nat} {u : Tok} (hx : s.heap.get? a = some { cls := .type "tuple", dict := none, data := .seq xs k, slots := sl }) (hA : A.handled = none)
  (h : ∀ h' tk e, Heap.NewExcOf s.heap h' e "AttributeError" → E (.ref e) { s with heap := h', toks := tk }) : wpAny (model prog w) A (getAttrBy (.ref a) (.str "keys" u) false) Q E s := by
 obtain ⟨hp, g, d, tk, os⟩ := s;have hT : ∀ tk', (⟨hp, g, d, tk', os⟩ : Shared).TypeIs (.ref a) "tuple" := fun _ => ⟨_, hx, rfl⟩
 have f1 := sub_AttributeError;have f3 := PySem.F.slot_tuple_getattribute.lookup;have f4 := PySem.F.slot_tuple_getattribute.bind (.ref a);have f5 := am_tuple_getattr_none;unfold getAttrBy
 repeat (any_goals (first | assumption | exact hT _ | ((with_reducible show wpAny _ _ (call (Value.builtin "tuple.__getattribute__") _ _) _ _ _); refine call_meets PySem.F.slot_tuple_getattribute (hT _) am_entry_tuple_getattribute (PySem.F.args_tuple_getattribute_2 _ _) (meets_getattribute_miss_tuple a xs k sl "keys" _ zhk (by decide +kernel) (by size_fits)) ⟨hx, hA, fun h' tk' e hx' => ?_⟩) | wp_step))
 obtain ⟨t', u', he⟩ := hx'.there;show wpAny _ _ (getattributeRaised _ _ _ _ _ _ _) _ _ _;unfold getattributeRaised
 repeat (any_goals (first | assumption | wp_step))
 exact h _ _ _ hx'.of
theorem zd8 {xs : Array Value} {k : Nat} {Q : Option Value → Shared → Prop} (hx : s.heap.get? a = some { cls := .type "tuple", dict := none, data := .seq xs k, slots := sl }) (hA : A.handled = none)
  (h : ∀ h' tk, (∀ b o, s.heap.get? b = some o → h'.get? b = some o) → Q none { s with heap := h', toks := tk }) : wpAny (model prog w) A (getAttr? (.ref a) "keys") Q E s := by
 unfold getAttr? getAttrBy?;refine aa (wpAny_mkText ?_);refine aa (wpAny_attempt (zan (s := { s with toks := s.toks + 1 }) hx hA fun h' tk e x => ?_));obtain ⟨c, r, he, hc, _⟩ := x.there;refine aa (du (T := "AttributeError") (b := true) ⟨_, he, hc⟩ sub_AttributeError ?_);exact aj (h _ _ x.keeps)
end
section
noncomputable def zlx (prog : Program) (w : World) (h : Heap) (v : Value) (kv : Key × Value) : Prop := ∃ b key, v = .ref b ∧ h.IsTuple b #[key, kv.2] ∧ (yj prog w).is kv.1 key = true
theorem zk9 {d : Addr} {rows : List (Key × Value)} (hh : A.handled = none) (hn1 : d ≠ it) (hn2 : t ≠ it) (hn3 : t ≠ d) (hl : its.size = rows.length) (hlz : rows.length ≤ sizeLine) :
  ∀ (k i : Nat) (s : Shared) (kvs : List (Key × Value)), rows.length - i = k → i ≤ rows.length → kvs.length ≤ i → s.heap.IsTupleIter it t i → s.heap.IsTuple t its → s.heap.DictOf (yj prog w) d kvs →
    (∀ (j : Nat) v kv, its[j]? = some v → rows[j]? = some kv → ∃ b, v = .ref b ∧ b ≠ d ∧ b ≠ it ∧ zlx prog w s.heap v kv) →
    (∀ h' tk, h'.DictOf (yj prog w) d (merged kvs (rows.drop i)) → (∀ b o, b ≠ d → b ≠ it → s.heap.get? b = some o → h'.get? b = some o) → R (.ok (.ret .none)) { s with heap := h', toks := tk }) →
    codeAny (model prog w) A (.builtin "dict.update.loop" ⟨[.ref d, .ref it, rawInt i, .none], []⟩) R s := by
 intro k;induction k with
 | zero =>
   intro i s kvs hk hi hz hit ht hd hp hR;have e : i = rows.length := by omega
   refine codeAny_builtin K5 ?_;rw [Around.under_plainId Y2 _];show wpAny _ A.in1 (pyNext (.ref it) >>= _) _ _ s;refine aa (wpAny_pyNext_tuple_end (show A.in1.handled = none from hh) hit ht (Array.getElem?_eq_none (by omega)) fun h' eb => ?_);show wpAny _ A.in1 (Builtin.Dict.addKeywords d [] >>= _) _ _ _;refine aa (aj ?_);refine aj ?_;refine hR h' s.toks ?_ fun b o n1 n2 z => eb b o n2 z;rw [e, List.drop_length];show h'.DictOf (yj prog w) d kvs;obtain ⟨o, es, ep, ho, r⟩ := hd;exact ⟨o, es, ep, eb d o hn1 ho, r⟩
 | succ k ih =>
   intro i s kvs hk hi hz hit ht hd hp hR;have hlt : i < rows.length := by omega
   have hx : its[i]? = some its[i] := Array.getElem?_eq_getElem (by omega);have hr : rows[i]? = some rows[i] := be hlt;obtain ⟨b, hb, nbd, nbi, b', key, hb', hbt, hkey⟩ := hp i _ _ hx hr;rw [hb] at hb';cases hb';refine codeAny_builtin K5 ?_;rw [Around.under_plainId Y2 _];show wpAny _ A.in1 (pyNext (.ref it) >>= _) _ _ s;refine aa (wpAny_pyNext_tuple_item hit ht hx fun g hit' hs => ?_);have hbt' : g.IsTuple b #[key, rows[i].2] := hbt.extBut hs.extBut nbi;have hd' : g.DictOf (yj prog w) d kvs := by
    obtain ⟨o, es, ep, ho, r⟩ := hd;exact ⟨o, es, ep, hs.extBut d o hn1 ho, r⟩
   rw [hb];show wpAny _ A.in1 (holding [Value.ref b] _ >>= _) _ _ _;refine aa (wpAny_holding ?_);refine aa (wpAny_tryCatch ?_);unfold Builtin.Dict.pairItems;refine aa (wpAny_typeOf (T := "tuple") (Heap.IsTuple.typeIs (s := { s with heap := g }) hbt') ?_);rw [if_pos (by rfl)];obtain ⟨ob, hob, _, nb, hdb⟩ := hbt';refine aa (wpAny_seqItems (s := { s with heap := g }) hob hdb ?_);refine aj ?_;show wpAny _ A.in1 (holding [key, rows[i].2] (dictSet d key rows[i].2)) _ _ _;refine wpAny_holding (wpAny_dictSet_pairs (knd := yj prog w) hkey hd' (fun g2 hd2 hs2 => ?_) (bp (Nat.le_of_lt (Nat.lt_of_le_of_lt hz hlt)) hlz));refine aj ⟨plainId_quiet Y2 _, ?_⟩;have e1 : rawInt ((i : Int) + 1) = rawInt ((i + 1 : Nat) : Int) := by simp
   have keep : ∀ c o, c ≠ d → c ≠ it → s.heap.get? c = some o → g2.get? c = some o := fun c o n1 n2 z => hs2.extBut c o n1 (hs.extBut c o n2 z);show codeAny (model prog w) A (.builtin "dict.update.loop" ⟨[.ref d, .ref it, rawInt ((i : Int) + 1), .none], []⟩) R _;rw [e1];refine ih (i + 1) _ _ (by omega) hlt ?_ (hit'.extBut hs2.extBut (ak hn1)) (ht.extBut hs.extBut hn2 |>.extBut hs2.extBut hn3) hd2 (fun j v kv hv hkv => ?_) fun h' tk hD hk' => ?_
   · unfold stored;split
     · rw [ae]; omega
     · rw [ar, ce]; omega
   · obtain ⟨c, hc, n1, n2, c', key', hc', hct, hkk⟩ := hp j v kv hv hkv;refine ⟨c, hc, n1, n2, c', key', hc', ?_, hkk⟩;rw [hc] at hc';cases hc';exact (hct.extBut hs.extBut n2).extBut hs2.extBut n1
   · refine hR h' tk ?_ fun c o n1 n2 z => hk' c o n1 n2 (keep c o n1 n2 z);have e2 : rows.drop i = rows[i] :: rows.drop (i + 1) := List.drop_eq_getElem_cons hlt;rw [e2];exact hD
end
section
noncomputable def zox : List V → Hp → VK → Prop := fun xs H Q => ∃ (a : Addr) (bs : List Addr) (kvs : List (Key × V)), xs = [.ref a] ∧ H a = some (.tup (bs.map V.ref)) ∧ Paired (fun (b : Addr) (kv : Key × V) => H b = some (.tup [kV kv.1, kv.2])) bs kvs ∧
 ∀ p, H p = none → Q (.ref p) (upd H p (.dK (kg [] kvs)))
theorem Jx (hc : X.calm = true) : Zu X (.type "dict") zox := by
 intro pins s σ H xs us Q I r h;obtain ⟨a, bs, kvs, rfl, ha, hbs, q⟩ := h;obtain ⟨u, rfl, rx⟩ := j6 r;cases rx;obtain ⟨hz, its, rv, ⟨⟨cc, cd, cdt, csl⟩, h1, h2, n, h3⟩, nd⟩ := (show yw X.prog X.w H s.heap a (.tup (bs.map V.ref)) from I.hok a _ ha)
 have h4 := nd _ h1;dsimp only at h2 h3 h4;subst h2 h3 h4;have hh : X.A.handled = none := I.ok.hd hc;have rowsOf : ∀ (bs : List Addr) (kvs : List (Key × V)), Paired (fun (b : Addr) (kv : Key × V) => H b = some (.tup [kV kv.1, kv.2])) bs kvs → ∃ rows : List (Key × Value), KV kvs rows ∧ rows.length = bs.length ∧
   ∀ (j : Nat) b kv, bs[j]? = some b → rows[j]? = some kv → zlx X.prog X.w s.heap (.ref b) kv ∧ H b ≠ none := by
  intro bs kvs hp;induction hp with
  | nil => exact ⟨[], .nil, rfl, fun j b kv hb => by simp at hb⟩
  | @cons b kv bs kvs hb _ ih =>
    obtain ⟨rows, rk, hl, hr⟩ := ih;obtain ⟨_, its2, rv2, ht2, _⟩ := (show yw X.prog X.w H s.heap b (.tup [kV kv.1, kv.2]) from I.hok b _ hb)
    cases rv2 with
    | @cons _ kq _ _ r1 r2 =>
      cases r2 with
      | @cons _ vq _ _ r3 r4 =>
        cases r4;refine ⟨(kv.1, vq) :: rows, .cons ⟨rfl, r3⟩ rk, by simp [hl], fun j b' kv' e1 e2 => ?_⟩;cases j with
        | zero =>
          simp at e1 e2;subst e1 e2;exact ⟨⟨b, kq, rfl, ht2, Wu r1⟩, by rw [hb]; simp⟩
        | succ j => exact hr j b' kv' (by simpa using e1) (by simpa using e2)
 obtain ⟨rows, rk, hrl, hrows⟩ := rowsOf bs kvs hbs;have hitsl : its.length = bs.length := by have := rv.length; rw [ae] at this; omega
 have hzb : bs.length ≤ sizeLine := by rw [ae] at hz; exact hz
 refine callType_codes (Q₁ := fun obj s₁ => obj = .ref s.heap.objs.size ∧ s₁ = { s with heap := s.heap.push { cls := .type "dict", data := .dict #[] } }) PySem.F.kt_called_dict (PySem.F.kt_typeCall_dict_1 _) PySem.F.entry_dict_init (kt_code_dict_new _ ⟨rfl, rfl⟩) ?_;rintro obj s₁ ⟨rfl, rfl⟩;have hnew : (s.heap.push { cls := .type "dict", data := .dict #[] }).DictOf (yj X.prog X.w) s.heap.objs.size [] := Heap.DictOf.new s.heap;have h1' : (s.heap.push { cls := .type "dict", data := .dict #[] }).get? a = some { cls := .type "tuple", dict := none, data := .seq its.toArray n, slots := csl } := ap _ h1;have hlt : a < s.heap.objs.size := al h1;refine ⟨hnew.typeIs, PySem.F.args_dict_init_2 _ _, ?_⟩;unfold Builtin.«dict.__init__»;refine aa ?_;unfold Builtin.Dict.selfAndRest;refine aa (wpAny_notOrdered_dict hnew.typeIs ?_);show wpAny _ _ (pure (s.heap.objs.size, [Value.ref a])) _ _ _;refine aj ?_;show wpAny _ _ (Builtin.Dict.updateFrom "dict.__init__" s.heap.objs.size (.ref a) [] .none) _ _ _;unfold Builtin.Dict.updateFrom;refine aa (wpAny_typeOf (T := "tuple") ⟨_, h1', rfl⟩ ?_);rw [if_pos (by decide)];refine aa (zd8 (s := { s with heap := s.heap.push { cls := .type "dict", data := .dict #[] } }) h1' hh fun g tk hk => ?_);simp only [Option.isNone_none, if_true];refine aa (wpAny_rule ?_);have hta : g.IsTuple a its.toArray := ⟨_, hk _ _ h1', rfl, n, rfl⟩
 refine aa (wpAny_pyIter_tuple (s := { s with heap := g, toks := tk }) hta ?_);refine aj ⟨plainId_quiet Y2 _, ?_⟩;have gsz : s.heap.objs.size + 1 ≤ g.objs.size := by
  obtain ⟨o, es, ep, ho, _⟩ := hnew;exact al (hk _ _ ho)
 have hgd : (g.push { cls := .type "tuple_iterator", data := .fields #[.ref a, .int 0 0] }).DictOf (yj X.prog X.w) s.heap.objs.size [] := by
  obtain ⟨o, es, ep, ho, rr⟩ := hnew;exact ⟨o, es, ep, ap _ (hk _ _ ho), rr⟩
 have up : ∀ b o, s.heap.get? b = some o → (g.push { cls := .type "tuple_iterator", data := .fields #[.ref a, .int 0 0] }).get? b = some o := fun b o e => ap _ (hk _ _ (ap _ e));refine zk9 (A := X.A.in1) (rows := rows) (its := its.toArray) (t := a) hh (bo (Nat.lt_of_succ_le gsz)) (bo (Nat.lt_trans hlt (Nat.lt_of_succ_le gsz))) (bo hlt) (by rw [bq]; omega) (by omega) rows.length 0 _ [] (by omega) (bd _) (ai _)
  ⟨_, bv _ rfl, rfl, rfl⟩ (hta.push _) hgd (fun j v kv hv hkv => ?_) fun h' tk' hD hK => ?_
 · have hv : its[j]? = some v := by simpa using hv
   have hj : j < bs.length := by
    have := (c9.mp hv).1;omega
   obtain ⟨u, hu, ru⟩ := rv.get (i := j) (x := V.ref bs[j]) (by rw [ay, be hj]; rfl);rw [hu] at hv;cases hv;cases (show v = Value.ref bs[j] from ru);obtain ⟨⟨b', key, hb', hbt, hkey⟩, hHb⟩ := hrows j bs[j] kv (be hj) hkv;cases hb';obtain ⟨ob, hob, rr⟩ := hbt;have hblt : bs[j] < s.heap.objs.size := al hob;exact ⟨bs[j], rfl, bo hblt, bo (Nat.lt_trans hblt (Nat.lt_of_succ_le gsz)), bs[j], key, rfl, ⟨ob, up _ _ hob, rr⟩, hkey⟩
 · refine ⟨rfl, ?_⟩;have keep : ∀ b o, s.heap.get? b = some o → h'.get? b = some o := fun b o e => hK b o (bo (al e)) (bo (Nat.lt_trans (al e) (Nat.lt_of_succ_le gsz))) (up b o e);have hD : h'.DictOf (yj X.prog X.w) s.heap.objs.size (merged [] rows) := hD;have rel : KV (kg [] kvs) (merged [] rows) := rk.merge .nil;have hlk : (kg [] kvs).length ≤ sizeLine := by
    have e1 := Xe kvs [];have e2 : kvs.length = bs.length := by
     have := rk.length;omega
    have e3 : ([] : List (Key × V)).length = 0 := rfl;omega
   refine ⟨.ref s.heap.objs.size, _, I.laid (a := s.heap.objs.size) (o := .dK (kg [] kvs)) (t' := tk') keep (ai _) (zbn hlk ?_ rel hD), rfl, q _ (I.hok.fresh (ai _))⟩;obtain ⟨_, z, _⟩ := zdq (P := X.prog) (w := X.w) (H := H) s.heap I.big;exact z
end
noncomputable def Its (x : Str) : It := ⟨fun i _ => i < x.cps.size, fun i H v H' => H' = H ∧ ∃ c, x.cps[i]? = some c ∧ v = .str ⟨#[c]⟩, fun i _ => x.cps.size ≤ i⟩
theorem ziv {ty : String} (it : Addr) (x : Str) (t : Tok) (hty : ty = "str_ascii_iterator" ∨ ty = "str_iterator") :
  Turn P w K tg (Its x) [it] it (fun i h => i ≤ x.cps.size ∧ h.IsStrIter it ty x t i) where
 mem := by simp
 obj := fun i h st b hb => by
  have e : b = it := by simpa using hb
  subst e;obtain ⟨_, o, e, c, d⟩ := st;exact ⟨o, e, fun v z => by rw [d] at z; cases z⟩
 keep := fun i h h' st k => by
  obtain ⟨z, o, e, r⟩ := st;exact ⟨z, o, k it (by simp) o e, r⟩
 item := by
  intro X hP hw hK hc i pins s σ H E I hf st hg;subst hP hw hK;obtain ⟨z, st⟩ := st;have hg : i < x.cps.size := hg;obtain ⟨f0, f1, f2, f3, f4, f5⟩ := hf it (by simp);have fin : ∀ (h' : Heap) (tk : Nat) (v : Value), SignAt x i v → h'.IsStrIter it ty x t (i + 1) → (∀ b o, b ∉ [it] → s.heap.get? b = some o → h'.get? b = some o) →
    ∃ u, some v = some u ∧ wpAny (model X.prog X.w) X.A (letOwnedTupleGo tg (.ref it) u) (fun _ s2 => ∃ y H', Inv X pins σ H' s2 ∧ yq y u ∧ (Its x).yld i H y H' ∧ (i + 1 ≤ x.cps.size ∧ s2.heap.IsStrIter it ty x t (i + 1)) ∧ ∀ b ∈ [it], H' b = none) E { s with heap := h', toks := tk } := by
   intro h' tk v hv st' kk;obtain ⟨c, u, hcx, rfl⟩ := hv;have I1 : Inv X pins σ H { s with heap := h', toks := tk } := I.turned (fun b o hb e => kk b o (by simpa using hb) e) f0 f1 f3 f4 f5;obtain ⟨o, e1, e2, e3⟩ := id st';refine ⟨_, rfl, zdg (s := { s with heap := h', toks := tk }) (n := ty) e1 e2 e3 (by rcases hty with rfl | rfl <;> decide) ⟨.str ⟨#[c]⟩, H, I1, ⟨u, rfl⟩, ⟨rfl, c, hcx, rfl⟩, ⟨hg, st'⟩, fun b hb => (hf b hb).1⟩⟩
  rcases hty with rfl | rfl
  · exact (Walks.strAscii (prog := X.prog) (w := X.w) (I.ok.hd hc) it x t).item i s _ _ hg st fun v h' tk hv st' kk => fin h' tk v hv st' kk
  · exact (Walks.strWide (prog := X.prog) (w := X.w) (I.ok.hd hc) it x t).item i s _ _ hg st fun v h' tk hv st' kk => fin h' tk v hv st' kk
 done := by
  intro X hP hw hK hc i pins s σ H E I hf st hg;subst hP hw hK;obtain ⟨z, st⟩ := st;have hg : x.cps.size ≤ i := hg;have e : i = x.cps.size := by omega
  subst e;obtain ⟨f0, f1, f2, f3, f4, f5⟩ := hf it (by simp);rcases hty with rfl | rfl
  · exact (Walks.strAscii (prog := X.prog) (w := X.w) (I.ok.hd hc) it x t).done s _ _ st fun h' tk kk => ⟨rfl, I.turned (fun b o hb e => kk b o (by simpa using hb) e) f0 f1 f3 f4 f5⟩
  · exact (Walks.strWide (prog := X.prog) (w := X.w) (I.ok.hd hc) it x t).done s _ _ st fun h' tk kk => ⟨rfl, I.turned (fun b o hb e => kk b o (by simpa using hb) e) f0 f1 f3 f4 f5⟩
 self := fun _ _ _ _ _ st h => by
  rcases hty with rfl | rfl
  · exact wpAny_pyIter_striter_ascii st.2 h
  · exact wpAny_pyIter_striter_wide st.2 h
section
noncomputable def ztq (tl : TE) : TI := fun σ H R => tl σ H fun v H1 => ∃ x, v = .str x ∧ R (Its x) H1
theorem zju {l : Expr} {tl : TE} (hl : PE X l tl) : PI X tg l (ztq tl) := by
 intro pins s σ H R I h;refine thn (hl pins s σ H _ I h) fun v s1 ⟨x, H1, I1, r1, q1⟩ => ?_;obtain ⟨y, e, q⟩ := q1;subst e;obtain ⟨t, rfl⟩ := r1;have mk : ∀ ty, (ty = "str_ascii_iterator" ∨ ty = "str_iterator") → PIE X pins σ tg R (.ref s1.heap.objs.size) { s1 with heap := s1.heap.push { cls := .type ty, data := .fields #[.str y t, .int 0 0] } } := fun ty hty => by
  refine ⟨s1.heap.objs.size, [s1.heap.objs.size], _, _, H1, rfl, I1.kept (t' := s1.toks) fun b o e => ap _ e, ziv _ y t hty, ⟨bd _, _, bv _ rfl, rfl, rfl⟩, fun b hb => ?_, q⟩;have e : b = s1.heap.objs.size := by simpa using hb
  subst e;exact I1.fpOk (ai _) (I1.hok.fresh (ai _))
 cases ha : y.cps.all (· < 128)
 · exact wpAny_pyIter_wide ha (mk _ (.inr rfl))
 · exact wpAny_pyIter_ascii ha (mk _ (.inl rfl))
end
section
variable {k : Nat} {Q : VK}
theorem Xt (Pv : Nat → List V → Hp → Prop) (h0 : Pv 0 [] H) (hl : ∀ i ys H, i ≤ xs.length → Pv i ys H → SqT K H a xs ∧ ys.length ≤ sizeLine)
  (hs : ∀ i x ys H, xs[i]? = some x → Pv i ys H → g x (capσ k cap σ) H fun σ2 H2 => tc σ2 H2 fun b H3 => if b = true then te σ2 H3 fun y H4 => Pv (i + 1) (ys ++ [y]) H4 else Pv (i + 1) ys H3)
  (hd : ∀ ys H, Pv xs.length ys H → ∀ p, H p = none → Q (.ref p) (upd H p (.lst ys))) : zag (Itt K a) g tc te k cap σ H Q := by
 refine ⟨fun i m ys H => m = xs.length - i ∧ i ≤ xs.length ∧ Pv i ys H, ⟨xs.length, by simp, bd _, h0⟩, ?_⟩;rintro i m ys H ⟨rfl, hi, p⟩;obtain ⟨q, hz⟩ := hl i ys H hi p;by_cases hlt : i < xs.length
 · refine .inr ⟨⟨xs, xs[i], q, by simp [hlt]⟩, hz, Pv (i + 1), fun ys' H' p' => ⟨xs.length - (i + 1), by omega, rfl, hlt, p'⟩, fun x H' y => ?_⟩;obtain ⟨e, y⟩ := y;subst e;exact hs i x ys _ (y xs q) p
 · have e : i = xs.length := by omega
   subst e;exact .inl ⟨⟨xs, q, ai _⟩, hz, hd ys H p⟩
theorem Y4 (Pv : Nat → List V → Hp → Prop) (h0 : Pv 0 [] H) (hl : ∀ i ys H, i ≤ xs.length → Pv i ys H → SqL K H a xs ∧ ys.length ≤ sizeLine)
  (hs : ∀ i x ys H, xs[i]? = some x → Pv i ys H → g x (capσ k cap σ) H fun σ2 H2 => tc σ2 H2 fun b H3 => if b = true then te σ2 H3 fun y H4 => Pv (i + 1) (ys ++ [y]) H4 else Pv (i + 1) ys H3)
  (hd : ∀ ys H, Pv xs.length ys H → ∀ p, H p = none → Q (.ref p) (upd H p (.lst ys))) : zag (Itl K a) g tc te k cap σ H Q := by
 refine ⟨fun i m ys H => m = xs.length - i ∧ i ≤ xs.length ∧ Pv i ys H, ⟨xs.length, by simp, bd _, h0⟩, ?_⟩;rintro i m ys H ⟨rfl, hi, p⟩;obtain ⟨q, hz⟩ := hl i ys H hi p;by_cases hlt : i < xs.length
 · refine .inr ⟨⟨xs, xs[i], q, by simp [hlt]⟩, hz, Pv (i + 1), fun ys' H' p' => ⟨xs.length - (i + 1), by omega, rfl, hlt, p'⟩, fun x H' y => ?_⟩;obtain ⟨e, y⟩ := y;subst e;exact hs i x ys _ (y xs q) p
 · have e : i = xs.length := by omega
   subst e;exact .inl ⟨⟨xs, q, ai _⟩, hz, hd ys H p⟩
theorem zc9 (Pv : Nat → List V → Hp → Prop) (h0 : Pv 0 [] H) (hl : ∀ i ys H, i ≤ n → Pv i ys H → ys.length ≤ sizeLine)
  (hs : ∀ i ys H, i < n → Pv i ys H → g (.int (lo + i)) (capσ k cap σ) H fun σ2 H2 => tc σ2 H2 fun b H3 => if b = true then te σ2 H3 fun y H4 => Pv (i + 1) (ys ++ [y]) H4 else Pv (i + 1) ys H3)
  (hd : ∀ ys H, Pv n ys H → ∀ p, H p = none → Q (.ref p) (upd H p (.lst ys))) : zag (Itr lo n) g tc te k cap σ H Q := by
 refine ⟨fun i m ys H => m = n - i ∧ i ≤ n ∧ Pv i ys H, ⟨n, by simp, bd _, h0⟩, ?_⟩;rintro i m ys H ⟨rfl, hi, p⟩;have hz := hl i ys H hi p;by_cases hlt : i < n
 · refine .inr ⟨hlt, hz, Pv (i + 1), fun ys' H' p' => ⟨n - (i + 1), by omega, rfl, hlt, p'⟩, fun x H' y => ?_⟩;obtain ⟨e, y⟩ := y;subst e y;exact hs i ys _ hlt p
 · have e : i = n := by omega
   subst e;exact .inl ⟨ai _, hz, hd ys H p⟩
theorem zki (Pv : Nat → List V → Hp → Prop) (h0 : Pv 0 [] H) (hl : ∀ i ys H, i ≤ x.cps.size → Pv i ys H → ys.length ≤ sizeLine)
  (hs : ∀ i c ys H, x.cps[i]? = some c → Pv i ys H → g (.str ⟨#[c]⟩) (capσ k cap σ) H fun σ2 H2 => tc σ2 H2 fun b H3 => if b = true then te σ2 H3 fun y H4 => Pv (i + 1) (ys ++ [y]) H4 else Pv (i + 1) ys H3)
  (hd : ∀ ys H, Pv x.cps.size ys H → ∀ p, H p = none → Q (.ref p) (upd H p (.lst ys))) : zag (Its x) g tc te k cap σ H Q := by
 refine ⟨fun i m ys H => m = x.cps.size - i ∧ i ≤ x.cps.size ∧ Pv i ys H, ⟨x.cps.size, by simp, bd _, h0⟩, ?_⟩;rintro i m ys H ⟨rfl, hi, p⟩;have hz := hl i ys H hi p;by_cases hlt : i < x.cps.size
 · refine .inr ⟨hlt, hz, Pv (i + 1), fun ys' H' p' => ⟨x.cps.size - (i + 1), by omega, rfl, hlt, p'⟩, fun v H' y => ?_⟩;obtain ⟨e, c, hc, rfl⟩ := y;subst e;exact hs i c ys _ hc p
 · have e : i = x.cps.size := by omega
   subst e;exact .inl ⟨ai _, hz, hd ys H p⟩
end
inductive T where
 | non | bl (b : Bool) | int (i : Int) | str (x : Str) | tup (ts : List T) | lst (ts : List T) | dct
mutual
noncomputable def Is (H : Hp) : T → V → Prop
 | .non, v => v = .non
 | .bl b, v => v = .bl b
 | .int i, v => v = .int i
 | .str x, v => v = .str x
 | .tup ts, v => ∃ a xs, v = .ref a ∧ H a = some (.tup xs) ∧ IsL H ts xs
 | .lst ts, v => ∃ a xs, v = .ref a ∧ H a = some (.lst xs) ∧ IsL H ts xs
 | .dct, v => ∃ a, v = .ref a ∧ H a = some (.dK [])
noncomputable def IsL (H : Hp) : List T → List V → Prop
 | [], xs => xs = []
 | t :: ts, xs => ∃ v vs, xs = v :: vs ∧ Is H t v ∧ IsL H ts vs
end
noncomputable def xk (H H' : Hp) : Prop := ∀ b xs, H b = some (.tup xs) → H' b = some (.tup xs)
theorem Same.tups (s : Same H H') : xk H H' := fun b xs e => s b _ e
theorem xk.refl (H : Hp) : xk H H := fun _ _ e => e
theorem xk.trans {H1 : Hp} (a : xk H H1) (b : xk H1 H2) : xk H H2 := fun c xs e => b c xs (a c xs e)
theorem Same.new (h : H p = none) (o : HO) : Same H (upd H p o) := fun b u q => by rw [zk (zj q h)]; exact q
theorem xk.upd {H : Hp} {p : Addr} {o o' : HO} (h : H p = some o) (ho : ∀ xs, o ≠ .tup xs) : xk H (upd H p o') := fun b xs e => by
 rw [zk (Ja e h (fun z => ho xs z.symm))]; exact e
mutual
theorem Is.mono {H H' : Hp} (s : Same H H') : ∀ {t : T} {v : V}, Is H t v → Is H' t v
 | .non, v, h => h
 | .bl b, v, h => h
 | .int i, v, h => h
 | .str x, v, h => h
 | .tup ts, v, h => by
   obtain ⟨a, xs, e, ha, hl⟩ := h;exact ⟨a, xs, e, s a _ ha, IsL.mono s hl⟩
 | .lst ts, v, h => by
   obtain ⟨a, xs, e, ha, hl⟩ := h;exact ⟨a, xs, e, s a _ ha, IsL.mono s hl⟩
 | .dct, v, h => by
   obtain ⟨a, e, ha⟩ := h;exact ⟨a, e, s a _ ha⟩
theorem IsL.mono {H H' : Hp} (s : Same H H') : ∀ {ts : List T} {xs : List V}, IsL H ts xs → IsL H' ts xs
 | [], xs, h => h
 | t :: ts, xs, h => by
   obtain ⟨v, vs, e, h1, h2⟩ := h;exact ⟨v, vs, e, Is.mono s h1, IsL.mono s h2⟩
end
mutual
noncomputable def Fro : T → Prop
 | .tup ts => jd ts
 | .lst _ => False
 | .dct => False
 | _ => True
noncomputable def jd : List T → Prop
 | [] => True
 | t :: ts => Fro t ∧ jd ts
end
mutual
theorem Is.tups {H H' : Hp} (s : xk H H') : ∀ {t : T} {v : V}, Fro t → Is H t v → Is H' t v
 | .non, v, _, h => h
 | .bl b, v, _, h => h
 | .int i, v, _, h => h
 | .str x, v, _, h => h
 | .tup ts, v, f, h => by
   obtain ⟨a, xs, e, ha, hl⟩ := h;have f : jd ts := by unfold Fro at f; exact f
   exact ⟨a, xs, e, s a _ ha, IsL.tups s f hl⟩
 | .lst ts, v, f, h => by unfold Fro at f; exact f.elim
 | .dct, v, f, h => by unfold Fro at f; exact f.elim
theorem IsL.tups {H H' : Hp} (s : xk H H') : ∀ {ts : List T} {xs : List V}, jd ts → IsL H ts xs → IsL H' ts xs
 | [], xs, _, h => h
 | t :: ts, xs, f, h => by
   obtain ⟨v, vs, e, h1, h2⟩ := h;have f : Fro t ∧ jd ts := by unfold jd at f; exact f
   exact ⟨v, vs, e, Is.tups s f.1 h1, IsL.tups s f.2 h2⟩
end
theorem jd.all {ts : List T} : jd ts ↔ ∀ t ∈ ts, Fro t := by
 induction ts with
 | nil => simp [jd]
 | cons t ts ih => simp [jd, ih]
theorem IsL.length {H : Hp} : ∀ {ts : List T} {xs : List V}, IsL H ts xs → xs.length = ts.length
 | [], xs, h => by cases h; rfl
 | t :: ts, xs, h => by
   obtain ⟨v, vs, rfl, _, h2⟩ := h;simp [IsL.length h2]
theorem IsL.get {H : Hp} : ∀ {ts : List T} {xs : List V} {i : Nat} {t : T}, IsL H ts xs → ts[i]? = some t → ∃ v, xs[i]? = some v ∧ Is H t v
 | [], _, _, _, _, e => by simp at e
 | t :: ts, xs, i, t', h, e => by
   obtain ⟨v, vs, rfl, h1, h2⟩ := h;cases i with
   | zero => simp at e; subst e; exact ⟨v, rfl, h1⟩
   | succ i =>
     obtain ⟨w, e1, e2⟩ := IsL.get (i := i) h2 (by simpa using e);exact ⟨w, by simpa using e1, e2⟩
theorem IsL.get' {ts : List T} (h : IsL H ts xs) (e : xs[i]? = some v) : ∃ t, ts[i]? = some t ∧ Is H t v := by
 have hl := h.length;have hi : i < ts.length := by have := (c9.mp e).1; omega
 obtain ⟨w, e1, e2⟩ := h.get (be hi);rw [e] at e1;cases e1;exact ⟨_, be hi, e2⟩
theorem IsL.append {H : Hp} : ∀ {ts us : List T} {xs ys : List V}, IsL H ts xs → IsL H us ys → IsL H (ts ++ us) (xs ++ ys)
 | [], us, xs, ys, h, k => by cases h; exact k
 | t :: ts, us, xs, ys, h, k => by
   obtain ⟨v, vs, rfl, h1, h2⟩ := h;exact ⟨v, vs ++ ys, rfl, h1, IsL.append h2 k⟩
theorem IsL.drop {H : Hp} : ∀ {ts : List T} {xs : List V} (n : Nat), IsL H ts xs → IsL H (ts.drop n) (xs.drop n)
 | ts, xs, 0, h => h
 | [], xs, n + 1, h => by cases h; exact rfl
 | t :: ts, xs, n + 1, h => by
   obtain ⟨v, vs, rfl, h1, h2⟩ := h;exact IsL.drop n h2
theorem IsL.take {H : Hp} : ∀ {ts : List T} {xs : List V} (n : Nat), IsL H ts xs → IsL H (ts.take n) (xs.take n)
 | ts, xs, 0, h => rfl
 | [], xs, n + 1, h => by cases h; exact rfl
 | t :: ts, xs, n + 1, h => by
   obtain ⟨v, vs, rfl, h1, h2⟩ := h;exact ⟨v, vs.take n, rfl, h1, IsL.take n h2⟩
theorem IsL.one {t : T} (h : Is H t v) : IsL H [t] [v] := ⟨v, [], rfl, h, rfl⟩
theorem IsL.two {t u : T} {w : V} (h : Is H t v) (k : Is H u w) : IsL H [t, u] [v, w] := ⟨v, [w], rfl, h, w, [], rfl, k, rfl⟩
theorem IsL.three {t u r : T} {w y : V} (h : Is H t v) (k : Is H u w) (m : Is H r y) : IsL H [t, u, r] [v, w, y] := ⟨v, [w, y], rfl, h, w, [y], rfl, k, y, [], rfl, m, rfl⟩
theorem Is.newTup {ts : List T} (hp : H p = none) (h : IsL H ts xs) : Is (upd H p (.tup xs)) (.tup ts) (.ref p) := ⟨p, xs, rfl, zf, IsL.mono (Same.new hp _) h⟩
noncomputable def tyn : T → String
 | .non => "NoneType" | .bl _ => "bool" | .int _ => "int" | .str _ => "str" | .tup _ => "tuple" | .lst _ => "list" | .dct => "dict"
theorem Is.ty {t : T} (h : Is H t v) : TyOf K H v (.type (tyn t)) := by
 cases t with
 | non => cases (show v = .non from h); exact .non
 | bl b => cases (show v = .bl b from h); exact .bl b
 | int i => cases (show v = .int i from h); exact .int i
 | str x => cases (show v = .str x from h); exact .str x
 | tup ts => obtain ⟨a, xs, rfl, ha, _⟩ := h; exact .tup ha
 | lst ts => obtain ⟨a, xs, rfl, ha, _⟩ := h; exact .lst ha
 | dct => obtain ⟨a, rfl, ha⟩ := h; exact .dK ha
noncomputable def zr7 : T → Bool | .int _ => true | .bl _ => true | _ => false
noncomputable def iBl : T → Bool | .bl _ => true | _ => false
noncomputable def zr2 : T → Bool | .tup _ => true | _ => false
noncomputable def zr3 : T → Bool | .str _ => true | _ => false
theorem zm6 (K : PySem.W.Frag) (t : T) : PySem.W.kitOne K (.type (tyn t)) (.type "int") = some (zr7 t) := by cases t <;> kernel_rfl
theorem zkn (K : PySem.W.Frag) (t : T) : PySem.W.kitOne K (.type (tyn t)) (.type "bool") = some (iBl t) := by cases t <;> kernel_rfl
theorem Kv (K : PySem.W.Frag) (t : T) : PySem.W.kitOne K (.type (tyn t)) (.type "tuple") = some (zr2 t) := by cases t <;> kernel_rfl
theorem Qj (K : PySem.W.Frag) (t : T) : PySem.W.kitOne K (.type (tyn t)) (.type "str") = some (zr3 t) := by cases t <;> kernel_rfl
section
variable {d : Addr} {u u' : HO}
end
section
end
theorem zos {k : Key} {u : Value} (h : (yj P w).is k u = true) : yq (kV k) u := by
 rcases xn h with ⟨i, t, rfl, rfl⟩ | ⟨x, t, rfl, rfl⟩
 · exact ⟨t, rfl⟩
 · exact ⟨t, rfl⟩
theorem KV.get : ∀ {kvs : List (Key × V)} {vs : List (Key × Value)} {i : Nat} {kv : Key × V}, KV kvs vs → kvs[i]? = some kv → ∃ u, vs[i]? = some (kv.1, u) ∧ yq kv.2 u := by
 intro kvs vs i kv r;unfold KV at r;induction r generalizing i with
 | nil => intro e; simp at e
 | @cons p q ps qs h t ih =>
   intro e;cases i with
   | zero =>
     simp at e;subst e;exact ⟨q.2, by simp [h.1], h.2⟩
   | succ i => simpa using ih (i := i) (by simpa using e)
section
end
section
variable {d : Addr} {k : Nat} {Q : VK}
end
theorem zfm : ∀ {xs : List V} {us : List Value}, xs.length = us.length → (∀ (j : Nat) x u, xs[j]? = some x → us[j]? = some u → yq x u) → yn xs us
 | [], [], _, _ => .nil
 | x :: xs, u :: us, hl, h => .cons (h 0 x u rfl rfl) (zfm (by simpa using hl) fun j y v e1 e2 => h (j + 1) y v (by simpa using e1) (by simpa using e2))
 | [], _ :: _, hl, _ => by simp at hl
 | _ :: _, [], hl, _ => by simp at hl
section
end
noncomputable def off (S : Addr → Prop) (H : Hp) : Hp := fun b => @ite _ (S b) (Classical.propDecidable _) none (H b)
theorem jw {S : Addr → Prop} {b : Addr} {o : HO} : off S H b = some o ↔ ¬ S b ∧ H b = some o := by
 unfold off;split
 · rename_i h; exact ⟨(fun z => by cases z), fun z => absurd h z.1⟩
 · rename_i h; exact ⟨fun z => ⟨h, z⟩, fun z => z.2⟩
theorem Zl {S : Addr → Prop} (s : Same H H') : Same (off S H) (off S H') := fun b o e => by
 rw [jw] at e ⊢;exact ⟨e.1, s _ _ e.2⟩
theorem zew {S : Addr → Prop} : Same (off S H) H := fun b o e => (jw.mp e).2
noncomputable def Sd (S : Addr → Prop) (H : Hp) : Prop := ∀ b, S b → H b ≠ none
theorem Sd.same {S : Addr → Prop} (d : Sd S H) (s : Same H H') : Sd S H' := fun b hb z => by
 cases e : H b with
 | none => exact d b hb e
 | some o => rw [s _ _ e] at z; cases z
theorem zf2 {S : Addr → Prop} {o : HO} (d : Sd S H) (h : H p = none) : off S (upd H p o) p = some o := jw.mpr ⟨fun z => d p z h, zf⟩
theorem zj8 (H : Hp) : off (fun _ => False) H = H := by
 funext b;unfold off;exact if_neg (fun h => h)
theorem Is.off {S : Addr → Prop} {H : Hp} {t : T} {v : V} (h : Is (off S H) t v) : Is H t v := h.mono zew
theorem Is.off0 {t : T} (h : Is H t v) : Is (L2.off (fun _ => False) H) t v := by rw [zj8]; exact h
theorem Is.nt {S : Addr → Prop} {ts : List T} (d : Sd S H) (hp : H p = none) (h : IsL (L2.off S H) ts xs) : Is (L2.off S (upd H p (.tup xs))) (.tup ts) (.ref p) :=
 ⟨p, xs, rfl, zf2 d hp, IsL.mono (Zl (Same.new hp _)) h⟩
theorem Is.nl {S : Addr → Prop} {ts : List T} (d : Sd S H) (hp : H p = none) (h : IsL (L2.off S H) ts xs) : Is (L2.off S (upd H p (.lst xs))) (.lst ts) (.ref p) :=
 ⟨p, xs, rfl, zf2 d hp, IsL.mono (Zl (Same.new hp _)) h⟩
end
end L2
namespace HT
open PySem PyProof.Rows
open PySem.SeqAt
open PySem.AutoSeq1 (wpAny_loadPart')
open PySem.MeetsSeq PySem.MeetsSeq2 PySem.MeetsSeq3
variable {t : Addr} {A : Around} {items : Array Value} {ws : List Value} {s : Shared} {E Q : Value → Shared → Prop}
section
variable {prog : Program} {w : World}
theorem cat_tup0 {b : Addr} (ht : IsTup s.heap t ([] : List Value).toArray) (hb : IsTup s.heap b ws.toArray) (h : Q (.ref b) s) : wpAny (model prog w) A (binaryOp .Add (.ref t) (.ref b)) Q E s := by
 obtain ⟨⟨cls, dd, data, sl⟩, ho, hc, n, hd⟩ := id ht;obtain ⟨⟨cls2, dd2, data2, sl2⟩, ho2, hc2, n2, hd2⟩ := id hb;simp only at hc hd hc2 hd2;subst hc hd hc2 hd2;exact concat_meets ⟨_, ho, rfl⟩ ⟨_, ho2, rfl⟩ noFill_tuple_add seq_tuple_add PySem.F.slot_tuple_add PySem.F.entry_tuple_add (PySem.F.args_tuple_add_2 _ _)
  (tuple_addW0 t b ([] : List Value).toArray ws.toArray n n2 dd dd2 sl sl2 rfl) ⟨ho, ho2, h⟩
theorem getItem_tuple_all {sl : Addr} {vl vu : Value} {lo hi : Option Int} (ht : IsTup s.heap t items) (hs : s.heap.IsSliceOf sl vl vu .none) (pl : IsPart vl lo) (pu : IsPart vu hi)
  (hw : sIx items.size 0 lo = 0 ∧ sIx items.size items.size hi = items.size) (h : Q (.ref t) s) : wpAny (model prog w) A (getItem (.ref t) (.ref sl)) Q E s := by
 obtain ⟨os, hos, hcs, hds⟩ := id hs;have hTs : s.TypeIs (.ref sl) "slice" := ⟨os, hos, hcs⟩
 unfold getItem
 try with_reducible refine wpAny_holding ?_
 first | refine aa (aj ?_) | skip
 refine aa (wpAny_sequenceKey ht.typeIs (by decide) ?_);refine aa (wpAny_callSpecial?_slot (name := Str.ofString "__getitem__") ht.typeIs PyProof.Rows.slot_tuple_getitem
  (cy PyProof.Rows.slot_tuple_getitem ht.typeIs entry_tuple_getitem ?_ (args_tuple_getitem _ _)))
 show wpAny _ _ (Builtin.Tuple.tupleItemsOf (.ref t) >>= _) _ _ s;refine aa (tupleItemsOf_ ht ?_);refine aa (wpAny_typeOf hTs ?_);rw [if_pos (by decide)];refine aa (Zk hs pl pu ?_);have hyes : (((sIx items.size 0 lo : Nat) : Int) == 0 && (1 : Int) == 1 && (sIx items.size items.size hi - sIx items.size 0 lo) == items.size) = true := by
  rw [hw.1, hw.2]; simp
 show wpAny _ _ (if (((sIx items.size 0 lo : Nat) : Int) == 0 && (1 : Int) == 1 && (sIx items.size items.size hi - sIx items.size 0 lo) == items.size) = true then _ else _) _ _ s;rw [if_pos hyes];refine aa ?_;unfold Builtin.Tuple.tupleIsExact;refine aa (wpAny_typeOf ht.typeIs (aj ?_));rw [if_pos (by decide)];exact aa (wpAny_rule (aj ⟨_, rfl, aj h⟩))
end
end HT
namespace L2
open PySem PySem.Spec PyProof.Rows
variable {C D L N' a f : Addr} {A : Around} {vs : Array Value} {ab ab' hdct hdct' : Bool} {CX : CXT} {X : Cx} {env : Env} {e : Expr} {fd : FuncData} {base h h' : Heap} {H H₀ : Hp} {pins : List (Addr × Obj)} {outer : List Env} {es : List Expr} {body : List Stmt} {N ps sn sn' : List Str} {args bm bm' bs' sub sub' : List Value} {oe : Obj} {dd dd' : Option Addr} {pos : Pos} {P : Program} {K : PySem.W.Frag} {sc scope : Scope} {s s₀ : Shared} {σ : St} {qual x : Str} {mg : Str → Option Value} {newId newId' : String} {t : TA} {Q : Unit → Shared → Prop} {cd : Value} {E Ex Z : Value → Shared → Prop} {w : World}
section
variable {S : Addr → Prop}
noncomputable def zjl (S : Addr → Prop) : R2 := fun x y H Q => ∃ ts us, Is (off S H) (.tup ts) x ∧ Is (off S H) (.tup us) y ∧ Sd S H ∧ ts.length + us.length ≤ sizeLine ∧ ∀ v H', Same H H' → Is (off S H') (.tup (ts ++ us)) v → Q v H'
theorem zj2 : OpR X (binaryOp .Add) (zjl S) := by
 intro pins s σ H x y v u Q I rx ry h;obtain ⟨ts, us, ⟨a, xs, rfl, ha, hl⟩, ⟨b, ys, rfl, hb, hm⟩, d, hz, q⟩ := h;have ha' := (jw.mp ha).2;have hb' := (jw.mp hb).2;have e1 := hl.length;have e2 := hm.length;by_cases hx : xs = []
 · subst hx;have ht : ts = [] := dm.mp (by simpa using e1.symm);subst ht;cases rx;cases ry;obtain ⟨its, r1, p1, _⟩ := I.tuple (SqT.of ha');obtain ⟨its2, r2, p2, _⟩ := I.tuple (SqT.of hb');cases r1;exact HT.cat_tup0 p1 p2 ⟨.ref b, H, I, rfl, q _ H (Same.refl H) ⟨b, ys, rfl, hb, hm⟩⟩
 · refine Qf pins s σ H (.ref a) (.ref b) v u Q I rx ry ⟨a, b, xs, ys, rfl, rfl, SqT.of ha', SqT.of hb', hx, by omega, fun hy => ?_, fun hy p hp => q _ _ (Same.new hp _) (Is.nt d hp (IsL.append hl hm))⟩;have hu : us = [] := dm.mp (by rw [← e2, hy]; rfl);subst hu;refine q _ H (Same.refl H) ?_;rw [List.append_nil];exact ⟨a, xs, rfl, ha, hl⟩
noncomputable def zjm (S : Addr → Prop) : R2 := fun x y H Q => ∃ ts us, Is (off S H) (.lst ts) x ∧ Is (off S H) (.lst us) y ∧ Sd S H ∧ ts.length + us.length ≤ sizeLine ∧ ∀ v H', Same H H' → Is (off S H') (.lst (ts ++ us)) v → Q v H'
theorem zj3 : OpR X (binaryOp .Add) (zjm S) := by
 intro pins s σ H x y v u Q I rx ry h;obtain ⟨ts, us, ⟨a, xs, rfl, ha, hl⟩, ⟨b, ys, rfl, hb, hm⟩, d, hz, q⟩ := h;have e1 := hl.length;have e2 := hm.length;exact qd pins s σ H (.ref a) (.ref b) v u Q I rx ry ⟨a, b, xs, ys, rfl, rfl, (jw.mp ha).2, (jw.mp hb).2, by omega, fun p hp => q _ _ (Same.new hp _) (Is.nl d hp (IsL.append hl hm))⟩
noncomputable def zbr {α : Type} (xs : List α) (lo hi : Option Int) : List α := (xs.drop (HT.sIx xs.length 0 lo)).take (HT.sIx xs.length xs.length hi - HT.sIx xs.length 0 lo)
theorem zpx {ts : List T} {xs : List V} (h : IsL H ts xs) (lo hi : Option Int) : IsL H (zbr ts lo hi) (Z7 xs lo hi) := by
 unfold zbr Z7;rw [h.length];exact IsL.take _ (IsL.drop _ h)
noncomputable def zrd (S : Addr → Prop) : V → Option Int → Option Int → Hp → VK → Prop := fun x lo hi H Q => ∃ ts, Is (off S H) (.tup ts) x ∧ Sd S H ∧ ∀ v H', Same H H' → Is (off S H') (.tup (zbr ts lo hi)) v → Q v H'
theorem zq8 : SlR X (zrd S) := by
 intro pins s σ H x v vl vu lo hi sl Q I rx hs pl pu h;obtain ⟨ts, ⟨a, xs, rfl, ha, hl⟩, d, q⟩ := h;have ha' := (jw.mp ha).2;have e1 := hl.length;by_cases hw : HT.sIx xs.length 0 lo = 0 ∧ HT.sIx xs.length xs.length hi = xs.length
 · cases rx;obtain ⟨its, r, ht, hz⟩ := I.tuple (SqT.of ha');have hlen : its.toArray.size = xs.length := by rw [bq]; exact r.length.symm
   refine ⟨"tuple", _, PyProof.Rows.slot_tuple_getitem.lookup, ht.typeIs, ?_⟩;refine HT.getItem_tuple_all ht hs pl pu (by rw [hlen]; exact hw) ⟨.ref a, H, I, rfl, q _ H (Same.refl H) ?_⟩;have e : zbr ts lo hi = ts := by
    unfold zbr;rw [← e1, hw.1, hw.2, e1, List.drop_zero, Nat.sub_zero, ci]
   rw [e];exact ⟨a, xs, rfl, ha, hl⟩
 · exact zed pins s σ H (.ref a) v vl vu lo hi sl Q I rx hs pl pu ⟨a, xs, rfl, SqT.of ha', hw, fun p hp => q _ _ (Same.new hp _) (Is.nt d hp (zpx hl lo hi))⟩
end
inductive Tm where
 | var (i : Nat) | con (t : T) | add (a b : Tm) | sub (a b : Tm) | tup (ts : List Tm) | lst (ts : List Tm) | frm (a b : Tm) | ix (a b : Tm)
noncomputable def Vr : Option T → Option T → Option T
 | some (.int i), some (.int j) => some (.int (i + j))
 | some (.tup ts), some (.tup us) => if ts.length + us.length ≤ 1000 then some (.tup (ts ++ us)) else none
 | some (.lst ts), some (.lst us) => if ts.length + us.length ≤ 1000 then some (.lst (ts ++ us)) else none
 | _, _ => none
noncomputable def zpv : Option T → Option T → Option T
 | some (.int i), some (.int j) => some (.int (i - j))
 | _, _ => none
noncomputable def zpw : Option T → Option T → Option T
 | some (.tup ts), some (.int i) => some (.tup (zbr ts (some i) none))
 | _, _ => none
noncomputable def dIx : Option T → Option T → Option T
 | some (.tup ts), some (.int i) => if 0 ≤ i then ts[i.toNat]? else none
 | _, _ => none
noncomputable def zbq : Option (List T) → Option T
 | some ts => if ts.length ≤ 1000 then some (.tup ts) else none
 | none => none
noncomputable def zia : Option (List T) → Option T
 | some ts => if ts.length ≤ 1000 then some (.lst ts) else none
 | none => none
noncomputable def xy : Option T → Option (List T) → Option (List T)
 | some t, some ts => some (t :: ts)
 | _, _ => none
abbrev Kd := List (Nat × T)
mutual
noncomputable def Tm.den (l : Kd) : Tm → Option T
 | .var i => l.lookup i
 | .con t => some t
 | .add a b => Vr (a.den l) (b.den l)
 | .sub a b => zpv (a.den l) (b.den l)
 | .tup ts => zbq (Tm.denL l ts)
 | .lst ts => zia (Tm.denL l ts)
 | .frm a b => zpw (a.den l) (b.den l)
 | .ix a b => dIx (a.den l) (b.den l)
noncomputable def Tm.denL (l : Kd) : List Tm → Option (List T)
 | [] => some []
 | t :: r => xy (t.den l) (Tm.denL l r)
end
noncomputable def zaj (S : Addr → Prop) (l : Kd) (σ : St) (H : Hp) : Prop := Sd S H ∧ ∀ p ∈ l, ∃ v, σ[p.1]? = some (some v) ∧ Is (off S H) p.2 v
theorem zaj.same {S : Addr → Prop} {l : Kd} {σ : St} {H H' : Hp} (e : zaj S l σ H) (s : Same H H') : zaj S l σ H' := ⟨e.1.same s, fun p hp => by
 obtain ⟨v, h1, h2⟩ := e.2 p hp;exact ⟨v, h1, h2.mono (Zl s)⟩⟩
noncomputable def tTm (S : Addr → Prop) (tm : Tm) : TE := fun σ H Q => ∃ l t, zaj S l σ H ∧ tm.den l = some t ∧ ∀ v H', Same H H' → Is (off S H') t v → Q v H'
noncomputable def ztb (S : Addr → Prop) (tms : List Tm) : TA := fun σ H Q => ∃ l ts, zaj S l σ H ∧ Tm.denL l tms = some ts ∧ ∀ vs H', Same H H' → IsL (off S H') ts vs → Q vs H'
noncomputable def zl2 (sc : Scope) (x : Str) : Bool := match sc.names.lookup x with
 | some .local => true
 | some .cell => true
 | some .free => true
 | _ => false
noncomputable def zdx (g : Expr → Option Tm) : List Expr → Option (List Tm)
 | [] => some []
 | e :: r => match g e, zdx g r with
   | some t, some ts => some (t :: ts)
   | _, _ => none
noncomputable def zlr (f : Tm → Tm → Tm) : Option Tm → Option Tm → Option Tm
 | some a, some b => some (f a b)
 | _, _ => none
noncomputable def plc (x : Str) : Nat → List Str → Option Nat
 | _, [] => none
 | i, y :: r => if y = x then some i else plc x (i + 1) r
theorem zax {x : Str} : ∀ {r pre : List Str} {i j : Nat}, i = pre.length → plc x i r = some j → (pre ++ r)[j]? = some x
 | [], pre, i, j, hi, h => by cases h
 | y :: r, pre, i, j, hi, h => by
   unfold plc at h;split at h
   · rename_i hy
     cases h;subst hi hy;simp
   · have := zax (r := r) (pre := pre ++ [y]) (i := i + 1) (by simp [hi]) h;simpa using this
noncomputable def bld (aL : Str → Bool) (N : List Str) (sc : Scope) : Nat → Expr → Option Tm
 | 0, _ => none
 | f + 1, e => match e with
   | .Constant (.int i) _ _ => some (.con (.int i))
   | .Constant (.bool b) _ _ => some (.con (.bl b))
   | .Constant (.str x) _ _ => some (.con (.str x))
   | .Constant .none _ _ => some (.con .non)
   | .Name x _ => if zl2 sc x && !(x == ("__debug__" : Str)) && !(x == ("__classdict__" : Str)) then (plc x 0 N).map Tm.var else none
   | .Tuple es _ _ => (zdx (bld aL N sc f) es).map Tm.tup
   | .List es _ => (zdx (bld aL N sc f) es).map Tm.lst
   | .BinOp (.Constant (.int i) _ _) .Pow (.Constant (.int j) _ _) _ => if 0 ≤ j ∧ j ≤ 1000 ∧ i.natAbs < 2 ^ 64 then some (.con (.int (i ^ j.toNat))) else none
   | .BinOp a .Add b _ => zlr Tm.add (bld aL N sc f a) (bld aL N sc f b)
   | .BinOp a .Sub b _ => zlr Tm.sub (bld aL N sc f a) (bld aL N sc f b)
   | .Subscript a (.Slice (some b) none none _) _ => zlr Tm.frm (bld aL N sc f a) (bld aL N sc f b)
   | .Subscript a b _ => zlr Tm.ix (bld aL N sc f a) (bld aL N sc f b)
   | _ => none
section
variable {S : Addr → Prop} {aL : Str → Bool}
theorem PE.weak {t t' : TE} (h : PE X e t) (w : ∀ σ H Q, t' σ H Q → t σ H Q) : PE X e t' := fun pins s σ H Q I q => h pins s σ H Q I (w σ H Q q)
theorem PA.weak {t' : TA} (h : PA X es t) (w : ∀ σ H Q, t' σ H Q → t σ H Q) : PA X es t' := fun pos pins s σ H Q I q => h pos pins s σ H Q I (w σ H Q q)
theorem W1 {f : Tm → Tm → Tm} {o1 o2 : Option Tm} {tm : Tm} (h : zlr f o1 o2 = some tm) : ∃ a b, o1 = some a ∧ o2 = some b ∧ tm = f a b := by
 cases o1 with
 | none => cases h
 | some a =>
   cases o2 with
   | none => cases h
   | some b => cases h; exact ⟨a, b, rfl, rfl, rfl⟩
theorem zin (h : zl2 sc x = true) : Vis sc x := by
 unfold zl2 at h;unfold Vis;cases e : sc.names.lookup x with
 | none => rw [e] at h; cases h
 | some k =>
   rw [e] at h;cases k <;> first | exact Or.inl rfl | exact Or.inr (Or.inl rfl) | exact Or.inr (Or.inr rfl) | cases h
theorem zlq {f : Nat} {tm : Tm} (h : bld aL N sc f e = some tm) : starEach (e :: es) env = (false, eval e env) :: starEach es env := by
 cases f with
 | zero => cases h
 | succ f => cases e <;> first | rfl | (exact absurd h (by simp [bld]))
theorem zpz {f : Nat} {tm : Tm} (h : bld aL N sc f e = some tm) : zgu e := by
 cases f with
 | zero => cases h
 | succ f => cases e <;> first | (intro _ _; rfl) | (exact absurd h (by simp [bld]))
theorem Jc {i : Nat} {t : T} : ∀ {l : Kd}, l.lookup i = some t → (i, t) ∈ l
 | [], h => by cases h
 | (j, u) :: r, h => by
   rw [List.lookup_cons] at h;split at h
   · rename_i hb
     cases h;have : i = j := by simpa using hb
     subst this;exact ao
   · exact aq _ (Jc h)
theorem Qr {Q : VK} {t : T} {v : V} (h : tTm S (.con t) σ H Q) (hv : ∀ H, Is H t v) : Q v H := by
 obtain ⟨l, t', e, hd, q⟩ := h;cases hd;exact q v H (Same.refl H) (hv _)
theorem zd9 {a b : Tm} {l : Kd} {ta tb : T} {R : V → V → Hp → Prop} (e : zaj S l σ H) (ha : a.den l = some ta) (hb : b.den l = some tb)
  (q : ∀ x y H2, Same H H2 → Is (off S H2) ta x → Is (off S H2) tb y → R x y H2) : tTm S a σ H fun x H1 => tTm S b σ H1 fun y H2 => R x y H2 :=
 ⟨l, ta, e, ha, fun x H1 s1 h1 => ⟨l, tb, e.same s1, hb, fun y H2 s2 h2 => q x y H2 (s1.trans s2) (h1.mono (Zl s2)) h2⟩⟩
noncomputable def zrl (S : Addr → Prop) : R2 := fun x y H Q => rI0 (fun i j => .int (i + j)) x y H Q ∨ zjl S x y H Q ∨ zjm S x y H Q
theorem zmq : OpR X (binaryOp .Add) (zrl S) := vo.or (zj2.or zj3)
theorem zw {n : Nat} (h : n ≤ 1000) : n ≤ sizeLine := bp h (by decide)
noncomputable def zrg (S : Addr → Prop) : R2 := fun x y H Q => ∃ ts i t, Is (off S H) (.tup ts) x ∧ y = .int i ∧ 0 ≤ i ∧ ts[i.toNat]? = some t ∧ ∀ v, Is (off S H) t v → Q v H
theorem zr0 : IxR X (zrg S) := by
 intro value slice pins s σ H x y v u Q I rx ry h hs;obtain ⟨ts, i, t, ⟨a, xs, rfl, ha, hl⟩, rfl, h0, ht, q⟩ := h;obtain ⟨w, hw, hiw⟩ := hl.get ht;have e : i = ((i.toNat : Nat) : Int) := by omega
 exact zt value slice pins s σ H (.ref a) (.int i) v u Q I rx ry ⟨a, xs, i, w, rfl, rfl, SqT.of (jw.mp ha).2, by rw [e]; exact we hw, q w hiw⟩ hs
theorem pe_tm' (hL : ∀ x, aL x = true → X.mg x = none ∧ Gl X x ∧ X.calm = true) : ∀ (f : Nat) (e : Expr) (tm : Tm), bld aL X.N X.env.scope f e = some tm → PE X e (tTm S tm) := by
 intro f;induction f with
 | zero => intro e tm h; cases h
 | succ f ih =>
   have ihL : ∀ (es : List Expr) (tms : List Tm), zdx (bld aL X.N X.env.scope f) es = some tms → PA X es (ztb S tms) := by
    intro es;induction es with
    | nil =>
      intro tms h;cases h;exact zd.weak fun σ H Q ⟨l, ts, e, hd, q⟩ => by cases hd; exact q [] H (Same.refl H) rfl
    | cons e es ihe =>
      intro tms h;unfold zdx at h;cases h1 : bld aL X.N X.env.scope f e with
      | none => rw [h1] at h; cases h
      | some t1 =>
        cases h2 : zdx (bld aL X.N X.env.scope f) es with
        | none => rw [h1, h2] at h; cases h
        | some t2 =>
          rw [h1, h2] at h;cases h;refine (zc (ih e t1 h1) (ihe t2 h2) (zlq h1)).weak fun σ H Q ⟨l, ts, e, hd, q⟩ => ?_;have hd : xy (t1.den l) (Tm.denL l t2) = some ts := hd;cases d1 : t1.den l with
          | none => rw [d1] at hd; cases hd
          | some u1 =>
            cases d2 : Tm.denL l t2 with
            | none => rw [d1, d2] at hd; cases hd
            | some u2 =>
              rw [d1, d2] at hd;cases hd;exact ⟨l, u1, e, d1, fun x H1 s1 i1 => ⟨l, u2, e.same s1, d2, fun xs H2 s2 i2 => q _ H2 (s1.trans s2) ⟨x, xs, rfl, i1.mono (Zl s2), i2⟩⟩⟩
   intro e tm h;unfold bld at h;split at h
   · cases h; exact zg.weak fun σ H Q q => Qr q fun _ => rfl
   · cases h; exact xx.weak fun σ H Q q => Qr q fun _ => rfl
   · cases h; exact zl.weak fun σ H Q q => Qr q fun _ => rfl
   · cases h; exact jr.weak fun σ H Q q => Qr q fun _ => rfl
   · rename_i x pos
     split at h
     · rename_i hv
       simp only [bu, Bool.not_eq_true'] at hv;cases hp : plc x 0 X.N with
       | none => rw [hp] at h; cases h
       | some i =>
         rw [hp] at h;cases h;have hN : X.N[i]? = some x := by simpa using zax (pre := []) rfl hp
         refine (zay hN (zin hv.1.1) hv.1.2 hv.2).weak fun σ H Q ⟨l, t, e, hd, q⟩ => ?_;obtain ⟨v, h1, h2⟩ := e.2 _ (Jc hd);exact ⟨v, h1, q v H (Same.refl H) h2⟩
     · cases h
   · rename_i es _ _
     cases h1 : zdx (bld aL X.N X.env.scope f) es with
     | none => rw [h1] at h; cases h
     | some ts =>
       rw [h1] at h;cases h;refine (xu (ihL es ts h1)).weak fun σ H Q ⟨l, t, e, hd, q⟩ => ?_;have hd : zbq (Tm.denL l ts) = some t := hd;cases d1 : Tm.denL l ts with
       | none => rw [d1] at hd; cases hd
       | some us =>
         rw [d1] at hd;unfold zbq at hd;split at hd
         · rename_i e1
           cases e1;split at hd
           · rename_i hz
             cases hd;exact ⟨l, us, e, d1, fun xs H1 s1 i1 => ⟨by rw [i1.length]; exact zw hz, fun p hp => q _ _ (s1.trans (Same.new hp _)) (Is.nt (e.1.same s1) hp i1)⟩⟩
           · cases hd
         · cases hd
   · rename_i es _
     cases h1 : zdx (bld aL X.N X.env.scope f) es with
     | none => rw [h1] at h; cases h
     | some ts =>
       rw [h1] at h;cases h;refine (yr (ihL es ts h1)).weak fun σ H Q ⟨l, t, e, hd, q⟩ => ?_;have hd : zia (Tm.denL l ts) = some t := hd;cases d1 : Tm.denL l ts with
       | none => rw [d1] at hd; cases hd
       | some us =>
         rw [d1] at hd;unfold zia at hd;split at hd
         · rename_i e1
           cases e1;split at hd
           · rename_i hz
             cases hd;exact ⟨l, us, e, d1, fun xs H1 s1 i1 => ⟨by rw [i1.length]; exact zw hz, fun p hp => q _ _ (s1.trans (Same.new hp _)) (Is.nl (e.1.same s1) hp i1)⟩⟩
           · cases hd
         · cases hd
   · split at h
     · rename_i hc
       cases h;exact (yc zjz zg zg).weak fun σ H Q q => ⟨_, _, rfl, rfl, ⟨hc.1, by have := hc.2.1; omega, hc.2.2⟩, Qr q fun _ => rfl⟩
     · cases h
   · obtain ⟨a, b, h1, h2, rfl⟩ := W1 h;refine (yc (zmq (S := S)) (ih _ a h1) (ih _ b h2)).weak fun σ H Q ⟨l, t, e, hd, q⟩ => ?_;have hd : Vr (a.den l) (b.den l) = some t := hd;cases d1 : a.den l with
     | none => rw [d1] at hd; cases hd
     | some ta =>
       cases d2 : b.den l with
       | none => rw [d1, d2] at hd; cases ta <;> cases hd
       | some tb =>
         rw [d1, d2] at hd;refine zd9 e d1 d2 fun x y H2 s2 ix iy => ?_;unfold Vr at hd;split at hd
         · rename_i i j e1 e2
           cases e1; cases e2; cases hd;exact .inl ⟨i, j, ix, iy, q _ H2 s2 rfl⟩
         · rename_i us ws e1 e2
           cases e1; cases e2;split at hd
           · rename_i hz
             cases hd;exact .inr (.inl ⟨us, ws, ix, iy, e.1.same s2, zw hz, fun v H3 s3 i3 => q v H3 (s2.trans s3) i3⟩)
           · cases hd
         · rename_i us ws e1 e2
           cases e1; cases e2;split at hd
           · rename_i hz
             cases hd;exact .inr (.inr ⟨us, ws, ix, iy, e.1.same s2, zw hz, fun v H3 s3 i3 => q v H3 (s2.trans s3) i3⟩)
           · cases hd
         · cases hd
   · obtain ⟨a, b, h1, h2, rfl⟩ := W1 h;refine (yc Vh (ih _ a h1) (ih _ b h2)).weak fun σ H Q ⟨l, t, e, hd, q⟩ => ?_;have hd : zpv (a.den l) (b.den l) = some t := hd;cases d1 : a.den l with
     | none => rw [d1] at hd; cases hd
     | some ta =>
       cases d2 : b.den l with
       | none => rw [d1, d2] at hd; cases ta <;> cases hd
       | some tb =>
         rw [d1, d2] at hd;refine zd9 e d1 d2 fun x y H2 s2 ix iy => ?_;unfold zpv at hd;split at hd
         · rename_i i j e1 e2
           cases e1; cases e2; cases hd;exact ⟨i, j, ix, iy, q _ H2 s2 rfl⟩
         · cases hd
   · obtain ⟨a, b, h1, h2, rfl⟩ := W1 h;refine (wg (zq8 (S := S)) (ih _ a h1) (w5 (ih _ b h2)) w6).weak fun σ H Q ⟨l, t, e, hd, q⟩ => ?_;have hd : zpw (a.den l) (b.den l) = some t := hd;cases d1 : a.den l with
     | none => rw [d1] at hd; cases hd
     | some ta =>
       cases d2 : b.den l with
       | none => rw [d1, d2] at hd; cases ta <;> cases hd
       | some tb =>
         rw [d1, d2] at hd;unfold zpw at hd;split at hd
         · rename_i us k e1 e2
           cases e1; cases e2; cases hd;refine ⟨l, _, e, d1, fun x H1 s1 ix => ?_⟩;refine ⟨l, _, e.same s1, d2, fun y H2 s2 iy => ⟨k, iy, us, ix.mono (Zl s2), (e.1.same s1).same s2, fun v H3 s3 i3 => q v H3 (s1.trans (s2.trans s3)) i3⟩⟩
         · cases hd
   · obtain ⟨a, b, h1, h2, rfl⟩ := W1 h;refine (zp (zr0 (S := S)) (ih _ a h1) (ih _ b h2) (zpz h2)).weak fun σ H Q ⟨l, t, e, hd, q⟩ => ?_;have hd : dIx (a.den l) (b.den l) = some t := hd;cases d1 : a.den l with
     | none => rw [d1] at hd; cases hd
     | some ta =>
       cases d2 : b.den l with
       | none => rw [d1, d2] at hd; cases ta <;> cases hd
       | some tb =>
         rw [d1, d2] at hd;refine zd9 e d1 d2 fun x y H2 s2 ix iy => ?_;unfold dIx at hd;split at hd
         · rename_i us k e1 e2
           cases e1; cases e2;split at hd
           · rename_i h0
             exact ⟨us, k, t, ix, iy, h0, hd, fun v iv => q v H2 s2 iv⟩
           · cases hd
         · cases hd
   · cases h
noncomputable def noB : Str → Bool := fun _ => false
noncomputable def ziw (tm : Tm) : TE := fun σ H Q => ∃ S, tTm S tm σ H Q
theorem Yc (tm : Tm) (hb : bld noB X.N X.env.scope 12 e = some tm := by kernel_rfl) : PE X e (ziw tm) := fun pins s σ H Q I ⟨S, h⟩ => pe_tm' (S := S) (aL := noB) (fun _ z => by cases z) 12 e tm hb pins s σ H Q I h
end
theorem yw.at {o : HO} (x : yw P w H h a o) : ∃ ob, h.get? a = some ob := by
 cases o with
 | lst xs => obtain ⟨_, _, _, _, e⟩ := x; exact ⟨_, e⟩
 | tup xs => obtain ⟨_, _, _, ⟨ob, e, _⟩, _⟩ := x; exact ⟨_, e⟩
 | dK kvs => obtain ⟨_, _, _, _, o, _, _, e, _⟩ := x; exact ⟨_, e⟩
 | dT kvs => obtain ⟨_, _, _, _, o, _, _, e, _⟩ := x; exact ⟨_, e⟩
 | set S n => obtain ⟨o, _, _, _, e, _⟩ := x; exact ⟨_, e⟩
 | ins C dx fs => obtain ⟨_, _, _, e, _⟩ := x; exact ⟨_, e⟩
 | own y => exact x
 | xd fs => obtain ⟨_, ⟨_, _, _, e, _⟩, _⟩ := x; exact ⟨_, e⟩
 | rng lo hi => obtain ⟨_, _, _, e⟩ := x; exact ⟨_, e⟩
 | frz ob u => obtain ⟨e, _⟩ := x; exact ⟨_, e⟩
 | tbl ps => exact ⟨_, (show h.get? a = some _ from x)⟩
 | met f y => exact ⟨_, (show h.get? a = some _ from x)⟩
 | ext φ => obtain ⟨_, ⟨o, e⟩, _⟩ := x; exact ⟨o, e⟩
noncomputable def zbu (h : Heap) (a : Addr) (C : Value) (T : Addr) : Prop :=
 ∃ oe vs oT ts a0, h.get? a = some oe ∧ (oe.cls = C ∧ vs[0]? = some a0) ∧ oe.data = .fields vs ∧ vs[1]? = some (.ref T) ∧ T ≠ a ∧ h.get? T = some oT ∧ oT.data = .fields ts ∧ ts[3]? = some .none
theorem jq {h base base' : Heap} : ∀ {l : List Env}, h.FunFrames base l → (∀ b ∈ frs l, base'.get? b = none) → h.FunFrames base' l
 | [], _, _ => trivial
 | env :: r, hl, k => by
   obtain ⟨h1, ⟨L, o, h2, h3, h4, h5⟩, h6⟩ := hl;refine ⟨h1, ⟨L, o, h2, k L ?_, h4, h5⟩, jq h6 fun b hb => k b ?_⟩
   · unfold frs;rw [List.filterMap_cons, h2];exact ao
   · unfold frs;rw [List.filterMap_cons, h2];exact aq _ hb
section
variable {M : Model} {e T0 : Addr} {cls a0 : Value}
theorem zc8 (hfr : A.frames = some (env :: outer)) (hl : s.heap.FunFrames base (env :: outer)) (hf : env.frame = some L) (he : s.heap.get? e = some oe) (hd : oe.data = .fields vs) (h1 : vs[1]? = some .none) (h0 : vs[0]? = some a0)
  (h : ∀ h' T, zbu h' e oe.cls T → s.heap.get? T = none → (∀ b o, s.heap.get? b = some o → b ≠ e → b ∉ frs (env :: outer) → h'.get? b = some o) →
   (∀ b ∈ frs (env :: outer), ∀ o, s.heap.get? b = some o → ∃ sl, h'.get? b = some { o with slots := sl }) → Q () { s with heap := h' }) : wpAny M A (leaving env (.ref e)) Q E s := by
 refine wpAny_leaving_firstW (a0 := a0) (base := PySem.W.hideAll s.heap (e :: frs (env :: outer))) hfr (jq hl fun b hb => PySem.W.hideAll_none _ (aq _ hb)) hf he (fun b o q => PySem.W.of_hideAll _ q) (PySem.W.hideAll_none _ ao) hd h1 h0 fun h' hL => ?_;obtain ⟨x1, x2, x3, x4⟩ := hL;obtain ⟨oe', vs', T, oT, ts, a1, a2, a3, a4, a5, a6, a7, a8, a9⟩ := x3;refine h h' T ⟨oe', vs', oT, ts, _, a1, a2, a3, a4, a6, a7, a8, a9⟩ ?_ (fun b o q n1 n2 => x1 b o (PySem.W.hideAll_get _ q fun z => (ag.mp z).elim n1 n2)) (fun b hb o q => x4 b o q ?_)
 · cases q : s.heap.get? T with
   | none => rfl
   | some o =>
     exfalso;by_cases hT : T ∈ e :: frs (env :: outer)
     · rcases ag.mp hT with z | z
       · exact a6 z
       · obtain ⟨_, o2, ho2, hn2⟩ := hl.mem z;obtain ⟨sl, e3⟩ := x4 T o2 ho2 hn2;rw [a7] at e3;cases e3;exact hn2 ts a8
     · have := PySem.W.hideAll_get _ q hT;rw [a5] at this;cases this
 · obtain ⟨_, o2, ho2, hn2⟩ := hl.mem hb;rw [q] at ho2;cases ho2;exact hn2
theorem Je (hfr : A.frames = some (env :: outer)) (hl : s.heap.FunFrames base (env :: outer)) (hf : env.frame = some L) (ht : zbu s.heap e cls T0)
  (h : ∀ h' T, zbu h' e cls T → (s.heap.get? T = none ∨ T = T0) → (∀ b o, s.heap.get? b = some o → b ≠ e → b ≠ T0 → b ∉ frs (env :: outer) → h'.get? b = some o) →
   (∀ b ∈ frs (env :: outer), ∀ o, s.heap.get? b = some o → ∃ sl, h'.get? b = some { o with slots := sl }) → Q () { s with heap := h' }) : wpAny M A (leaving env (.ref e)) Q E s := by
 obtain ⟨oe, vs, oT0, ts0, a0, b1, b2, b3, b4, b5, b6, b7, b8⟩ := ht;refine wpAny_leaving_nextW (a0 := a0) (base := PySem.W.hideAll s.heap (e :: T0 :: frs (env :: outer))) hfr (jq hl fun b hb => PySem.W.hideAll_none _ (aq _ (aq _ hb))) hf
  ⟨oe, vs, T0, oT0, ts0, b1, b2, b3, b4, PySem.W.hideAll_none _ (aq _ ao), b5, b6, b7, b8⟩ (fun b o q => PySem.W.of_hideAll _ q) (PySem.W.hideAll_none _ ao) fun h' hL => ?_
 obtain ⟨x1, x2, x3, x4⟩ := hL;obtain ⟨oe', vs', T, oT, ts, a1, a2, a3, a4, a5, a6, a7, a8, a9⟩ := x3;refine h h' T ⟨oe', vs', oT, ts, _, a1, a2, a3, a4, a6, a7, a8, a9⟩ ?_ (fun b o q n1 n2 n3 => x1 b o (PySem.W.hideAll_get _ q fun z => (ag.mp z).elim n1 fun z => (ag.mp z).elim n2 n3)) (fun b hb o q => x4 b o q ?_)
 · cases q : s.heap.get? T with
   | none => exact .inl rfl
   | some o =>
     by_cases hT : T ∈ e :: T0 :: frs (env :: outer)
     · rcases ag.mp hT with z | z
       · exact absurd z a6
       · rcases ag.mp z with z | z
         · exact .inr z
         · exfalso;obtain ⟨_, o2, ho2, hn2⟩ := hl.mem z;obtain ⟨sl, e3⟩ := x4 T o2 ho2 hn2;rw [a7] at e3;cases e3;exact hn2 ts a8
     · have := PySem.W.hideAll_get _ q hT;rw [a5] at this;cases this
 · obtain ⟨_, o2, ho2, hn2⟩ := hl.mem hb;rw [q] at ho2;cases ho2;exact hn2
end
noncomputable def CXo (P : Program) (w : World) : CXT := fun outer H s E e s' => ∃ a C T H', e = .ref a ∧ zbu s'.heap a (.ref C) T ∧ s.heap.get? a = none ∧ s.heap.get? T = none ∧ H' a = none ∧ H' T = none ∧
 s'.os = s.os ∧ AllBare s'.gens ∧ Un (frs outer) [] H H' s.heap s'.heap ∧ HOk P w H' s'.heap ∧ E (.ref C) none H'
section
variable {E : XK}
theorem Jt {T : Addr} {Z : Addr → Prop} (I : Inv (vn CX P w K mg base N qual scope f cd A outer s₀ H₀ E) pins σ H s) (fl : zbu h' a (.ref C) T) (na : H a = none) (nT : H T = none)
  (oa : s₀.heap.get? a = none) (oT : s₀.heap.get? T = none) (hZ : ∀ b, Z b → H b = none ∧ s₀.heap.get? b = none)
  (k1 : ∀ b o, s.heap.get? b = some o → ¬ Z b → b ∉ frs (envOfC qual scope s₀.heap.objs.size f cd :: outer) → h'.get? b = some o)
  (k2 : ∀ b ∈ frs (envOfC qual scope s₀.heap.objs.size f cd :: outer), ∀ o, s.heap.get? b = some o → ∃ sl, h'.get? b = some { o with slots := sl }) (q : E (.ref C) none H) :
  CXo P w outer H₀ s₀ E (.ref a) { s with heap := h' } := by
 have inS : ∀ {b : Addr}, b ∈ frs (envOfC qual scope s₀.heap.objs.size f cd :: outer) → b = s₀.heap.objs.size ∨ b ∈ frs outer := fun {b} hb => by
  have e : frs (envOfC qual scope s₀.heap.objs.size f cd :: outer) = s₀.heap.objs.size :: frs outer := rfl;rw [e] at hb;exact ag.mp hb
 have ofS : ∀ {b : Addr}, b ∈ frs outer → b ∈ frs (envOfC qual scope s₀.heap.objs.size f cd :: outer) := fun {b} hb => aq _ hb;have u : Un (frs outer) [] H₀ H s₀.heap s.heap := I.base;have old : ∀ {b : Addr} {o : Obj}, s₀.heap.get? b = some o → ¬ Z b ∧ (b ∉ frs outer → b ∉ frs (envOfC qual scope s₀.heap.objs.size f cd :: outer)) := fun {b o} e =>
  ⟨(fun z => by rw [(hZ b z).2] at e; cases e), fun n z => (inS z).elim (fun z => absurd (al e) (by rw [z]; exact cj _)) n⟩
 refine ⟨a, C, T, H, rfl, fl, oa, oT, na, nT, I.os, I.bare, ⟨fun b o e n hb hx => ?_, fun b o e n hb hx => ?_, u.free, fun b o e hx => ?_, u.tups, u.frzs, u.tbls⟩, fun b o e => ?_, q⟩
 · obtain ⟨h1, h3⟩ := old e;exact k1 b o (u.keep b o e n hb hx) h1 (h3 hb)
 · obtain ⟨sl, e1⟩ := u.slot b o e n hb hx;obtain ⟨sl2, e2⟩ := k2 b (ofS hb) _ e1;exact ⟨sl2, e2⟩
 · obtain ⟨o1, e1⟩ := u.there b o e hx;obtain ⟨h1, h3⟩ := old e;by_cases hb : b ∈ frs outer
   · obtain ⟨sl, e2⟩ := k2 b (ofS hb) o1 e1;exact ⟨_, e2⟩
   · exact ⟨o1, k1 b o1 e1 h1 (h3 hb)⟩
 · refine (I.hok b o e).stay (fun c v hc z => ?_) (fun c z => z) fun c xs z => z;have tr : H c ≠ none := by
    rcases hc with rfl | hc
    · rw [e]; intro z; cases z
    · rw [hc]; intro z; cases z
   refine k1 c v z (fun z => tr (hZ c z).1) fun z => tr (I.stkFree c z)
theorem zgn {T T0 : Addr} (I : Inv (vn CX P w K mg base N qual scope f cd A outer s₀ H₀ E) pins σ H s) (fl : zbu h' a (.ref C) T) (na : H a = none) (nT : H T = none) (nT0 : H T0 = none)
  (oa : s₀.heap.get? a = none) (oT : s₀.heap.get? T = none) (oT0 : s₀.heap.get? T0 = none)
  (k1 : ∀ b o, s.heap.get? b = some o → b ≠ a → b ≠ T0 → b ∉ frs (envOfC qual scope s₀.heap.objs.size f cd :: outer) → h'.get? b = some o)
  (k2 : ∀ b ∈ frs (envOfC qual scope s₀.heap.objs.size f cd :: outer), ∀ o, s.heap.get? b = some o → ∃ sl, h'.get? b = some { o with slots := sl }) (q : E (.ref C) none H) :
  CXo P w outer H₀ s₀ E (.ref a) { s with heap := h' } :=
 Jt (Z := fun b => b = a ∨ b = T0) I fl na nT oa oT (fun b hb => by rcases hb with rfl | rfl; exact ⟨na, oa⟩; exact ⟨nT0, oT0⟩) (fun b o e n => k1 b o e (fun z => n (.inl z)) fun z => n (.inr z)) k2 q
theorem zl1 {h2 : Heap} (I : Inv (vn (CXo P w) P w K mg base N qual scope f cd A outer s₀ H₀ E) pins σ H s) (m : Heap.MadeExcOf s.heap h2 a (.ref C) args) (q : E (.ref C) none H) :
  (vn (CXo P w) P w K mg base N qual scope f cd A outer s₀ H₀ E).xe (.ref a) { s with heap := h2 } := by
 have I2 : Inv (vn (CXo P w) P w K mg base N qual scope f cd A outer s₀ H₀ E) pins σ H { s with heap := h2 } := I.kept (t' := s.toks) m.keeps;obtain ⟨t, ea, nt, et⟩ := m.there;have none0 : ∀ {b : Addr}, s.heap.get? b = none → s₀.heap.get? b = none := fun {b} e => by
  cases z : s₀.heap.get? b with
  | none => rfl
  | some o =>
    obtain ⟨o', e'⟩ := (show Un (frs outer) [] H₀ H s₀.heap s.heap from I.base).there b o z (by simp);rw [e] at e'; cases e'
 have noneH : ∀ {b : Addr}, s.heap.get? b = none → H b = none := fun {b} e => by
  cases z : H b with
  | none => rfl
  | some o =>
    exfalso;have hx := I.hok b o z;have hg : ∃ o', s.heap.get? b = some o' := yw.at hx;obtain ⟨o', e'⟩ := hg;rw [e] at e'; cases e'
 show wpAny (model P w) _ (leaving _ (.ref a)) _ _ { s with heap := h2 };refine zc8 (base := base) I2.ok.frames I2.stack rfl ea rfl rfl rfl fun h' T fl hT k1 k2 => ?_;have nT : s.heap.get? T = none := by
  cases z : s.heap.get? T with
  | none => rfl
  | some o =>
    have hT : h2.get? T = none := hT;rw [m.keeps T o z] at hT; cases hT
 exact zgn (T0 := a) I2 fl (noneH m.new) (noneH nT) (noneH m.new) (none0 m.new) (none0 nT) (none0 m.new) (fun b o e n1 _ n2 => k1 b o e n1 n2) k2 q
end
section
variable {E : XK}
theorem wk : X1 (CXo P w) (vn (CXo P w) P w K mg base N qual scope f cd A outer s₀ H₀ E) E := by
 intro pins σ H s e s' I hx;obtain ⟨a, C, T, H', rfl, fl, na, nT, hna, hnT, os, bare, un, hok, q⟩ := hx;obtain ⟨hh, g, d, t, os'⟩ := s';obtain rfl : os' = s.os := os;have I' : Inv (vn (CXo P w) P w K mg base N qual scope f cd A outer s₀ H₀ E) pins σ H' ⟨hh, g, d, t, s.os⟩ := I.call (h' := hh) (g' := g) (d' := d) (t' := t) (ch := []) un hok bare (fun b z => absurd z (by simp));have none0 : ∀ {b : Addr}, s.heap.get? b = none → s₀.heap.get? b = none := fun {b} e => by
  cases z : s₀.heap.get? b with
  | none => rfl
  | some o =>
    obtain ⟨o', e'⟩ := (show Un (frs outer) [] H₀ H s₀.heap s.heap from I.base).there b o z (by simp);rw [e] at e'; cases e'
 show wpAny (model P w) _ (leaving _ (.ref a)) _ _ _;refine Je (base := base) I'.ok.frames I'.stack rfl fl fun h' T' fl' hT' k1 k2 => ?_;have hT0 : H' T' = none ∧ s₀.heap.get? T' = none := by
  rcases hT' with z | z
  · refine ⟨?_, ?_⟩
    · cases y : H' T' with
      | none => rfl
      | some o =>
        exfalso;obtain ⟨o', e'⟩ := yw.at (I'.hok T' o y)
        rw [z] at e'; cases e'
    · cases y : s₀.heap.get? T' with
      | none => rfl
      | some o =>
        exfalso;obtain ⟨o', e'⟩ := (show Un (frs outer) [] H₀ H' s₀.heap hh from I'.base).there T' o y (by simp);rw [z] at e'; cases e'
  · rw [z]; exact ⟨hnT, none0 nT⟩
 exact zgn (T0 := T) I' fl' hna hT0.1 hnT (none0 na) hT0.2 (none0 nT) k1 k2 q
end
structure OwnErr (K : PySem.W.Frag) (mg : Str → Option Value) (base : Heap) (x : Str) (C : Addr) : Prop where
 cls : OwnCls x C [.type "ValueError", .type "Exception", .type "BaseException", .type "object"] "ValueError.__new__" mg base
 keep : PySem.W.keepIn K (.ref C) = true
noncomputable def zoc (E : XK) (C : Addr) : TS := fun _ _ H => E (.ref C) none H
theorem We {E : XK}
  {np cpos p : Pos} {k : Nat} {tx : Str} (O : OwnErr K mg base x C) (hg : Gl (vn (CXo P w) P w K mg base N qual scope f cd A outer s₀ H₀ E) x) (hd : (x == ("__debug__" : Str)) = false := by decide)  :
  PS (vn (CXo P w) P w K mg base N qual scope f cd A outer s₀ H₀ E) (.Raise (some (.Call (.Name x np) [.Constant (.str tx) k p] [] cpos)) none pos) (zoc E C) := by
 intro pins s σ H D I h;obtain ⟨tl, Nn, nm, q, bs, hdct, sn, sub, ab, col, dd, k0, k1, k2, k3, k5, mN, hC, hN, hni, T⟩ := O.cls.obj;refine wpAny_Raise_call_subU (C := C) (nm := nm) (q := q) (N := Nn) (bs := bs) (bm := tl) (hdct := hdct) (sn := sn) (sub := sub) (ab := ab) (col := col) (dd := dd) (k0 := k0) (k1 := k1) (k2 := k2) (k3 := k3) (k5 := k5)
  (newId := "ValueError.__new__") PySem.F.excBase_ValueError (by decide +kernel) PySem.F.excBase_ValueError (mN := mN) (T.hasType PySem.F.excBase_ValueError.hasBase) (I.ok.hd rfl) rfl hni ?_
 refine Qi I hg O.cls.bound ⟨rfl, ?_⟩ hd;refine Calls.evalArgs_plain (thn ((zc zl zd) cpos pins s σ H (fun vs H1 => vs = [.str tx] ∧ H1 = H) I ⟨rfl, rfl⟩) fun us s1 hq => ?_);obtain ⟨vs, H1, I1, r, rfl, rfl⟩ := hq;have hl := r.length;exact ⟨rfl, by rw [← hl]; show 1 ≤ sizeLine; decide, I1.bk _ _ hC, hN.keeps I1.bk, T.keeps I1.bk, fun h' e m => zl1 I1 m h⟩
section
variable {M : Model} {g : Array GenState} {d : Drawn} {t : Nat} {os : OsState} {e : Addr} {Q : Bool → Shared → Prop}
theorem Jn {nm q : Str} {N : Addr} {bs : List Value} {col : Option Bool} {k0 k1 k2 k3 k5 : Option Value}
  {nm' q' : Str} {col' : Option Bool} {j0 j1 j2 j3 j5 : Option Value}
  (hC : h.get? C = some (excClassObj nm q C N bs bm hdct sn sub ab col dd k0 k1 k2 k3 k5 newId)) (hD : h.get? D = some (excClassObj nm' q' D N' bs' bm' hdct' sn' sub' ab' col' dd' j0 j1 j2 j3 j5 newId'))
  (he : h.get? e = some oe) (hcls : oe.cls = .ref C) (hbase : bm'.contains (.type "BaseException") = true) (hin : (Value.ref C :: bm).contains (.ref D) = true)
  (hq : Q true ⟨h, g, d, t, os⟩) : wpAny M A (excMatches (.ref e) (.ref D)) Q E ⟨h, g, d, t, os⟩ := by
 have hcB : (Value.ref D :: bm').contains (.type "BaseException") = true := by rw [List.contains_cons, hbase, Bool.or_true]
 have f := tc_notTuple;unfold excMatches
 repeat (first | (with_reducible refine wpAny_loadPart_at he ?_; rw [hcls]) | with_reducible refine wpAny_loadPart_at hD ?_ | (with_reducible refine wpAny_isSubtype_exc hD ?_; rw [hcB]) | (with_reducible refine wpAny_isSubtype_exc hC ?_; rw [hin]) | wp_step)
 exact hq
end
section
variable {E : XK} {s' : Shared} {e : Value} {R : Shared → Prop}
theorem zkl (I : Inv X pins σ H s) (hst : X.stack = env :: outer) (hf : env.frame = some L) (hP : X.prog = P) (hw : X.w = w) (hx : CXo P w X.stack H s E e s')
  (k : ∀ (a C T : Addr) (H' : Hp) (s3 : Shared), e = .ref a → E (.ref C) none H' → Inv X pins σ H' s3 → zbu s3.heap a (.ref C) T → H' a = none → s.heap.get? a = none →
   (∀ (A' : Around) (Ex' : Value → Shared → Prop) (R' : Shared → Prop), (∀ s4, Inv X pins σ H' s4 → (∃ oe, s4.heap.get? a = some oe ∧ oe.cls = .ref C) → R' s4) → wpAny (model P w) A' (setFlight (.ref a) none) (fun _ s4 => R' s4) Ex' s3) → R s3) :
  wpAny (model P w) X.A (noteFrame e env) (fun _ s2 => wpAny (model P w) X.A (setFlight e none) (fun _ s3 => R s3) Ex s2) Ex s' := by
 subst hP hw;obtain ⟨a, C, T, H', rfl, fl, na, nT, hna, hnT, os, bare, un, hok, q⟩ := hx;obtain ⟨hh, g, d, t, os'⟩ := s';obtain rfl : os' = s.os := os;have I' : Inv X pins σ H' ⟨hh, g, d, t, s.os⟩ := I.call (h' := hh) (g' := g) (d' := d) (t' := t) (ch := []) un hok bare (fun b z => absurd z (by simp));obtain ⟨oe, vs, oT0, ts0, a0, b1, b2, b3, b4, b5, b6, b7, b8⟩ := id fl;have hl : hh.FunFrames X.base (env :: outer) := by have := I'.stack; rw [hst] at this; exact this
 have hfr : X.A.frames = some (env :: outer) := by rw [← hst]; exact I'.ok.frames
 have hfrs : frs X.stack = frs (env :: outer) := by rw [hst]
 have fly : Heap.FlyingW (PySem.W.hideAll hh (a :: T :: frs (env :: outer))) (env :: outer) a (.ref C) a0 hh := ⟨fun b o z => PySem.W.of_hideAll _ z, PySem.W.hideAll_none _ ao, jq hl fun b hb => PySem.W.hideAll_none _ (aq _ (aq _ hb)),
  ⟨oe, vs, T, oT0, ts0, b1, b2, b3, b4, PySem.W.hideAll_none _ (aq _ ao), b5, b6, b7, b8⟩⟩
 refine wpAny_looks_onW (s := ⟨hh, g, d, t, s.os⟩) hfr hf fly fun h2 held u2 => ?_;refine wpAny_landsW (s := ⟨h2, g, d, t, s.os⟩) held fun h3 fly3 u3 => ?_;have un0 := un;have go : ∀ h3 : Heap, Heap.FlyingW (PySem.W.hideAll hh (a :: T :: frs (env :: outer))) (env :: outer) a (.ref C) a0 h3 → hh.UpToSlots h3 → Inv X pins σ H' ⟨h3, g, d, t, s.os⟩ ∧ ∃ T', zbu h3 a (.ref C) T' := fun h3 fly3 up => by
  obtain ⟨c1, c2, c3, oe', vs', T', oT', ts', d1, d2, d3, d4, d5, d6, d7, d8, d9⟩ := fly3;have kept : ∀ b o, hh.get? b = some o → b ≠ a → b ≠ T → b ∉ frs (env :: outer) → h3.get? b = some o := fun b o z n1 n2 n3 => c1 b o (PySem.W.hideAll_get _ z fun y => (ag.mp y).elim n1 fun y => (ag.mp y).elim n2 n3);have slots : ∀ b ∈ frs (env :: outer), ∀ o, hh.get? b = some o → ∃ sl, h3.get? b = some { o with slots := sl } := fun b hb o z => by
   obtain ⟨_, o2, ho2, hn2⟩ := hl.mem hb;rw [z] at ho2;cases ho2;exact up b o z hn2
  have ne : ∀ {b : Addr} {o : Obj}, s.heap.get? b = some o → b ≠ a ∧ b ≠ T := fun {b o} z => ⟨(fun y => by rw [y, na] at z; cases z), (fun y => by rw [y, nT] at z; cases z)⟩
  have un3 : Un (frs X.stack) [] H H' s.heap h3 := by
   rw [hfrs] at un ⊢;refine ⟨fun b o z n hb hx => ?_, fun b o z n hb hx => ?_, un.free, fun b o z hx => ?_, un.tups, un.frzs, un.tbls⟩
   · obtain ⟨n1, n2⟩ := ne z;exact kept b o (un.keep b o z n hb hx) n1 n2 hb
   · obtain ⟨sl, e1⟩ := un.slot b o z n hb hx;obtain ⟨sl2, e2⟩ := slots b hb _ e1;exact ⟨sl2, e2⟩
   · obtain ⟨o1, e1⟩ := un.there b o z hx;obtain ⟨n1, n2⟩ := ne z;by_cases hb : b ∈ frs (env :: outer)
     · obtain ⟨sl, e2⟩ := slots b hb o1 e1;exact ⟨_, e2⟩
     · exact ⟨o1, kept b o1 e1 n1 n2 hb⟩
  have hok3 : HOk X.prog X.w H' h3 := fun b o z => by
   refine (hok b o z).stay (fun c v hc y => ?_) (fun c y => y) fun c xs y => y;have tr : H' c ≠ none := by
    rcases hc with rfl | hc
    · rw [z]; intro y; cases y
    · rw [hc]; intro y; cases y
   refine kept c v y (fun y => tr (by rw [y]; exact hna)) (fun y => tr (by rw [y]; exact hnT)) fun y => tr (I'.stkFree c (by rw [hfrs]; exact y))
  have I3 : Inv X pins σ H' ⟨h3, g, d, t, s.os⟩ := I.call (h' := h3) (g' := g) (d' := d) (t' := t) (ch := []) un3 hok3 bare (fun b z => absurd z (by simp));exact ⟨I3, T', oe', vs', oT', ts', a0, d1, d2, d3, d4, d6, d7, d8, d9⟩
 obtain ⟨I3, T', fl3⟩ := go h3 fly3 (u2.trans u3);refine k a C T' H' _ rfl q I3 fl3 hna na fun A' Ex' R' r => ?_;obtain ⟨f1, f2, f3, f4⟩ := fly3;refine wpAny_setFlight_noneW (s := ⟨h3, g, d, t, s.os⟩) f1 f3 f4.at fun h4 k1 k2 k3 k4 => ?_;obtain ⟨I4, T4, oe4, vs4, _, _, _, e4, ⟨e5, _⟩, _⟩ := go h4 ⟨k1, f2, k2, k3⟩ ((u2.trans u3).trans fun b o hb hn => ⟨o.slots, k4 b o hb hn⟩);exact r _ I4 ⟨oe4, e4, e5⟩
end
section
theorem zna {M : Model} {i : Nat} (I : Inv X pins σ H s) (hN : X.N.Nodup) (hi : X.N[i]? = some x) (hk : X.env.scope.names.lookup x = some .local)
  (h : ∀ s', Inv X pins (σ.set i none) H s' → Q () s') : wpAny M A (do bindName X.env x .none; unbindBehindTheSuite X.env x pos) Q E s := by
 obtain ⟨m, hn, hl⟩ := id I.loc;have hcls : (X.env.scope.kind == .class || (X.env.scope.kind == .module && X.env.locals != X.env.globals)) = false := by rw [I.ok.kind]; rfl
 have hiσ : i < σ.length := by rw [I.len]; exact (c9.mp hi).1
 have cne := I.cne;refine wpAny_nameGoes_keeps hk hn hcls fun h' v hn' hs => ?_;obtain ⟨oL, _, _, hoL, _⟩ := id hn;refine h _ ⟨I.ok, I.os, I.bare, ⟨fun b o e n hb hx => ?_, fun b o e n hb hx => ?_, I.base.free, fun b o e hx => ?_, I.base.tups, I.base.frzs, I.base.tbls⟩, ⟨_, hn', fun j y v' e1 e2 e3 => ?_⟩, fun y c e => ?_, I.free, I.freeC, fun p hp => ?_, fun b ob e => ?_, by simpa using I.len⟩
 · exact (hs.2 b (bo (br (al e) I.ok.above))).trans (I.base.keep b o e n hb hx)
 · obtain ⟨sl, e1⟩ := I.base.slot b o e n hb hx;exact ⟨sl, (hs.2 b (bo (br (al e) I.ok.above))).trans e1⟩
 · obtain ⟨o', e1⟩ := I.base.there b o e hx;exact ⟨o', (hs.2 b (bo (br (al e) I.ok.above))).trans e1⟩
 · by_cases hj : j = i
   · subst hj;rw [List.getElem?_set_self hiσ] at e2;cases e2
   · rw [List.getElem?_set_ne (ak hj)] at e2;obtain ⟨u', r', q⟩ := hl j y v' e1 e2 e3;refine ⟨u', r', ?_⟩;rcases q with ⟨k, e⟩ | ⟨k, c, e, z⟩
     · refine .inl ⟨k, ?_⟩;have : y ≠ x := fun e => hj (Q8 hN e1 (e ▸ hi));simp [this, e]
     · exact .inr ⟨k, c, e, z.sameBut hs (cne y c e)⟩
 · obtain ⟨w', z⟩ := I.cell y c e;exact ⟨w', z.sameBut hs (cne y c e)⟩
 · obtain ⟨e, n, ne, nf, d⟩ := I.pin p hp;exact ⟨(hs.2 p.1 ne).trans e, n, ne, nf, d⟩
 · refine (I.hok b ob e).stay (fun c w' hc q => (hs.2 c ?_).trans q) (fun _ q => q) fun _ _ q => q;rintro rfl;rcases hc with rfl | hc
   · rw [I.free] at e; cases e
   · rw [I.free] at hc; cases hc
end
abbrev Cx.held (X : Cx) (e : Value) : Cx := { X with A := X.A.mark (some e), calm := false }
theorem Inv.held {X : Cx} {pins : List (Addr × Obj)} {σ : St} {H : Hp} {s : Shared} {e : Value} (I : Inv X pins σ H s) : Inv (X.held e) pins σ H s :=
 ⟨⟨I.ok.mod, I.ok.kind, I.ok.glob, I.ok.blt, I.ok.above, I.ok.inj, I.ok.has, I.ok.cab, (fun z => by cases z), I.ok.frames, I.ok.stk, I.ok.exf, I.ok.bs, I.ok.bsz, I.ok.noex, I.ok.exfs, I.ok.funs, I.ok.frf⟩, I.os, I.bare, I.base, I.loc, I.cell, I.free, I.freeC, I.pin, I.hok, I.len⟩
theorem Inv.unheld {e : Value} (hd : X.calm = true → X.A.handled = none) (I : Inv (X.held e) pins σ H s) : Inv X pins σ H s :=
 ⟨⟨I.ok.mod, I.ok.kind, I.ok.glob, I.ok.blt, I.ok.above, I.ok.inj, I.ok.has, I.ok.cab, hd, I.ok.frames, I.ok.stk, I.ok.exf, I.ok.bs, I.ok.bsz, I.ok.noex, I.ok.exfs, I.ok.funs, I.ok.frf⟩, I.os, I.bare, I.base, I.loc, I.cell, I.free, I.freeC, I.pin, I.hok, I.len⟩
theorem Qa {prog : Program} {e : Addr} {t : Expr} {n : Str} {b₀ : Stmt} {suite : List Stmt} {jk : List ExceptHandler} {Q : Flow → Shared → Prop}
  {nm q : Str} {N : Addr} {bs : List Value} {col : Option Bool} {k0 k1 k2 k3 k5 : Option Value}
  {nm' q' : Str} {col' : Option Bool} {j0 j1 j2 j3 j5 : Option Value}
  (hbase : bm'.contains (.type "BaseException") = true) (hin : (Value.ref C :: bm).contains (.ref D) = true)
  (h : wpAny (model prog w) (A.mark (some (.ref e))) (eval t env) (fun c s₁ => c = .ref D ∧ s₁.heap.get? C = some (excClassObj nm q C N bs bm hdct sn sub ab col dd k0 k1 k2 k3 k5 newId) ∧
   s₁.heap.get? D = some (excClassObj nm' q' D N' bs' bm' hdct' sn' sub' ab' col' dd' j0 j1 j2 j3 j5 newId') ∧ (∃ oe, s₁.heap.get? e = some oe ∧ oe.cls = .ref C) ∧
   wpAny (model prog w) (A.mark (some (.ref e))) (setFlight (.ref e) none) (fun _ s₂ =>
    wpAny (model prog w) (A.mark (some (.ref e))) (storeName env n (.ref e)) (fun _ s₃ =>
     wpAny (model prog w) (A.mark (some (.ref e))) (execs (b₀ :: suite) env)
      (fun f s₄ => wpAny (model prog w) A (do bindName env n .none; unbindBehindTheSuite env n pos) (fun _ s₅ => Q f s₅) E s₄)
      (AsSuiteRaised (model prog w) (A.mark (some (.ref e))) env n pos (notedBy (model prog w) (A.mark (some (.ref e))) env (cameBackBy (model prog w) A env E))) s₃) (notedBy (model prog w) (A.mark (some (.ref e))) env (cameBackBy (model prog w) A env E)) s₂) (notedBy (model prog w) (A.mark (some (.ref e))) env (cameBackBy (model prog w) A env E)) s₁) (notedBy (model prog w) (A.mark (some (.ref e))) env (cameBackBy (model prog w) A env E)) s) :
  wpAny (model prog w) A (handleBy (.ref e) env (.ExceptHandler (some t) (some n) (b₀ :: suite) pos :: jk)) Q E s := by
 refine wpAny_handleBy_cons (codeAny_handlers_test (cn h (fun c s₁ h₁ => ?_) fun _ _ y => y)) (by intro q; cases q);obtain ⟨rfl, hC, hD, ⟨oe, he, hcls⟩, hk⟩ := h₁;obtain ⟨hh, g, d, tk, os⟩ := s₁;exact Jn hC hD he hcls hbase hin (codeAny_handlers_suite_as hk)
noncomputable def Exc (a C : Addr) : HO := .ext fun h => ∃ o, h.get? a = some o ∧ o.cls = .ref C
section
theorem Inv.track (I : Inv X pins σ H s) (ha : ∃ o, s.heap.get? a = some o ∧ o.cls = .ref C) (hn : H a = none) (hs : X.s₀.heap.get? a = none) (hl : a ≠ X.env.locals) (hc : ∀ x c, X.env.cells.lookup x = some c → c ≠ a) (hp : ∀ p ∈ X.pn ++ pins, p.1 ≠ a) : Inv X pins σ (upd H a (Exc a C)) s := by
 have u := I.base;refine ⟨I.ok, I.os, I.bare, ⟨u.keep, u.slot, fun b o e n hx => ?_, u.there, fun b xs e => ?_, fun b o v e => ?_, fun b ps e => ?_⟩, I.loc, I.cell, ?_, fun x c e => ?_, fun p hq => ?_, fun b o e => ?_, I.len⟩
 · rw [zk (fun z => by rw [z, hs] at e; cases e)];exact u.free b o e n hx
 · rw [zk (zj (u.tups b xs e) hn)];exact u.tups b xs e
 · rw [zk (zj (u.frzs b o v e) hn)];exact u.frzs b o v e
 · obtain ⟨more, z⟩ := u.tbls b ps e;exact ⟨more, by rw [zk (zj z hn)]; exact z⟩
 · rw [zk (ak hl)]; exact I.free
 · rw [zk (hc x c e)]; exact I.freeC x c e
 · obtain ⟨h1, h2, h3⟩ := I.pin p hq;exact ⟨h1, by rw [zk (hp p hq)]; exact h2, h3⟩
 · by_cases hb : b = a
   · subst hb;rw [zf] at e;cases e;obtain ⟨ob, h1, h2⟩ := ha;exact ⟨⟨ob, h1, h2⟩, ⟨ob, h1⟩, fun g1 g2 ⟨o, q1, q2⟩ k => ⟨o, k o q1, q2⟩⟩
   · rw [zk hb] at e;exact (I.hok b o e).stay (fun _ _ _ z => z) (fun c z => by rw [zk (zj z hn)]; exact z) fun c xs z => by rw [zk (zj z hn)]; exact z
end
noncomputable def zd4 (X : Cx) (E : XK) : Value → Shared → Prop := fun e s' => ∃ pins σ H s, Inv X pins σ H s ∧ CXo X.prog X.w X.stack H s E e s'
theorem Xx {E : XK} {Z : Value → Shared → Prop} : X1 (CXo X.prog X.w) (X.wish (zd4 X E)) E := fun pins σ H s e s' I hx => ⟨pins, σ, H, s, I.unwish, hx⟩
abbrev Cx.pinned (X : Cx) (pn : List (Addr × Obj)) : Cx := { X with pn := pn }
theorem Inv.pinIn (I : Inv X pins σ H s) : Inv (X.pinned (X.pn ++ pins)) [] σ H s :=
 ⟨⟨I.ok.mod, I.ok.kind, I.ok.glob, I.ok.blt, I.ok.above, I.ok.inj, I.ok.has, I.ok.cab, I.ok.hd, I.ok.frames, I.ok.stk, I.ok.exf, I.ok.bs, I.ok.bsz, I.ok.noex, I.ok.exfs, I.ok.funs, I.ok.frf⟩, I.os, I.bare, I.base, I.loc, I.cell, I.free, I.freeC, (fun p hp => I.pin p (by simpa using hp)), I.hok, I.len⟩
theorem Inv.pinOut {pins' : List (Addr × Obj)} (I : Inv (X.pinned (X.pn ++ pins)) pins' σ H s) : Inv X pins σ H s :=
 ⟨⟨I.ok.mod, I.ok.kind, I.ok.glob, I.ok.blt, I.ok.above, I.ok.inj, I.ok.has, I.ok.cab, I.ok.hd, I.ok.frames, I.ok.stk, I.ok.exf, I.ok.bs, I.ok.bsz, I.ok.noex, I.ok.exfs, I.ok.funs, I.ok.frf⟩, I.os, I.bare, I.base, I.loc, I.cell, I.free, I.freeC, (fun p hp => I.pin p (dk _ hp)), I.hok, I.len⟩
noncomputable def zd1 (base : Heap) (C D : Addr) : Prop := ∃ nm q N bs bm hdct sn sub ab col dd k0 k1 k2 k3 k5 newId, base.get? C = some (excClassObj nm q C N bs bm hdct sn sub ab col dd k0 k1 k2 k3 k5 newId) ∧ (Value.ref C :: bm).contains (.ref D) = true
noncomputable def zly (base : Heap) (D : Addr) : Prop := ∃ nm q N bs bm hdct sn sub ab col dd k0 k1 k2 k3 k5 newId, base.get? D = some (excClassObj nm q D N bs bm hdct sn sub ab col dd k0 k1 k2 k3 k5 newId) ∧ bm.contains (.type "BaseException") = true
noncomputable def zta (n : Nat) (tb : TS) (E : XK) (ie ic : Nat) : TS := fun D σ H => tb D σ H ∧ ∀ (σ' : St) (H' : Hp) (a C : Addr), σ'.length = n → E (.ref C) none H' → H' a = none → D.nx ((((σ'.set ie (some (.ref a))).set ic (some (.ref a)))).set ie none) (upd H' a (Exc a C))
theorem zoz {tb : TS} {E : XK} {ie ic : Nat} {en cv : Str} {np pc pe pa hp : Pos} (hst : X.stack = X.env :: X.outer) (hf : X.env.frame = some X.env.locals) (hN : X.N.Nodup)
  (hie : X.N[ie]? = some en) (hen : X.env.scope.names.lookup en = some .local) (hic : X.N[ic]? = some cv) (hcv : X.env.scope.names.lookup cv = some .local) (hg : Gl X x) (hD : X.mg x = some (.ref D)) (hI : zly X.base D)
  (hU : ∀ C H, E (.ref C) none H → zd1 X.base C D) (hb : ∀ pn, PSs ((X.pinned pn).wish (zd4 (X.pinned pn) E)) body tb) (hd : (x == ("__debug__" : Str)) = false) (hd2 : (en == ("__debug__" : Str)) = false) (hd3 : (en == ("__classdict__" : Str)) = false) (hex : ∀ b ∈ X.ex, False) :
  PS X (.Try body [.ExceptHandler (some (.Name x np)) (some en) [.Assign [.Name cv pc] (.Name en pe) pa] hp] [] [] pos) (zta X.N.length tb E ie ic) := by
 intro pins s σ H D' I h;obtain ⟨hq, hk⟩ := h;refine wpAny_Try_except (cn (hb (X.pn ++ pins) [] s σ H D' (I.pinIn.wish _) hq) (fun f s1 hs => ?_) fun e s1 hx => ?_)
 · have hs : SP X pins D' f s1 := by
    have hs := hs.unwish;cases f with
    | next => obtain ⟨σ', H', J, q⟩ := hs; exact ⟨σ', H', J.pinOut, q⟩
    | brk => obtain ⟨σ', H', J, q⟩ := hs; exact ⟨σ', H', J.pinOut, q⟩
    | cont => obtain ⟨σ', H', J, q⟩ := hs; exact ⟨σ', H', J.pinOut, q⟩
    | ret u => obtain ⟨v, σ', H', J, r, q⟩ := hs; exact ⟨v, σ', H', J.pinOut, r, q⟩
   cases f with
   | next => exact aj hs
   | brk => exact hs
   | cont => exact hs
   | ret u => exact hs
 · obtain ⟨pins', σ', H1, s0, J, hx⟩ := hx;refine zkl (X := X.pinned (X.pn ++ pins)) J hst hf rfl rfl hx fun a C T H2 s3 ea hE I3 fl hna hnew again => ?_;subst ea;obtain ⟨nm', q', N', bs', bm', hdct', sn', sub', ab', col', dd', j0, j1, j2, j3, j5, newId', eD, hbase⟩ := hI;obtain ⟨nm, q, N, bs, bm, hdct, sn, sub, ab, col, dd, k0, k1, k2, k3, k5, newId, eC, hin⟩ := hU C H2 hE;have I3' : Inv X pins σ' H2 s3 := I3.pinOut;refine Qa (nm := nm) (q := q) (N := N) (bs := bs) (bm := bm) (hdct := hdct) (sn := sn) (sub := sub) (ab := ab) (col := col) (dd := dd) (k0 := k0) (k1 := k1) (k2 := k2) (k3 := k3) (k5 := k5) (newId := newId) (nm' := nm') (q' := q') (N' := N') (bs' := bs') (bm' := bm') (hdct' := hdct') (sn' := sn') (sub' := sub') (ab' := ab') (col' := col') (dd' := dd') (j0 := j0) (j1 := j1) (j2 := j2) (j3 := j3) (j5 := j5) (newId' := newId') hbase hin ?_;refine Qi (X := X.held (.ref a)) I3'.held hg hD ⟨rfl, I3'.bk _ _ eC, I3'.bk _ _ eD, ?_, ?_⟩ hd
   · obtain ⟨oe, vs, oT, ts, a0, e1, e2, _⟩ := fl;exact ⟨oe, e1, e2.1⟩
   refine again _ _ _ fun s4 I4 cls4 => ?_;have J4 : Inv X pins σ' H2 s4 := I4.pinOut;have old : ∀ {b : Addr} {o : Obj}, s0.heap.get? b = some o → b ≠ a := fun {b o} z y => by rw [y, hnew] at z; cases z
   have hs0 : X.s₀.heap.get? a = none := by
    cases z : X.s₀.heap.get? a with
    | none => rfl
    | some o =>
      by_cases hx : a ∈ X.ex
      · exact (hex a hx).elim
      · obtain ⟨o', e'⟩ := (show Un X.fs X.ex X.H₀ H1 X.s₀.heap s0.heap from J.base).there a o z hx;rw [hnew] at e'; cases e'
   have K4 : Inv X pins σ' (upd H2 a (Exc a C)) s4 := by
    refine J4.track cls4 hna hs0 (fun z => ?_) (fun y c e z => ?_) fun p hp z => ?_
    · obtain ⟨m, ⟨oL, _, _, hoL, _⟩, _⟩ := J.loc;exact old hoL z.symm
    · obtain ⟨v, oc, hoc, _⟩ := J.cell y c e;exact old hoc z
    · exact old (J.pin p (dk _ hp)).1 z
   refine X6 (X := X.held (.ref a)) K4.held hN hie (.inl hen) (show yq (.ref a) (.ref a) from rfl) (fun s5 I5 => ?_) (.inr hen);have li : ie < σ'.length := by rw [J4.len]; exact (c9.mp hie).1
   refine cn ((zh (zr (X := (X.held (.ref a)).wish _) (i := ic) hN hic (.inl hcv) (zay (X := (X.held (.ref a)).wish _) hie (.inl hen) hd2 hd3) rfl (.inr hcv))) pins s5 _ _ { nx := fun σ6 H6 => σ6 = (σ'.set ie (some (.ref a))).set ic (some (.ref a)) ∧ H6 = upd H2 a (Exc a C), rt := fun _ _ => False } (I5.wish _) ⟨.ref a, List.getElem?_set_self li, rfl, rfl⟩) (fun f s6 hs => ?_) fun _ _ z => z;cases f with
   | next =>
     obtain ⟨σ6, H6, I6, rfl, rfl⟩ := hs;refine zna (Inv.unheld J4.ok.hd I6.unwish) hN hie hen fun s7 I7 => ⟨_, _, I7, hk σ' H2 a C J4.len hE hna⟩
   | brk => obtain ⟨_, _, _, z⟩ := hs; exact False.elim z
   | cont => obtain ⟨_, _, _, z⟩ := hs; exact False.elim z
   | ret u => obtain ⟨_, _, _, _, _, z⟩ := hs; exact False.elim z
section
theorem Fun.okX {st : Stmt} {k : Nat} {sp : Sp} (F : Fun K x qual st f fd) (S : FnScope N ps (zi st)) (len : ∀ vs H Q E, sp vs H Q E → vs.length = ps.length)
  (hbody : ∀ (cdv : Value) (A : Around) (outer : List Env) (s : Shared) (H : Hp) (vs : List V) (Q : VK) (E : XK), Room k (A.deeper (envOfC qual (zi st) s.heap.objs.size f cdv)) → sp vs H Q E →
   ∃ t, PSs (vn (CXo P w) P w K mg base N qual (zi st) f cdv A outer s H E) (xg st) t ∧ t { nx := fun _ H' => Q .non H', rt := Q } (start N vs) H) : FnOk P w K mg base (CXo P w) (k + 1) f fd ps sp := by
 obtain ⟨oc, od, kV, doc, pm, an, cdv, ct, osl, rfl, lk, hcd⟩ := F.ex;exact znz lk hcd S len fun A outer s H vs Q E hr hsp => hbody cdv A outer s H vs Q E hr hsp
noncomputable def OkX (P : Program) (w : World) (K : PySem.W.Frag) (mg : Str → Option Value) (base : Heap) (x : Str) (k : Nat) (ps : List Str) (sp : Sp) : Prop :=
 ∃ f fd, FnOk P w K mg base (CXo P w) k f fd ps sp ∧ J2 K fd ps [] ∧ PySem.W.keepIn K (.ref f) = true ∧ mg x = some (.ref f)
theorem vg {k : Nat} {sp : Sp} {E : XK} {p : Pos} (h : OkX X.prog X.w X.K X.mg X.base x k ps sp) (hx : X1 (CXo X.prog X.w) X E) (hr : Room k X.A) (ha : PA X (e :: es) t) (hg : Gl X x := by rfl)
  (hdb : (x == ("__debug__" : Str)) = false := by decide) (he : starEach (e :: es) X.env = (false, eval e X.env) :: starEach es X.env := by rfl) (hpl : (backTo pos (starEach es X.env)).any (·.1) = false := by rfl) :
  PE X (.Call (.Name x p) (e :: es) [] pos) (zi0 sp [] E t) := by
 obtain ⟨f, fd, F, hb, hk, hm⟩ := h;exact zfx F hr hg hm hk hb .nil hx ha hdb he hpl
end
end L2
namespace PySem
open Sem (wp)
noncomputable def qn : List Str := ["__class__", "__getattribute__", "__getattr__", "__init__"]
inductive QTail (h : Heap) (bmB : List Value) : List Value → Prop
 | base : QTail h bmB bmB
 | own {A : Addr} {c0 : Value} {dd : Option Addr} {cd : ClassData} {sl : Array (Option Value)} {mA : Str → Option Value} {tl : List Value} :
  h.get? A = some { cls := c0, dict := dd, data := .cls cd, slots := sl } → h.Ns cd.ns mA → (∀ n ∈ qn, mA n = none) → QTail h bmB tl → QTail h bmB (.ref A :: tl)
theorem QTail.hasType {h : Heap} {bmB tl : List Value} (T : QTail h bmB tl) {X : String} {b : Bool} (hb : bmB.contains (.type X) = b) : tl.contains (.type X) = b := by
 induction T with
 | base => exact hb
 | own _ _ _ _ ih => rw [List.contains_cons, ih]; rfl
abbrev vE : List Value := [.type "ValueError", .type "Exception", .type "BaseException", .type "object"]
theorem zc5 : typeLookup (.type "ValueError") "__class__" = pure (some (.builtin "object.__class__")) := by rw [typeLookup_type, builtinLookup_eq_fast]; kernel_rfl
section
variable {M : Model} {prog : Program} {w : World} {A : Around} {E : Value → Shared → Prop} {h : Heap} {g : Array GenState} {d : Drawn} {t : Nat} {os : OsState} {a : Addr} {o : Obj}
 {nm q : Str} {C N : Addr} {bs bm : List Value} {hdct : Bool} {sn : List Str} {sub : List Value} {ab : Bool} {col : Option Bool} {dd : Option Addr} {k0 k1 k2 k3 k5 : Option Value} {newId : String} {mN : Str → Option Value}
theorem znp {tl : List Value} {n : Str} {y : Option Value} {Q : Option Value → Shared → Prop} (hn : n ∈ qn) (T : QTail h vE tl) (hrest : lookupAlong vE n = pure y) (hq : Q y ⟨h, g, d, t, os⟩) :
  wpAny M A (lookupAlong tl n) Q E ⟨h, g, d, t, os⟩ := by
 induction T with
 | base => rw [hrest]; exact aj hq
 | own hA hN hni _ ih =>
   rw [lookupAlong_cons];refine aa (wpAny_classOwn_cls hA hN ?_);rw [hni n hn];exact ih
theorem ze2 {n : Str} {y : Option Value} {Q : Option Value → Shared → Prop} (hn : n ∈ qn)
  (hC : h.get? C = some (excClassObj nm q C N bs bm hdct sn sub ab col dd k0 k1 k2 k3 k5 newId)) (hN : h.Ns N mN) (hmN : ∀ n ∈ qn, mN n = none) (T : QTail h vE bm)
  (hB : typeLookup (.type "ValueError") n = pure y) (hq : Q y ⟨h, g, d, t, os⟩) : wpAny M A (typeLookup (.ref C) n) Q E ⟨h, g, d, t, os⟩ := by
 have hrest : lookupAlong vE n = pure y := by rw [typeLookup_eq, F.excBase_ValueError.mroIs] at hB; exact hB
 rw [typeLookup_eq];refine aa (wpAny_mroOf_exc hC ?_);rw [lookupAlong_cons];refine aa (wpAny_classOwn_exc hC hN ?_);rw [hmN n hn];exact znp hn T hrest hq
theorem zli {R : Result → Shared → Prop} (hC : h.get? C = some (excClassObj nm q C N bs bm hdct sn sub ab col dd k0 k1 k2 k3 k5 newId)) (T : QTail h vE bm)
  (hx : h.get? a = some o) (hc : o.cls = .ref C) (hq : R (.ok (.ret (.ref C))) ⟨h, g, d, t, os⟩) :
  codeAny (model prog w) A (.call (.builtin "getset_descriptor.__get__") ⟨[.builtin "object.__class__", .ref a, .ref C], []⟩) R ⟨h, g, d, t, os⟩ := by
 have hT5 : (⟨h, g, d, t, os⟩ : Shared).TypeIs (.builtin "object.__class__") "getset_descriptor" := F.typeOf_object_class;have hcB : (Value.ref C :: bm).contains (.type (".".intercalate ("object.__class__".cutAt '.').dropLast)) = true := by
  rw [F.owner_object_class, List.contains_cons, T.hasType (X := "object") (b := true) (by decide +kernel)]; rfl
 refine codeAny_call_builtin F.slot_gs_get.plain F.entry_gs_get (F.slot_gs_get.check _ _ _ _ _ _ _ _ hT5 (F.args_gs_get _ _ _) ?_)
 repeat (any_goals (first | assumption | (with_reducible refine wpAny_loadPart_at hx ?_; rw [hc]) | (with_reducible refine wpAny_isSubtype_exc hC ?_; rw [hcB]) | wp_step))
 refine ⟨Code.quiet_builtin _ (by decide +kernel), codeAny_builtin F.entry_object_class ?_⟩
 repeat (any_goals (first | assumption | (with_reducible refine wpAny_loadPart_at hx ?_; rw [hc]) | wp_step))
end
section
variable {M : Model} {prog : Program} {w : World} {A : Around} {E : Value → Shared → Prop} {h : Heap} {g : Array GenState} {d : Drawn} {t : Nat} {os : OsState} {a : Addr} {o : Obj}
 {nm q : Str} {C N : Addr} {bs bm : List Value} {hdct : Bool} {sn : List Str} {sub : List Value} {ab : Bool} {col : Option Bool} {dd : Option Addr} {k0 k1 k2 k3 k5 : Option Value} {newId : String} {mN : Str → Option Value}
theorem zfd {tk : Tok} {Q : Fin → Shared → Prop} (hC : h.get? C = some (excClassObj nm q C N bs bm hdct sn sub ab col dd k0 k1 k2 k3 k5 newId)) (hN : h.Ns N mN) (hmN : ∀ n ∈ qn, mN n = none) (T : QTail h vE bm)
  (hx : h.get? a = some o) (hc : o.cls = .ref C) (hq : Q (.done (.ret (.ref C))) ⟨h, g, d, t, os⟩) :
  wpAny (model prog w) A (Builtin.«object.__getattribute__» ⟨[.ref a, .str "__class__" tk], []⟩) Q E ⟨h, g, d, t, os⟩ := by
 have hT5 : (⟨h, g, d, t, os⟩ : Shared).TypeIs (.builtin "object.__class__") "getset_descriptor" := F.typeOf_object_class;have f5 := F.typeOf_object_class;have f6 := F.slot_gs_get.lookup;have f7 := F.slot_gs_set.lookup;have hmA : ("__class__" : Str) ∈ qn := .head _
 repeat (any_goals (first | assumption | (with_reducible refine wpAny_loadPart_at hx ?_; rw [hc]) | with_reducible refine ze2 hmA hC hN hmN T zc5 ?_ | wp_step))
 refine zli hC T hx hc ?_
 repeat (any_goals (first | assumption | wp_step))
theorem zfe {nameV : Value} {Q : Unit → Shared → Prop} (hC : h.get? C = some (excClassObj nm q C N bs bm hdct sn sub ab col dd k0 k1 k2 k3 k5 newId)) (T : QTail h vE bm)
  (hx : h.get? a = some o) (hc : o.cls = .ref C) (hq : Q () ⟨h, g, d, t, os⟩) : wpAny M A (checkBuiltinCall "BaseException.__getattribute__" ⟨[.ref a, nameV], []⟩) Q E ⟨h, g, d, t, os⟩ := by
 have hk : builtinKind "BaseException.__getattribute__" = some .slot := by decide +kernel
 have hsplit : splitId "BaseException.__getattribute__" = some ("BaseException", "__getattribute__") := by decide +kernel
 have hcB : (Value.ref C :: bm).contains (.type "BaseException") = true := by rw [List.contains_cons, T.hasType (X := "BaseException") (b := true) (by decide +kernel)]; rfl
 have ha := F.args_bexc_ga (.ref a) nameV;simp only [checkBuiltinCall, hk, hsplit];refine aa ?_
 · unfold isInstance
   repeat (first | (with_reducible refine wpAny_loadPart_at hx ?_; rw [hc]) | (with_reducible refine wpAny_isSubtype_exc hC ?_; rw [hcB]) | wp_step)
   exact hq
theorem zie {tk : Tok} {R : Result → Shared → Prop} (hC : h.get? C = some (excClassObj nm q C N bs bm hdct sn sub ab col dd k0 k1 k2 k3 k5 newId)) (hN : h.Ns N mN) (hmN : ∀ n ∈ qn, mN n = none) (T : QTail h vE bm)
  (hx : h.get? a = some o) (hc : o.cls = .ref C) (hq : R (.ok (.ret (.ref C))) ⟨h, g, d, t, os⟩) :
  codeAny (model prog w) A (.call (.builtin "BaseException.__getattribute__") ⟨[.ref a, .str "__class__" tk], []⟩) R ⟨h, g, d, t, os⟩ :=
 codeAny_call_builtin F.attrBase_ValueError.ga.plain F.entry_bexc_ga (zfe hC T hx hc (zfd hC hN hmN T hx hc hq))
theorem znk {tk : Tok} {Q : Value → Shared → Prop} (hC : h.get? C = some (excClassObj nm q C N bs bm hdct sn sub ab col dd k0 k1 k2 k3 k5 newId)) (hN : h.Ns N mN) (hmN : ∀ n ∈ qn, mN n = none) (T : QTail h vE bm)
  (hx : h.get? a = some o) (hc : o.cls = .ref C) (hq : Q (.ref C) ⟨h, g, d, t, os⟩) :
  wpAny (model prog w) A (getAttrBy (.ref a) (.str "__class__" tk) false) Q E ⟨h, g, d, t, os⟩ := by
 have f3 := F.attrBase_ValueError.ga.bind (.ref a);have hx2 : (Value.builtin "BaseException.__getattribute__" == Value.builtin "object.__getattribute__") = false := by decide +kernel
 have hx1 : (onTheHeap (Value.ref C) && Value.builtin "BaseException.__getattribute__" == Value.builtin "object.__getattribute__") = false := by rw [hx2]; rfl
 have hm1 : ("__getattribute__" : Str) ∈ qn := .tail _ (.head _);have hm2 : ("__getattr__" : Str) ∈ qn := .tail _ (.tail _ (.head _))
 repeat (any_goals (first | assumption | (with_reducible refine wpAny_loadPart_at hx ?_; rw [hc]) | with_reducible refine ze2 hm1 hC hN hmN T F.attrBase_ValueError.ga.lookup ?_ | with_reducible refine ze2 hm2 hC hN hmN T F.attrBase_ValueError.noGetattr ?_ | wp_step))
 refine zie hC hN hmN T hx hc ?_
 repeat (any_goals (first | assumption | wp_step))
theorem zif {Q : Option Value → Shared → Prop} (hC : h.get? C = some (excClassObj nm q C N bs bm hdct sn sub ab col dd k0 k1 k2 k3 k5 newId)) (hN : h.Ns N mN) (hmN : ∀ n ∈ qn, mN n = none) (T : QTail h vE bm)
  (hx : h.get? a = some o) (hc : o.cls = .ref C) (hq : Q (some (.ref C)) ⟨h, g, d, t + 1, os⟩) : wpAny (model prog w) A (getAttr? (.ref a) "__class__") Q E ⟨h, g, d, t, os⟩ := by
 unfold getAttr? getAttrBy?
 repeat (any_goals (first | assumption | with_reducible apply znk hC hN hmN T hx hc | wp_step))
end
end PySem
namespace L2
open PySem PySem.Spec PyProof.Rows
variable {C a it t : Addr} {A : Around} {its : Array Value} {X : Cx} {H : Hp} {pins : List (Addr × Obj)} {elts es : List Expr} {cap : List Nat} {i : Nat} {Q : Option Value → Shared → Prop} {prog : Program} {K : PySem.W.Frag} {s : Shared} {σ : St} {mg : Str → Option Value} {E : Value → Shared → Prop} {w : World}
noncomputable def zns (K : PySem.W.Frag) (C : Addr) : Prop := ∃ nm q N bs bm hdct sn sub ab col dd k0 k1 k2 k3 k5 newId, K.lookup C = some (excClassObj nm q C N bs bm hdct sn sub ab col dd k0 k1 k2 k3 k5 newId) ∧
 ∀ h : Heap, K.In h → (∃ mN, h.Ns N mN ∧ ∀ n ∈ qn, mN n = none) ∧ QTail h vE bm
theorem zdb (k : zns K C) : PySem.W.KitX K (.ref a) (.ref C) (fun h => ∃ o, h.get? a = some o ∧ o.cls = .ref C) := by
 obtain ⟨nm, q, N, bs, bm, hdct, sn, sub, ab, col, dd, k0, k1, k2, k3, k5, newId, lk, r⟩ := k;refine ⟨fun M h X ⟨o, h1, h2⟩ => ?_, fun M h X p => ?_, fun h tp dd its n sl X htp => ?_, fun {prog w A E Q s} X p hq => ?_⟩
 · exact h2 ▸ (PySem.W.Looks.ld h1).andThen .now
 · intro A' Q' E' s' kk qq;unfold isType loadHead;exact aa (wpAny_loadPart (kk _ _ (X _ _ lk)) (aj qq))
 · refine Bool.eq_false_iff.mpr fun z => ?_;have e : C = tp := Value.ref.inj (beq_iff_eq.mp z);subst e;have z := Option.some.inj ((X _ _ lk).symm.trans htp);have z2 : Value.type "type" = Value.type "tuple" := congrArg Obj.cls z;exact absurd z2 (by decide)
 · obtain ⟨o, h1, h2⟩ := p;obtain ⟨⟨mN, hN, hq'⟩, T⟩ := r s.heap X;obtain ⟨hh, g, d, t, os⟩ := s;exact zif (X _ _ lk) hN hq' T h1 h2 hq
noncomputable def zow (K : PySem.W.Frag) : List V → Hp → VK → Prop := fun xs H Q => ∃ a C b, H a = some (Exc a C) ∧ zns K C ∧ ((∃ D, xs = [.ref a, .ref D] ∧ PySem.W.kitOne K (.ref C) (.ref D) = some b) ∨ (∃ n, xs = [.ref a, .ty n] ∧ PySem.W.kitOne K (.ref C) (.type n) = some b)) ∧ Q (.bl b) H
theorem zaa : Zu X (.builtin "isinstance") (zow X.K) := by
 intro pins s σ H xs us Q I r h;obtain ⟨a, C, b, ha, k, h, q⟩ := h;obtain ⟨p, _, _⟩ := (show yw X.prog X.w H s.heap a (Exc a C) from I.hok a _ ha)
 rcases h with ⟨D, rfl, e⟩ | ⟨n, rfl, e⟩
 · obtain ⟨u, u', rfl, rx, ry⟩ := zio r;cases (show u = Value.ref a from rx);cases (show u' = Value.ref D from ry);exact PySem.W.kia_one (zdb k) I.kIn p e (fun z => nomatch z) fun tk => ⟨.bl b, H, I.tok tk, rfl, q⟩
 · obtain ⟨u, u', rfl, rx, ry⟩ := zio r;cases (show u = Value.ref a from rx);cases (show u' = Value.type n from ry);exact PySem.W.kia_one (zdb k) I.kIn p e (fun z => nomatch z) fun tk => ⟨.bl b, H, I.tok tk, rfl, q⟩
structure TwoErr (K : PySem.W.Frag) (C D : Addr) : Prop where
 c : ∃ nm q N bs hdct sn sub ab col dd k0 k1 k2 k3 k5, K.lookup C = some (excClassObj nm q C N bs (.ref D :: vE) hdct sn sub ab col dd k0 k1 k2 k3 k5 "ValueError.__new__") ∧ PySem.W.nsOkIn K N = true ∧ ∀ n ∈ qn, PySem.W.nsIn K N n = some none
 d : ∃ nm q N bs hdct sn sub ab col dd k0 k1 k2 k3 k5, K.lookup D = some (excClassObj nm q D N bs vE hdct sn sub ab col dd k0 k1 k2 k3 k5 "ValueError.__new__") ∧ PySem.W.nsOkIn K N = true ∧ ∀ n ∈ qn, PySem.W.nsIn K N n = some none
section
variable {D : Addr} {base : Heap} {x : Str}
theorem TwoErr.err (t : TwoErr K C D) : zns K C := by
 obtain ⟨nm, q, N, bs, hdct, sn, sub, ab, col, dd, k0, k1, k2, k3, k5, lC, oN, qN⟩ := t.c;obtain ⟨nm', q', N', bs', hdct', sn', sub', ab', col', dd', j0, j1, j2, j3, j5, lD, oN', qN'⟩ := t.d;exact ⟨_, _, _, _, _, _, _, _, _, _, _, _, _, _, _, _, _, lC, fun h X => ⟨⟨h.nsMap N, .of_isNs (PySem.W.isNs_of_in X oN), fun n hn => PySem.W.nsMap_none_of_in X oN (qN n hn)⟩, .own (X _ _ lD) (.of_isNs (PySem.W.isNs_of_in X oN')) (fun n hn => PySem.W.nsMap_none_of_in X oN' (qN' n hn)) .base⟩⟩
theorem TwoErr.is (t : TwoErr K C D) (X : K.In base) : zly base D := by
 obtain ⟨nm', q', N', bs', hdct', sn', sub', ab', col', dd', j0, j1, j2, j3, j5, lD, _⟩ := t.d;exact ⟨_, _, _, _, _, _, _, _, _, _, _, _, _, _, _, _, _, X _ _ lD, by decide +kernel⟩
theorem TwoErr.under (t : TwoErr K C D) (X : K.In base) : zd1 base C D := by
 obtain ⟨nm, q, N, bs, hdct, sn, sub, ab, col, dd, k0, k1, k2, k3, k5, lC, _⟩ := t.c;exact ⟨_, _, _, _, _, _, _, _, _, _, _, _, _, _, _, _, _, X _ _ lC, by simp⟩
theorem TwoErr.own (t : TwoErr K C D) (X : K.In base) (hm : mg x = some (.ref C)) (hk : PySem.W.keepIn K (.ref C) = true) : OwnErr K mg base x C := by
 obtain ⟨nm, q, N, bs, hdct, sn, sub, ab, col, dd, k0, k1, k2, k3, k5, lC, oN, qN⟩ := t.c;obtain ⟨nm', q', N', bs', hdct', sn', sub', ab', col', dd', j0, j1, j2, j3, j5, lD, oN', qN'⟩ := t.d;have hi : ("__init__" : Str) ∈ qn := .tail _ (.tail _ (.tail _ (.head _)));exact ⟨⟨hm, _, _, _, _, _, _, _, _, _, _, _, _, _, _, _, _, _, X _ _ lC, .of_isNs (PySem.W.isNs_of_in X oN), PySem.W.nsMap_none_of_in X oN (qN _ hi), .own (X _ _ lD) (.of_isNs (PySem.W.isNs_of_in X oN')) (PySem.W.nsMap_none_of_in X oN' (qN' _ hi)) .base⟩, hk⟩
end
mutual
noncomputable def toD : T → PyData
 | .non => .none
 | .bl b => .bool b
 | .int i => .int i
 | .str x => .str x
 | .tup ts => .tuple (kt ts)
 | .lst ts => .list (kt ts)
 | .dct => .dict []
noncomputable def kt : List T → List PyData
 | [] => []
 | t :: r => toD t :: kt r
end
section
mutual
theorem Yp (I : Inv X pins σ H s) : ∀ {t : T} {v : V} {u : Value}, (toD t).canLay0 = true → Is H t v → yq v u → ∃ as, Reads s.heap u (toD t) as
 | .non, v, u, _, h, r => by
   cases (show v = .non from h); cases (show u = Value.none from r);exact ⟨_, by unfold toD; exact .none⟩
 | .bl b, v, u, _, h, r => by
   cases (show v = .bl b from h); cases (show u = Value.bool b from r);exact ⟨_, by unfold toD; exact .bool b⟩
 | .int i, v, u, _, h, r => by
   cases (show v = .int i from h);obtain ⟨t, rfl⟩ := (show ∃ t, u = Value.int i t from r)
   exact ⟨_, by unfold toD; exact .int i t⟩
 | .str x, v, u, _, h, r => by
   cases (show v = .str x from h);obtain ⟨t, rfl⟩ := (show ∃ t, u = Value.str x t from r)
   exact ⟨_, by unfold toD; exact .str x t⟩
 | .tup ts, v, u, l, h, r => by
   obtain ⟨a, xs, rfl, ha, hl⟩ := h;cases (show u = Value.ref a from r);obtain ⟨its, rv, ⟨o, e, c, n, d⟩, _⟩ := I.tuple (SqT.of ha);obtain ⟨as, ra⟩ := Yq I (by unfold toD PyData.canLay0 at l; exact l) hl rv;exact ⟨_, by unfold toD; exact .tuple e c d (by simpa using ra)⟩
 | .lst ts, v, u, l, h, r => by
   obtain ⟨a, xs, rfl, ha, hl⟩ := h;cases (show u = Value.ref a from r);obtain ⟨its, rv, ⟨o, n, e, c, _, d⟩, _⟩ := I.list (SqL.of ha);obtain ⟨as, ra⟩ := Yq I (by unfold toD PyData.canLay0 at l; exact l) hl rv;exact ⟨_, by unfold toD; exact .list e c d (by simpa using ra)⟩
 | .dct, v, u, l, h, r => by unfold toD PyData.canLay0 at l; cases l
theorem Yq (I : Inv X pins σ H s) : ∀ {ts : List T} {xs : List V} {us : List Value}, PyData.canLayAll0 (kt ts) = true → IsL H ts xs → yn xs us → ∃ as, ReadsAll s.heap us (kt ts) as
 | [], xs, us, _, h, r => by
   cases (show xs = [] from h); cases r;exact ⟨_, by unfold kt; exact .nil⟩
 | t :: ts, xs, us, l, h, r => by
   obtain ⟨v, vs, rfl, h1, h2⟩ := h;cases r with
   | cons r1 r2 =>
     unfold kt PyData.canLayAll0 at l;rw [bu] at l;obtain ⟨as, ra⟩ := Yp I l.1 h1 r1;obtain ⟨bs, rb⟩ := Yq I l.2 h2 r2;exact ⟨_, by unfold kt; exact .cons ra rb⟩
end
end
noncomputable def rTr (f : Bool → Bool) : R2 := fun x y H Q => ∃ t u, Is H t x ∧ Is H u y ∧ (toD t).canLay0 = true ∧ (toD u).canLay0 = true ∧ (toD t).depth ≤ 20 ∧ Q (.bl (f (PyData.eqv (toD t) (toD u)))) H
section
theorem zmp (hu : X.A.units + 64 < cLine) : OpR X (compareOp .NotEq) (rTr (!·)) := by
 intro pins s σ H x y v u Q I rx ry h;obtain ⟨t, t', h1, h2, l1, l2, d, q⟩ := h;obtain ⟨as, ra⟩ := Yp I l1 h1 rx;obtain ⟨bs, rb⟩ := Yp I l2 h2 ry;exact SeqAt.compareNe_reads ra rb l1 l2 (by omega) ⟨.bl _, H, I, rfl, q⟩
theorem zf0 (hu : X.A.units + 64 < cLine) : OpR X (compareOp .Eq) (rTr id) := by
 intro pins s σ H x y v u Q I rx ry h;obtain ⟨t, t', h1, h2, l1, l2, d, q⟩ := h;obtain ⟨as, ra⟩ := Yp I l1 h1 rx;obtain ⟨bs, rb⟩ := Yp I l2 h2 ry;exact SeqAt.rcAt_reads ra rb l1 l2 (by omega) X.prog X.w _ _ ⟨.bl _, H, I, rfl, q⟩
end
noncomputable def iT (ns : List Int) : List T := ns.map T.int
noncomputable def tt (ps ns : List Int) : T := .tup [.tup (iT ps), .tup (iT ns)]
section
end
section
noncomputable def zrj : V → List V → Hp → VK → Prop := fun x ys H Q => ∃ (l : Addr) (bs : List Bool), x = .ref l ∧ ys = [.bl true] ∧ H l = some (.lst (bs.map V.bl)) ∧ Q (.int ((bs.countP id : Nat) : Int)) H
theorem Jm : ∀ bs : List Bool, (bs.map V.bl).all Zq = true
 | [] => rfl
 | b :: r => by rw [bh, List.all_cons, Jm r]; rfl
theorem zbm : ∀ {bs : List Bool} {us : List Value}, yn (bs.map V.bl) us → us.map (eqU (.bl true)) = bs
 | [], _, .nil => rfl
 | b :: r, _, .cons h t => by
   rw [bh, zbm t, zfa h rfl];cases b <;> rfl
theorem zhj : MtR X "list.count" zrj := by
 intro pins s σ H x xs v us Q I rx rv h;obtain ⟨l, bs, rfl, rfl, hH, q⟩ := h;cases (show v = Value.ref l from rx);obtain ⟨u, rfl, ru⟩ := rv.one;cases (show u = Value.bool true from ru);obtain ⟨z, its, n, r, hl, e⟩ := I.lstM hH;have hc : its.toArray.toList.countP (eqU (.bl true)) = bs.countP id := by
  rw [List.toList_toArray]
  conv => rhs; rw [← zbm r, List.countP_map]
  rfl
 refine call_meets PySem.F.slot_list_count ⟨_, e, rfl⟩ PySem.F.entry_list_count (PySem.F.args_list_count_2 _ _) (SeqAt.list_countAt l its.toArray n none #[] (.bool true) (eqU (.bl true))) ⟨e, fun y hy => ki (x := .bl true) rfl rfl r (Jm bs) y (by simpa using hy), ?_⟩;rw [hc];exact ⟨.int _, H, I.tok _, ⟨_, rfl⟩, q⟩
noncomputable def zri : V → List V → Hp → VK → Prop := fun x ys H Q => ∃ (l : Addr) (bs : List Bool) (j : Nat), x = .ref l ∧ ys = [.bl true] ∧ H l = some (.lst (bs.map V.bl)) ∧ bs[j]? = some true ∧ (∀ m, m < j → bs[m]? = some false) ∧ Q (.int ((j : Nat) : Int)) H
theorem zhh : MtR X "list.index" zri := by
 intro pins s σ H x xs v us Q I rx rv h;obtain ⟨l, bs, j, rfl, rfl, hH, hj, hno, q⟩ := h;cases (show v = Value.ref l from rx);obtain ⟨u, rfl, ru⟩ := rv.one;cases (show u = Value.bool true from ru);obtain ⟨z, its, n, r, hl, e⟩ := I.lstM hH;rw [ae] at hl z;have hjl : j < bs.length := (c9.mp hj).1;have hn := Xs;have hat : ∀ m (hm : m < its.toArray.size), bs[m]? = some (eqU (.bl true) its.toArray[m]) := fun m hm => by
  have e1 := zbm r;have hm' : m < its.length := by simpa using hm
  have : bs[m]? = (its.map (eqU (.bl true)))[m]? := by rw [e1]
  rw [this, ay, be hm'];simp
 refine call_meets PySem.F.slot_list_index ⟨_, e, rfl⟩ PySem.F.entry_list_index (PySem.F.args_list_index_2 _ _) (SeqAt.list_indexAt l its.toArray n none #[] (.bool true) (eqU (.bl true)) j (by rw [bq]; omega) (by omega) ?_ ?_) ⟨e, fun y hy => ki (x := .bl true) rfl rfl r (Jm bs) y (by simpa using hy), ?_⟩
 · have := hat j (by rw [bq]; omega);rw [hj] at this;exact (Option.some.inj this).symm
 · intro m hm hlt;have := hat m hm;rw [hno m hlt] at this;exact (Option.some.inj this).symm
 · exact ⟨.int _, H, I.tok _, ⟨_, rfl⟩, q⟩
noncomputable def ENo : XK := fun _ _ _ => False
theorem zem : X1 (CXo X.prog X.w) X ENo := fun _ _ _ _ _ _ _ ⟨_, _, _, _, _, _, _, _, _, _, _, _, _, _, q⟩ => q.elim
end
section
noncomputable def vt (h : Heap) (z ti to : Addr) (f0 : Value) : Prop := h.get? z = some { cls := .type "zip", data := .fields #[f0, .bool false, .bool true, .ref ti, .ref to] }
noncomputable def zai (h : Heap) (ti it1 it2 : Addr) : Prop := h.get? ti = some { cls := .type "tuple", data := .seq #[.ref it1, .ref it2] }
theorem Ka {v : Value} (hit : s.heap.IsTupleIter it t i) (ht : s.heap.IsTuple t its) (hv : its[i]? = some v)
  (k : ∀ g, g.IsTupleIter it t (i + 1) → Heap.SameBut it s.heap g → Q (some v) { s with heap := g }) : wpAny (model prog w) A (Builtin.SmallTypes.nextOrEnd (.ref it)) Q E s := by
 unfold Builtin.SmallTypes.nextOrEnd;exact aa (wpAny_attempt (Q9 hit ht hv fun g h1 h2 => aj (k g h1 h2)))
theorem Vi (hh : A.handled = none) (hit : s.heap.IsTupleIter it t i) (ht : s.heap.IsTuple t its) (hv : its[i]? = none)
  (k : ∀ g, Heap.ExtBut it s.heap g → Q none { s with heap := g }) : wpAny (model prog w) A (Builtin.SmallTypes.nextOrEnd (.ref it)) Q E s := by
 unfold Builtin.SmallTypes.nextOrEnd;refine aa (wpAny_attempt (Xd hh hit ht hv fun g x hx ⟨o, ho, hc⟩ => ?_));exact aa (du (T := "StopIteration") (b := true) ⟨o, ho, hc⟩ isSubtype_stop (aj (k _ hx)))
theorem zdd {z ti to : Addr} {f0 : Value} {Q : Value → Shared → Prop} (hz : vt s.heap z ti to f0) (h : Q (.ref z) s) : wpAny (model prog w) A (pyIter (.ref z)) Q E s :=
 have hT : s.TypeIs (.ref z) "zip" := ⟨_, hz, rfl⟩
 wpAny_pyIter_slot hT PySem.F.slot_zip_iter (cy PySem.F.slot_zip_iter hT PySem.F.entry_zip_iter (show wpAny _ _ (ret (.ref z)) _ _ s from aj ⟨_, rfl, "zip", _, hT, PySem.F.slot_zip_next.lookup, h⟩) (PySem.F.args_zip_iter_1 _))
theorem zho {x1} {pos : Pos} {z ti to T : Addr} {Q : Unit → Shared → Prop} (hz : vt s.heap z ti to (rawInt T)) (hQ : ∀ h', vt h' z ti to .none → Heap.SameBut z s.heap h' → Q () { s with heap := h' }) :
  wpAny (model prog w) A (letOwnedTupleGo (.Tuple elts x1 pos) (.ref z) (.ref T)) Q E s := by
 unfold letOwnedTupleGo;refine aa (wpAny_load hz ?_);refine (show wpAny _ _ (if (["enumerate", "zip", "dict_itemiterator", "dict_reverseitemiterator", "odict_iterator", "itertools.zip_longest", "itertools.pairwise"].contains "zip" && (#[rawInt T, .bool false, .bool true, .ref ti, .ref to] : Array Value)[0]? == some (rawInt T)) = true then _ else _) Q E s from ?_);rw [if_pos (by simp)];refine aa (wpAny_rule ?_);exact wpAny_setField_rec hz (by simp) fun h' hz' hs' => hQ h' hz' hs'
end
section
theorem zs3 (a b c : Value) : argsOk "object.__init__" ⟨[a, b, c], [("strict", .bool true)]⟩ := by unfold argsOk; kernel_rfl
end
theorem zlp : bootBuiltins "zip" = some (.type "zip") := by decide +kernel
section
end
section
variable {b : Addr} {xs zs : List V} {g : TG} {tc : TT} {te : TE} {k : Nat} {Q : VK}
end
section
open Classical in
end
section
variable {o e : Expr} {to : TE} {t : TA} {name : Str} {apos cpos : Pos} {id : String} {r : V → List V → Hp → VK → Prop}
end
section
end
end L2
namespace L2
open PySem PySem.Spec PyProof.Rows PySem.W
variable {A : Around} {vs : List Value} {prog : Program} {s : Shared} {E : Value → Shared → Prop} {w : World}
section
variable {n : Nat} {lt : Nat → Nat → Bool}
end
section
variable {h0 : Heap} {κ : SortKind} {lt : Nat → Nat → Bool}
end
noncomputable def tI (g : List Int) : T := .tup (iT g)
section
end
section
variable {X : Cx}
end
end L2
namespace L2
open PySem PySem.Spec PyProof.Rows
variable {A : Around} {X : Cx} {prog : Program} {s : Shared} {E : Value → Shared → Prop} {w : World}
theorem zpe {ts : List T} (h : ∀ t ∈ ts, (toD t).canLay0 = true) : PyData.canLayAll0 (kt ts) = true := by
 induction ts with
 | nil => rfl
 | cons t ts ih =>
   unfold kt;simp only [PyData.canLayAll0, bu];exact ⟨h t ao, ih fun t' h' => h t' (aq _ h')⟩
section
open Classical in
end
section
end
section
end
section
end
section
end
section
end
end L2
namespace L2
open PySem PySem.Spec PyProof.Rows PySem.W
structure Ord (n : Nat) (lt : Nat → Nat → Bool) : Prop where
 irr : ∀ i, lt i i = false
 tr : ∀ i j k, lt i j = true → lt j k = true → lt i k = true
 tot : ∀ i j, i < n → j < n → i ≠ j → lt i j = true ∨ lt j i = true
section
variable {n : Nat} {lt : Nat → Nat → Bool}
end
section
variable {X : Cx}
end
end L2
namespace L2
open PySem PySem.Spec PyProof.Rows
theorem zbw : ∀ {us : List Value} {ns : List Int}, IntsAre us ns → yn (ns.map V.int) us
 | _, _, .nil => .nil
 | _, _, .cons _ _ r => .cons ⟨_, rfl⟩ (zbw r)
section
variable {X : Cx}
end
end L2
namespace L2
open PySem PySem.Spec PyProof.Rows PySem.W
variable {A : Around} {es : Array DictEntry} {s : Shared} {E : Value → Shared → Prop}
section
variable {prog : Program} {w : World} {d it : Addr} {ep i : Nat}
end
section
variable {X : Cx}
end
end L2
namespace L2
open PySem PySem.Spec PyProof.Rows
variable {f : Addr} {A : Around} {X : Cx} {e : Expr} {base : Heap} {H₀ : Hp} {pins pins' : List (Addr × Obj)} {fp : List Addr} {outer : List Env} {es ifs : List Expr} {cap : List Nat} {N : List Str} {pos : Pos} {P prog : Program} {K : PySem.W.Frag} {R : Result → Shared → Prop} {scope : Scope} {s s' s₀ : Shared} {qual : Str} {mg : Str → Option Value} {te : TE} {cd : Value} {E Q : Value → Shared → Prop} {w : World}
section
set_option maxRecDepth 8000 in
end
section
end
section
end
theorem big_le {n : Nat} (h : n ≤ 20000) : n ≤ sizeLine := bp h (by decide)
section
end
theorem zfo : ∀ {xs : List Str} {us : List Value}, yn (xs.map V.str) us → ∃ l : List (Str × Tok), us = strValues l ∧ l.map (fun x => x.1) = xs
 | [], _, r => by
   cases r;exact ⟨[], rfl, rfl⟩
 | x :: xs, _, r => by
   cases r with
   | cons a b =>
     obtain ⟨t, rfl⟩ := a;obtain ⟨l, rfl, e⟩ := zfo b;exact ⟨(x, t) :: l, rfl, by rw [bh, e]⟩
theorem Ke : ∀ (n : Nat) (xs : List Str), yn (xs.map V.str) (strsFrom n xs)
 | _, [] => .nil
 | n, x :: xs => .cons ⟨_, rfl⟩ (Ke (n + 1) xs)
noncomputable def zrf : V → List V → Hp → VK → Prop := fun x vs H Q => ∃ sep p texts, x = .str sep ∧ vs = [.ref p] ∧ H p = some (.lst (texts.map V.str)) ∧ JoinOk sep texts = true ∧ Q (.str (PySem.Txt.join sep texts)) H
noncomputable def zjk : V → List V → Hp → VK → Prop := fun x vs H Q => ∃ a b, x = .str a ∧ vs = [.str b] ∧ (b.length == 0) = false ∧ a.length ≤ sizeLine ∧ (PySem.Txt.split a b).length ≤ sizeLine ∧ ∀ l H', Same H H' → H l = none → H' l = some (.lst ((PySem.Txt.split a b).map V.str)) → Q (.ref l) H'
noncomputable def zmh : V → List V → Hp → VK → Prop := fun x vs H Q => ∃ a b, x = .str a ∧ vs = [.str b] ∧ Q (.bl (PySem.Txt.startswith a b)) H
section
theorem Wm : MtR X "str.join" zrf := by
 intro pins s σ H x xs v us Q I rx rv h;obtain ⟨sep, p, texts, rfl, rfl, hp, hj, q⟩ := h;obtain ⟨t, rfl⟩ := rx;obtain ⟨u, rfl, ru⟩ := j6 rv;cases (show u = Value.ref p from ru);obtain ⟨hz, its, n, r, ho⟩ := (show yw X.prog X.w H s.heap p (.lst (texts.map V.str)) from I.hok p _ hp)
 obtain ⟨l, rfl, hl⟩ := zfo r;exact SC.join (l := l) ⟨_, ho, rfl, n, rfl⟩ hl hj fun t' k => ⟨.str _, H, I.kept (t' := k) (h' := s.heap) fun b o e => e, ⟨_, rfl⟩, q⟩
theorem zhg : MtR X "str.startswith" zmh := by
 intro pins s σ H x xs v us Q I rx rv h;obtain ⟨a, b, rfl, rfl, q⟩ := h;obtain ⟨t, rfl⟩ := rx;obtain ⟨u, rfl, t2, rfl⟩ := j6 rv;exact SC.startswith ⟨.bl _, H, I, rfl, q⟩
theorem Jb : MtR X "str.split" zjk := by
 intro pins s σ H x xs v us Q I rx rv h;obtain ⟨a, b, rfl, rfl, hb, ha, hn, q⟩ := h;obtain ⟨t, rfl⟩ := rx;obtain ⟨u, rfl, t2, rfl⟩ := j6 rv;have hT : s.TypeIs (.str a t) "str" := typeIs_str s a t;have hnone := I.hok.fresh (ai s.heap.objs.size);have self1 : ∀ {x : Str}, PySem.Txt.split a b = [a] → ∀ {k : Nat} {us : Array Value} {n : Nat}, us = #[.str a t] → EP X pins σ Q (.ref s.heap.objs.size) { s with heap := s.heap.push { cls := .type "list", data := .seq us n }, toks := k } := fun {_} e {k us n} eu => by
  subst eu;refine ⟨.ref s.heap.objs.size, _, I.laid (a := s.heap.objs.size) (o := .lst ((PySem.Txt.split a b).map V.str)) (t' := k) (fun c o e => ap _ e) (ai _) ⟨by rw [ae]; exact hn, [.str a t], n, ?_, bv _ rfl⟩, rfl, q _ _ (Same.new hnone _) hnone zf⟩;rw [e];exact .cons ⟨t, rfl⟩ .nil
 by_cases c1 : (decide (a.length < b.length) || decide (Builtin.Str.strKind a < Builtin.Str.strKind b)) = true
 · refine call_meets F.slot_str_split hT F.entry_str_split (F.args_str_split_2 _ _) (meets_str_split_cannot_occur a b t t2 c1) ?_;exact self1 (x := a) (by unfold PySem.Txt.split; rw [if_pos c1]) rfl
 have c1 : (decide (a.length < b.length) || decide (Builtin.Str.strKind a < Builtin.Str.strKind b)) = false := by simpa using c1
 by_cases c2 : (Builtin.Str.occurrences a b 0 a.length (a.length + 1)).isEmpty = true
 · refine call_meets F.slot_str_split hT F.entry_str_split (F.args_str_split_2 _ _) (meets_str_split_not_found a b t t2 c1 hb c2) ?_;exact self1 (x := a) (by unfold PySem.Txt.split; rw [if_neg (by rw [c1]; decide), if_pos c2]) rfl
 have c2 : (Builtin.Str.occurrences a b 0 a.length (a.length + 1)).isEmpty = false := by simpa using c2
 have e : PySem.Txt.split a b = Builtin.Str.partsBetween a (Builtin.Str.occurrences a b 0 a.length (a.length + 1)) b.length := by
  unfold PySem.Txt.split;rw [if_neg (by rw [c1]; decide), if_neg (by rw [c2]; decide)]
 refine call_meets F.slot_str_split hT F.entry_str_split (F.args_str_split_2 _ _) (meets_str_split_sep a b t t2 c1 hb c2 ha (by rw [← e]; exact hn)) ?_;rw [← e];refine ⟨.ref s.heap.objs.size, _, I.laid (a := s.heap.objs.size) (o := .lst ((PySem.Txt.split a b).map V.str)) (fun c o e => ap _ e) (ai _) ⟨by rw [ae]; exact hn, _, _, Ke _ _, bv _ rfl⟩, rfl, q _ _ (Same.new hnone _) hnone zf⟩
end
abbrev TJ := Str → TE
section
variable {e1 e2 : Expr} {t : TJ}
end
section
variable {j k : Nat} {p0 p1 p2 : Pos}
end
section
variable {iter elt tg : Expr} {t : TE} {own : List Str}
end
section
variable {M : Model} {env : Env} {L a T : Addr} {oe oT : Obj} {vs ts : Array Value} {m : Value} {Q : Unit → Shared → Prop}
theorem zbd (hf : env.frame = some L) (he : s.heap.get? a = some oe) (hd : oe.data = .fields vs) (h1 : vs[1]? = some (.ref T)) (hTa : T ≠ a) (hT : s.heap.get? T = some oT) (hdT : oT.data = .fields ts) (h3 : ts[3]? = some m) (hm : m ≠ rawInt L)
  (h : wpAny M A (leaving env (.ref a)) Q E { s with heap := s.heap.update T (Obj.mapFields (·.setIfInBounds 3 .none)) }) : wpAny M A (leaving env (.ref a)) Q E s := by
 intro Γ p hΓ;have g := h Γ p hΓ;have hsz : 3 < ts.size := (Array.getElem?_eq_some_iff.mp h3).1;have ea : (s.heap.update T (Obj.mapFields (·.setIfInBounds 3 .none))).get? a = some oe := (Heap.get?_update_other _ _ hTa).trans he;have eT : (s.heap.update T (Obj.mapFields (·.setIfInBounds 3 .none))).get? T = some (Obj.mapFields (·.setIfInBounds 3 .none) oT) := Heap.get?_update_self _ hT (Obj.isFreed_of_fields (Obj.data_mapFields hdT _));unfold leaving noteFrame at g ⊢;simp only [hf] at g ⊢;rw [Sem.wp_bind'] at g ⊢;rw [Sem.wp_bind', wp_field_iff] at g ⊢;obtain ⟨a', oe', vs', x, e', ha', hd', h1', g⟩ := g;cases e';rw [show ({ s with heap := s.heap.update T (Obj.mapFields (·.setIfInBounds 3 .none)) } : Shared).heap.get? a = some oe from ea] at ha';cases ha';rw [hd] at hd';cases hd';rw [h1] at h1';cases h1';refine ⟨a, oe, vs, .ref T, rfl, he, hd, h1, ?_⟩;have n1 : (Value.ref T != Value.none) = true := by simp
 rw [if_pos n1] at g ⊢;rw [Sem.wp_bind', wp_field_iff] at g ⊢;obtain ⟨T', oT', ts', y, e', hT', hdT', h3', g⟩ := g;cases e';rw [show ({ s with heap := s.heap.update T (Obj.mapFields (·.setIfInBounds 3 .none)) } : Shared).heap.get? T = _ from eT] at hT';cases hT';rw [Obj.data_mapFields hdT] at hdT';cases hdT';have ey : y = .none := by
  rw [Array.getElem?_setIfInBounds_self_of_lt hsz] at h3';exact (Option.some.inj h3').symm
 subst ey;refine ⟨T, oT, ts, m, rfl, hT, hdT, h3, ?_⟩;have n2 : ¬ ((Value.none == rawInt L) = true) := by simp [rawInt]
 have n3 : ¬ ((m == rawInt L) = true) := fun z => hm (beq_iff_eq.mp z);rw [if_neg n2] at g;rw [if_neg n3];rw [Sem.wp_bind', wp_setField_iff] at g ⊢;obtain ⟨T', oT', ts', e', _, _, _, g⟩ := g;cases e';refine ⟨T, oT, ts, rfl, hT, hdT, hsz, ?_⟩;have tw := Heap.update_setField_twice s.heap T 3 .none .none;dsimp only at g;rw [tw] at g;exact g
theorem zc7 (hf : env.frame = some L) (he : s.heap.get? a = some oe) (hd : oe.data = .fields vs) (h1 : vs[1]? = some (.ref T)) (hT : s.heap.get? T = some oT) (hdT : oT.data = .fields ts) (h3 : ts[3]? = some (rawInt L))
  (h : Q () { s with heap := s.heap.update T (Obj.mapFields (·.setIfInBounds 3 .none)) }) : wpAny M A (leaving env (.ref a)) Q E s := by
 unfold leaving;exact aa (wpAny_noteFrame_inFlight hf he hd h1 hT hdT h3 (wpAny_setFlight_none he hd h1 hT hdT (Array.getElem?_eq_some_iff.mp h3).1 h))
end
theorem Ky {h h' base base' : Heap} : ∀ {l : List Env}, h.FunFrames base l → (∀ b ∈ frs l, base'.get? b = none) → (∀ b ∈ frs l, ∀ o, h.get? b = some o → (∀ vs, o.data ≠ .fields vs) → ∃ sl, h'.get? b = some { o with slots := sl }) → h'.FunFrames base' l
 | [], _, _, _ => trivial
 | env :: r, hl, k, kk => by
   obtain ⟨h1, ⟨L, o, h2, h3, h4, h5⟩, h6⟩ := hl;have hm : L ∈ frs (env :: r) := by
    unfold frs;rw [List.filterMap_cons, h2];exact ao
   have ht : ∀ b, b ∈ frs r → b ∈ frs (env :: r) := fun b hb => by
    unfold frs;rw [List.filterMap_cons, h2];exact aq _ hb
   obtain ⟨sl, e⟩ := kk L hm o h4 h5;exact ⟨h1, ⟨L, _, h2, k L hm, e, h5⟩, Ky h6 (fun b hb => k b (ht b hb)) fun b hb => kk b (ht b hb)⟩
section
variable {s2 : Shared} {H2 : Hp} {E : XK} {σ : St}
 {own : List Str} {csc : Scope} {C : Addr}
theorem zle {σ' : St} {H' : Hp} (I : Inv X pins σ H2 s2) (fo : ∀ b ∈ fp, W6 X pins H2 b) (J : Inv (y6 X own cap csc C fp s2 H2) pins' σ' H' s') : Inv X pins σ H' s' := by
 refine I.call' (ch := fp) J.os J.base J.hok J.bare fun b hb => ?_;obtain ⟨f0, f1, f2, f3, f4, f5⟩ := fo b hb;exact ⟨f3, f1, f4, f5⟩
theorem zlf {acc e : Value} (I : Inv (vn (CXo P w) P w K mg base N qual scope f cd A outer s₀ H₀ E) pins σ H2 s2) (fo : ∀ b ∈ fp, W6 (vn (CXo P w) P w K mg base N qual scope f cd A outer s₀ H₀ E) pins H2 b)
  (hx : zd4 (y6 (vn (CXo P w) P w K mg base N qual scope f cd A outer s₀ H₀ E) own cap csc C fp s2 H2) E e s') :
  notedBy (model P w) (A.deeper (envOfC qual scope s₀.heap.objs.size f cd)) (compEnvC csc (clo (envOfC qual scope s₀.heap.objs.size f cd) csc.names []) C (envOfC qual scope s₀.heap.objs.size f cd))
   (fun x s'' => compPost (model P w) (A.deeper (envOfC qual scope s₀.heap.objs.size f cd)) (vn (CXo P w) P w K mg base N qual scope f cd A outer s₀ H₀ E).xe none Q acc C (.error x) s'') e s' := by
 obtain ⟨pins', σ', H1, s1, J, hx⟩ := hx;obtain ⟨a, Cc, T0, H', rfl, fl, na, nT, hna, hnT, os, bare, un, hok, q⟩ := hx;obtain ⟨hh, g, d, t, os'⟩ := s';obtain rfl : os' = s1.os := os;have J' : Inv (y6 (vn (CXo P w) P w K mg base N qual scope f cd A outer s₀ H₀ E) own cap csc C fp s2 H2) pins' σ' H' ⟨hh, g, d, t, s1.os⟩ := J.call (h' := hh) (g' := g) (d' := d) (t' := t) (ch := []) un hok bare (fun b z => absurd z (by simp));have I' := zle I fo J';obtain ⟨oe, vs, oT0, ts0, a0, b1, b2, b3, b4, b5, b6, b7, b8⟩ := id fl;have hl : hh.FunFrames base (envOfC qual scope s₀.heap.objs.size f cd :: outer) := I'.stack;have hf : (envOfC qual scope s₀.heap.objs.size f cd).frame = some s₀.heap.objs.size := rfl;have fly : Heap.FlyingW (PySem.W.hideAll hh (a :: T0 :: frs (envOfC qual scope s₀.heap.objs.size f cd :: outer))) (envOfC qual scope s₀.heap.objs.size f cd :: outer) a (.ref Cc) a0 hh :=
  ⟨fun b o z => PySem.W.of_hideAll _ z, PySem.W.hideAll_none _ ao, jq hl fun b hb => PySem.W.hideAll_none _ (aq _ (aq _ hb)),
   ⟨oe, vs, T0, oT0, ts0, b1, b2, b3, b4, PySem.W.hideAll_none _ (aq _ ao), b5, b6, b7, b8⟩⟩
 show wpAny (model P w) _ (noteFrame (.ref a) (envOfC qual scope s₀.heap.objs.size f cd)) _ _ _;refine wpAny_looks_onW (s := ⟨hh, g, d, t, s1.os⟩) I'.ok.frames hf fly fun h2 held u2 => ?_;obtain ⟨c1, c2, c3, oe', vs', T', oT', ts', d1, d2, d3, d4, d5, d6, d7, d8, d9⟩ := held;obtain ⟨m, hns, _⟩ := id J'.loc;have hns : hh.Ns C m := hns;have hns2 := u2.ns hns;obtain ⟨oC1, es1, ep1, gC1, dC1, _⟩ := id hns;obtain ⟨oC2, es2, ep2, gC2, dC2, _⟩ := id hns2;have nCa : a ≠ C := fun z => by rw [← z, b1] at gC1; cases gC1; rw [b3] at dC1; cases dC1
 have nCT : T' ≠ C := fun z => by rw [← z, d7] at gC2; cases gC2; rw [d8] at dC2; cases dC2
 have hCs : s₀.heap.get? C = none := by
  cases z : s₀.heap.get? C with
  | none => rfl
  | some o => exact absurd (br (al z) (bp I.sz (show s2.heap.objs.size ≤ C from J'.ok.above))) (cj _)
 have hCf : C ∉ frs (envOfC qual scope s₀.heap.objs.size f cd :: outer) := fun z => by
  obtain ⟨_, o, ho, _⟩ := I.stack.mem z;exact absurd (br (al ho) (show s2.heap.objs.size ≤ C from J'.ok.above)) (cj _)
 have noneH : ∀ {b : Addr}, hh.get? b = none → H' b = none ∧ s₀.heap.get? b = none := fun {b} e => by
  refine ⟨?_, ?_⟩
  · cases z : H' b with
    | none => rfl
    | some o =>
      obtain ⟨o', e'⟩ := yw.at (I'.hok b o z)
      rw [e] at e'; cases e'
  · cases z : s₀.heap.get? b with
    | none => rfl
    | some o =>
      obtain ⟨o', e'⟩ := (show Un (frs outer) [] H₀ H' s₀.heap hh from I'.base).there b o z (by simp);rw [e] at e'; cases e'
 have none0 : ∀ {b : Addr}, s1.heap.get? b = none → s₀.heap.get? b = none := fun {b} e => by
  cases z : s₀.heap.get? b with
  | none => rfl
  | some o =>
    obtain ⟨o', e'⟩ := (show Un (frs outer) [] H₀ H2 s₀.heap s2.heap from I.base).there b o z (by simp);have nf : b ∉ fp := fun hb => by
     rcases (fo b hb).2.2.2.1 with y | y
     · exact absurd y (by simp [vn])
     · exact absurd (br (al z) y) (cj _)
    obtain ⟨o2, e2⟩ := (show Un (frs (envOfC qual scope s₀.heap.objs.size f cd :: outer)) fp H2 H1 s2.heap s1.heap from J.base).there b o' e' nf;rw [e] at e2; cases e2
 have frN : ∀ b ∈ frs (envOfC qual scope s₀.heap.objs.size f cd :: outer), ∀ o, hh.get? b = some o → ∀ vs, o.data ≠ .fields vs := fun b hb o z => by
  obtain ⟨_, o2, ho2, hn2⟩ := hl.mem hb;rw [z] at ho2;cases ho2;exact hn2
 have hT'new : hh.get? T' = none ∨ T' = T0 := by
  cases z : hh.get? T' with
  | none => exact .inl rfl
  | some o =>
    by_cases hm : T' ∈ a :: T0 :: frs (envOfC qual scope s₀.heap.objs.size f cd :: outer)
    · rcases ag.mp hm with y | y
      · exact absurd y d6
      · rcases ag.mp y with y | y
        · exact .inr y
        · obtain ⟨sl, e2⟩ := u2 T' o z (frN T' y o z);rw [d7] at e2;cases e2;exact absurd d8 (frN T' y o z _)
    · have := PySem.W.hideAll_get _ z hm;rw [d5] at this;cases this
 have hT'H : H' T' = none ∧ s₀.heap.get? T' = none := by
  rcases hT'new with z | z
  · exact noneH z
  · rw [z]; exact ⟨hnT, none0 nT⟩
 have hns2' : (⟨h2, g, d, t, s1.os⟩ : Shared).heap.Ns C m := hns2;refine ⟨m, hns2', fun h3 hs3 cenv hce => ?_⟩;have hs3 : Heap.SameBut C h2 h3 := hs3;have a3 : h3.get? a = some oe' := (hs3.2 a nCa).trans d1;have t3 : h3.get? T' = some oT' := (hs3.2 T' nCT).trans d7;have sz3 : 3 < ts'.size := (Array.getElem?_eq_some_iff.mp d9).1;have n1 : (Value.ref T' != Value.none) = true := by simp
 have n0 : ¬ ((Value.ref T' == Value.none) = true) := by simp
 have fl5 : zbu (h3.update T' (Obj.mapFields (·.setIfInBounds 3 .none))) a (.ref Cc) T' :=
  ⟨oe', vs', _, _, a0, (Heap.get?_update_other _ _ d6).trans a3, d2, d3, d4, d6, Heap.get?_update_self _ t3 (Obj.isFreed_of_fields (Obj.data_mapFields d8 _)), Obj.data_mapFields d8 _, by rw [Array.getElem?_setIfInBounds_self_of_lt sz3]⟩
 have k5 : ∀ b o, hh.get? b = some o → ¬ (b = a ∨ b = T0 ∨ b = C) → b ∉ frs (envOfC qual scope s₀.heap.objs.size f cd :: outer) → b ≠ T' ∧ (h3.update T' (Obj.mapFields (·.setIfInBounds 3 .none))).get? b = some o := fun b o z n hb => by
  have e2 := c1 b o (PySem.W.hideAll_get _ z fun y => (ag.mp y).elim (fun y => n (.inl y)) fun y => (ag.mp y).elim (fun y => n (.inr (.inl y))) hb);have nb : b ≠ T' := fun y => by
   rcases hT'new with x | x
   · rw [y, x] at z; cases z
   · exact n (.inr (.inl (y.trans x)))
  exact ⟨nb, (Heap.get?_update_other _ _ (ak nb)).trans ((hs3.2 b fun y => n (.inr (.inr y))).trans e2)⟩
 have f5 : ∀ b ∈ frs (envOfC qual scope s₀.heap.objs.size f cd :: outer), ∀ o, hh.get? b = some o → ∃ sl, (h3.update T' (Obj.mapFields (·.setIfInBounds 3 .none))).get? b = some { o with slots := sl } := fun b hb o z => by
  obtain ⟨sl, e2⟩ := u2 b o z (frN b hb o z);have nb : T' ≠ b := fun y => by
   rw [← y, d7] at e2;cases e2;exact frN b hb o z _ d8
  exact ⟨sl, (Heap.get?_update_other _ _ nb).trans ((hs3.2 b fun y => hCf (y ▸ hb)).trans e2)⟩
 have hZ : ∀ b, (b = a ∨ b = T0 ∨ b = C) → H' b = none ∧ s₀.heap.get? b = none := fun b hb => by
  rcases hb with rfl | rfl | rfl
  · exact ⟨hna, none0 na⟩
  · exact ⟨hnT, none0 nT⟩
  · exact ⟨J'.free, hCs⟩
 have fin : ∀ (m' : Value), (vn (CXo P w) P w K mg base N qual scope f cd A outer s₀ H₀ E).xe (.ref a) ⟨h3.update T' (Obj.mapFields (·.setIfInBounds 3 m')), g, d, t, s1.os⟩ := fun m' => by
  have a4 : (h3.update T' (Obj.mapFields (·.setIfInBounds 3 m'))).get? a = some oe' := (Heap.get?_update_other _ _ d6).trans a3;have t4 : (h3.update T' (Obj.mapFields (·.setIfInBounds 3 m'))).get? T' = some _ := Heap.get?_update_self _ t3 (Obj.isFreed_of_fields (Obj.data_mapFields d8 _));have td4 := Obj.data_mapFields d8 (·.setIfInBounds 3 m');have m4 : (ts'.setIfInBounds 3 m')[3]? = some m' := by rw [Array.getElem?_setIfInBounds_self_of_lt sz3]
  have tw := Heap.update_setField_twice h3 T' 3 m' .none;show wpAny (model P w) _ (leaving _ (.ref a)) _ _ _;by_cases hm : m' = rawInt s₀.heap.objs.size
  · refine zc7 (s := ⟨_, g, d, t, s1.os⟩) hf a4 d3 d4 t4 td4 (by rw [m4, hm]) ?_;dsimp only;rw [tw];exact Jt (s := ⟨hh, g, d, t, s1.os⟩) (Z := fun b => b = a ∨ b = T0 ∨ b = C) I' fl5 hna hT'H.1 (none0 na) hT'H.2 hZ (fun b o z n hb => (k5 b o z n hb).2) f5 q
  · refine zbd (s := ⟨_, g, d, t, s1.os⟩) hf a4 d3 d4 d6 t4 td4 m4 hm ?_;dsimp only;rw [tw];have hl5 : (h3.update T' (Obj.mapFields (·.setIfInBounds 3 .none))).FunFrames base (envOfC qual scope s₀.heap.objs.size f cd :: outer) := Ky hl (fun b hb => (hl.mem hb).1) fun b hb o z _ => f5 b hb o z;refine Je (s := ⟨h3.update T' (Obj.mapFields (·.setIfInBounds 3 .none)), g, d, t, s1.os⟩) (base := base) I'.ok.frames hl5 rfl fl5 fun h6 T6 fl6 hT6 k1 k2 => ?_;have hT6' : H' T6 = none ∧ s₀.heap.get? T6 = none := by
     rcases hT6 with z | z
     · have z : (h3.update T' (Obj.mapFields (·.setIfInBounds 3 .none))).get? T6 = none := z;by_cases hc : T6 = a ∨ T6 = T0 ∨ T6 = C
       · exact hZ _ hc
       · by_cases hb : T6 ∈ frs (envOfC qual scope s₀.heap.objs.size f cd :: outer)
         · obtain ⟨_, o2, ho2, _⟩ := hl.mem hb;obtain ⟨sl, e⟩ := f5 _ hb o2 ho2;rw [z] at e; cases e
         · cases y : hh.get? T6 with
           | none => exact noneH y
           | some o =>
             have := (k5 T6 o y hc hb).2;rw [z] at this; cases this
     · rw [z]; exact hT'H
    refine Jt (s := ⟨hh, g, d, t, s1.os⟩) (Z := fun b => b = a ∨ b = T0 ∨ b = C) I' fl6 hna hT6'.1 (none0 na) hT6'.2 hZ (fun b o z n hb => ?_) (fun b hb o z => ?_) q
    · obtain ⟨nb, e5⟩ := k5 b o z n hb;exact k1 b o e5 (fun y => n (.inl y)) nb hb
    · obtain ⟨sl, e5⟩ := f5 b hb o z;obtain ⟨sl2, e6⟩ := k2 b hb _ e5;exact ⟨sl2, e6⟩
 have step : wpAny (model P w) (A.deeper (envOfC qual scope s₀.heap.objs.size f cd)) (do setFlight (.ref a) cenv.frame; throw (Value.ref a) : Sem Value) (fun _ _ => False) (vn (CXo P w) P w K mg base N qual scope f cd A outer s₀ H₀ E).xe ⟨h3, g, d, t, s1.os⟩ := by
  refine aa ?_;unfold setFlight;refine aa (wpAny_field (s := ⟨h3, g, d, t, s1.os⟩) a3 d3 d4 ?_);rw [if_pos n1];exact wpAny_setField (s := ⟨h3, g, d, t, s1.os⟩) t3 d8 sz3 (wpAny_throw (fin _))
 unfold PySem.passOn;refine aa (wpAny_field (s := ⟨h3, g, d, t, s1.os⟩) a3 d3 d4 ?_);rw [if_neg n0];first | exact step | exact aa (aj step)
end
section
variable {fsc : Scope} {E : XK}
 {own : List Str} {tg iter elt : Expr} {wi : TI} {g : TG} {tc : TT}
theorem zo1 (S : LcScope (vn (CXo P w) P w K mg base N qual fsc f cd A outer s₀ H₀ E) own cap scope) (hi : PI (vn (CXo P w) P w K mg base N qual fsc f cd A outer s₀ H₀ E) tg iter wi)
  (hg : ∀ C fp s₂ H₂, PG (y6 (vn (CXo P w) P w K mg base N qual fsc f cd A outer s₀ H₀ E) own cap scope C fp s₂ H₂) tg g) (ht : ∀ C fp s₂ H₂, zij (y6 (vn (CXo P w) P w K mg base N qual fsc f cd A outer s₀ H₀ E) own cap scope C fp s₂ H₂) ifs tc)
  (he : ∀ C fp s₂ H₂, PE ((y6 (vn (CXo P w) P w K mg base N qual fsc f cd A outer s₀ H₀ E) own cap scope C fp s₂ H₂).wish (zd4 (y6 (vn (CXo P w) P w K mg base N qual fsc f cd A outer s₀ H₀ E) own cap scope C fp s₂ H₂) E)) elt te)
  (hs : ∀ x, foldedSetIterable iter (vn (CXo P w) P w K mg base N qual fsc f cd A outer s₀ H₀ E).env x = pure x := by intro _; rfl) : PE (vn (CXo P w) P w K mg base N qual fsc f cd A outer s₀ H₀ E) (.ListComp elt [⟨tg, iter, ifs, 0⟩] scope pos) (tLc wi g tc te own.length cap) := by
 intro pins s σ H Q I h;rw [eval_ListComp];refine wpAny_comprehension_free (use := none) (cl := clo _ scope.names []) rfl hs (kr (S.has I.ok)) S.kind S.names (thn (hi pins s σ H _ I h) fun v s1 h1 => thn h1 fun itv s2 h2 => ?_);obtain ⟨it, fp, tn, J, H2, e, I2, T, st2, f2, W, ⟨m0, w0⟩, turn⟩ := h2;subst e;refine Jf (Zw := fun X own cap scope C fp s₂ H₂ => zd4 (y6 X own cap scope C fp s₂ H₂) E) rfl S hg ht he I2 T st2 f2 w0 turn (fun D C e s' hx => zlf I2 f2 hx) fun D C pins' σ' H' s' us ys J' hC hD hDC hD' hn hl rv q => ?_;obtain ⟨m, hns, _⟩ := id J'.loc;exact ⟨m, hns, fun h' hs' => ⟨.ref D, _, Ju I2 f2 J' hs' hC hD hDC hD' hn hl rv, rfl, q D hn⟩⟩
end
noncomputable def qa {α : Type} : List α → List α
 | [] => []
 | [x] => [x]
 | x :: _ :: r => x :: qa r
noncomputable def Zm {α : Type} : List α → List α
 | [] => []
 | [_] => []
 | _ :: y :: r => y :: Zm r
noncomputable def pk2 {α : Type} : Option Int → List α → List α
 | none, xs => qa xs
 | some _, xs => Zm xs
theorem zjt : ∀ us : List Value, us.length ≤ 14 → slicePick us.toArray none none (some 2) = (qa us).toArray ∧ slicePick us.toArray (some 1) none (some 2) = (Zm us).toArray
 | [], _ | [_], _ | [_, _], _ | [_, _, _], _ | [_, _, _, _], _ | [_, _, _, _, _], _ | [_, _, _, _, _, _], _ | [_, _, _, _, _, _, _], _ | [_, _, _, _, _, _, _, _], _ | [_, _, _, _, _, _, _, _, _], _ | [_, _, _, _, _, _, _, _, _, _], _ | [_, _, _, _, _, _, _, _, _, _, _], _ | [_, _, _, _, _, _, _, _, _, _, _, _], _ | [_, _, _, _, _, _, _, _, _, _, _, _, _], _ | [_, _, _, _, _, _, _, _, _, _, _, _, _, _], _ => by with_unfolding_all exact ⟨rfl, rfl⟩
 | _ :: _ :: _ :: _ :: _ :: _ :: _ :: _ :: _ :: _ :: _ :: _ :: _ :: _ :: _ :: _, h => absurd h (by simp)
theorem Qo : ∀ {xs : List V} {us : List Value}, yn xs us → yn (qa xs) (qa us)
 | [], _, .nil => .nil
 | [_], _, .cons h .nil => .cons h .nil
 | _ :: _ :: _, _, .cons h (.cons _ r) => .cons h (Qo r)
theorem Kf : ∀ {xs : List V} {us : List Value}, yn xs us → yn (Zm xs) (Zm us)
 | [], _, .nil => .nil
 | [_], _, .cons h .nil => .nil
 | _ :: _ :: _, _, .cons _ (.cons h r) => .cons h (Kf r)
theorem K3 {α : Type} : ∀ l : List α, (qa l).length ≤ l.length
 | [] => ai _
 | [_] => ai _
 | _ :: _ :: r => by have := K3 r; simp only [qa, bi]; omega
theorem Q7 {α : Type} : ∀ l : List α, (Zm l).length ≤ l.length
 | [] => ai _
 | [_] => bd _
 | _ :: _ :: r => by have := Q7 r; simp only [Zm, bi]; omega
theorem K2 {α β : Type} (g : α → β) : ∀ l : List α, qa (l.map g) = (qa l).map g
 | [] => rfl
 | [_] => rfl
 | _ :: _ :: r => by simp only [bh, qa, K2 g r]
theorem zcu {α β : Type} (g : α → β) : ∀ l : List α, Zm (l.map g) = (Zm l).map g
 | [] => rfl
 | [_] => rfl
 | _ :: _ :: r => by simp only [bh, Zm, zcu g r]
noncomputable def zti (K : PySem.W.Frag) (te : TE) (tl : TO) : TE := fun σ H Q => te σ H fun x H1 => tl σ H1 fun l H2 => ∃ a xs, x = .ref a ∧ (l = none ∨ l = some 1) ∧ SqL K H2 a xs ∧ xs.length ≤ 14 ∧ ∀ p, H2 p = none → Q (.ref p) (upd H2 p (.lst (pk2 l xs)))
section
variable {j k : Nat} {p0 p1 p2 : Pos}
theorem zjw {lo : Option Expr} {tl : TO} (he : PE X e te) (hlo : PO X lo tl) : PE X (.Subscript e (.Slice lo none (some (.Constant (.int 2) j p1)) p2) pos) (zti X.K te tl) := by
 intro pins s σ H Q I h;refine Subscript_ (thn (he pins s σ H _ I h) fun v s1 ⟨x, H1, I1, r1, q1⟩ => ?_);refine wpAny_Slice (thn (hlo pins s1 σ H1 _ I1 q1) fun vl s0 ⟨l, H0, I0, pl, q0⟩ => ?_);obtain ⟨a, xs, rfl, hl2, hx, hl, q⟩ := q0;cases r1;rw [evalPart_none];refine aj ?_;rw [evalPart_some];refine thn ((zg : PE X (.Constant (.int 2) j p1) _) pins s0 σ H0 (fun y H2 => H2 = H0 ∧ y = .int 2) I0 ⟨rfl, rfl⟩) fun vk s2 ⟨y, H2, I2, r2, e1, e2⟩ => ?_;subst e1 e2;obtain ⟨t, rfl⟩ := r2;have I4 : Inv X pins σ H2 { s2 with heap := s2.heap.push { cls := .type "slice", data := .fields #[vl, .none, .int 2 t] } } := I2.kept (t' := s2.toks) fun b ob q => ap _ q;obtain ⟨its, r, ht, hz⟩ := I4.list hx;have hil : its.length ≤ 14 := by rw [← r.length]; exact hl
 show wpAny (model X.prog X.w) X.A (subscriptTail e (.Slice lo none (some (.Constant (.int 2) j p1)) p2) (.ref a) (.ref s2.heap.objs.size)) (EP X pins σ Q) X.xe { s2 with heap := s2.heap.push { cls := .type "slice", data := .fields #[vl, .none, .int 2 t] } };refine tail_any (ops := [.ref a, .ref s2.heap.objs.size]) ht.isList.typeIs slot_list_getitem.lookup ?_ (by with_unfolding_all rfl);refine wpAny_getItem_list_slice ht.isList (Heap.IsSliceOf.new ..) pl .none (.int 2 t) (by decide) ?_ (by rw [bq]; exact zw (by omega));have hpk : slicePick its.toArray l none (some 2) = (pk2 l its).toArray ∧ yn (pk2 l xs) (pk2 l its) ∧ (pk2 l xs).length ≤ 1000 := by
  rcases hl2 with rfl | rfl
  · exact ⟨(zjt its hil).1, Qo r, by have := K3 xs; show (qa xs).length ≤ _; omega⟩
  · exact ⟨(zjt its hil).2, Kf r, by have := Q7 xs; show (Zm xs).length ≤ _; omega⟩
 rw [hpk.1];exact ⟨.ref _, _, I4.laid (t' := s2.toks) (o := .lst (pk2 l xs)) (fun b ob q => ap _ q) (ai _) ⟨zw hpk.2.2, _, 0, hpk.2.1, bv _ rfl⟩, rfl, q _ (I4.hok.fresh (ai _))⟩
noncomputable def qe (a b : Str) : Str × Str × Str := match Builtin.Str.occurrences a b 0 a.length 1 with
 | i :: _ => (Builtin.Str.strSub a 0 i, b, Builtin.Str.strSub a (i + b.length) a.length)
 | [] => (a, Str.empty, Str.empty)
theorem zkd : MtR X "str.partition" (fun x xs H Q => ∃ a b, x = .str a ∧ xs = [.str b] ∧ (b.length == 0) = false ∧ a.length ≤ sizeLine ∧ ∀ p H', Same H H' → H p = none → H' p = some (.tup [.str (qe a b).1, .str (qe a b).2.1, .str (qe a b).2.2]) → Q (.ref p) H') := by
 intro pins s σ H x xs v us Q I rx rv h;obtain ⟨a, b, rfl, rfl, hb, ha, q⟩ := h;obtain ⟨t, rfl⟩ := rx;obtain ⟨u, rfl, t2, rfl⟩ := j6 rv;have hnone := I.hok.fresh (ai s.heap.objs.size);refine call_meets F.slot_str_partition (typeIs_str s a t) F.entry_str_partition (F.args_str_partition_2 _ _) (meets_str_partition a b t t2 hb ha) ?_;cases ho : Builtin.Str.occurrences a b 0 a.length 1 with
 | nil =>
   have e : qe a b = (a, Str.empty, Str.empty) := by unfold qe; rw [ho]
   rw [e] at q;exact ⟨.ref s.heap.objs.size, _, I.laid (a := s.heap.objs.size) (o := .tup [.str a, .str Str.empty, .str Str.empty]) (fun c o e => ap _ e) (ai _) ⟨by show 3 ≤ sizeLine; decide, _, .cons ⟨_, rfl⟩ (.cons ⟨_, rfl⟩ (.cons ⟨_, rfl⟩ .nil)), ⟨_, bv _ rfl, rfl, _, rfl⟩, NoD.push⟩, rfl, q _ _ (Same.new hnone _) hnone zf⟩
 | cons i r =>
   have e : qe a b = (Builtin.Str.strSub a 0 i, b, Builtin.Str.strSub a (i + b.length) a.length) := by unfold qe; rw [ho]
   rw [e] at q;exact ⟨.ref s.heap.objs.size, _, I.laid (a := s.heap.objs.size) (o := .tup [.str (Builtin.Str.strSub a 0 i), .str b, .str (Builtin.Str.strSub a (i + b.length) a.length)]) (fun c o e => ap _ e) (ai _) ⟨by show 3 ≤ sizeLine; decide, _, .cons ⟨_, rfl⟩ (.cons ⟨_, rfl⟩ (.cons ⟨_, rfl⟩ .nil)), ⟨_, bv _ rfl, rfl, _, rfl⟩, NoD.push⟩, rfl, q _ _ (Same.new hnone _) hnone zf⟩
theorem zke : MtR X "str.lower" (fun x xs H Q => ∃ a, x = .str a ∧ xs = [] ∧ Builtin.Str.tooLong (PySem.Txt.lower a).length = false ∧ Q (.str (PySem.Txt.lower a)) H) := by
 intro pins s σ H x xs v us Q I rx rv h;obtain ⟨a, rfl, rfl, hf, q⟩ := h;obtain ⟨t, rfl⟩ := rx;cases rv;exact SC.lower hf ⟨.str _, H, I.tok _, ⟨_, rfl⟩, q⟩
theorem zen : OpR X (binaryOp .Mult) (fun x y H Q => ∃ (i : Str) (n : Int), x = .str i ∧ y = .int n ∧ 2 ≤ n ∧ n ≤ 100 ∧ 1 ≤ i.length ∧ i.length ≤ 100 ∧ (⟨(List.replicate n.toNat i.cps).foldl (· ++ ·) #[]⟩ : Str).length ≤ sizeLine ∧ Q (.str ⟨(List.replicate n.toNat i.cps).foldl (· ++ ·) #[]⟩) H) := by
 intro pins s σ H x y v u Q I rx ry h;obtain ⟨i, n, rfl, rfl, h2, h100, l1, l100, hfin, q⟩ := h;obtain ⟨t, rfl⟩ := rx;obtain ⟨t', rfl⟩ := ry;have hn1 : ¬ n < 1 := by omega
 have hlen : i.length * n.toNat ≤ 10000 := bp (Nat.mul_le_mul l100 (show n.toNat ≤ 100 by omega)) (by decide);have htl : Builtin.Str.tooLong (i.length * n.toNat) = false := by
  unfold Builtin.Str.tooLong;have h16 : 10000 ≤ sizeLine := by decide
  exact bn (by omega)
 refine PySem.P.mul_str (by rw [bn (by omega), bn (by omega)]; rfl) (fun _ _ hh => ?_) (fun _ _ => htl) ?_
 · have : (100 : Int) ≤ (2 ^ 63 - 1) / n := Int.le_ediv_of_mul_le (by omega) (by omega);omega
 · have hne : (n == 1 || i.length == 0) = false := by
    have a1 : (n == 1) = false := beq_eq_false_iff_ne.mpr (by omega);have a2 : (i.length == 0) = false := beq_eq_false_iff_ne.mpr (by omega);rw [a1, a2]; rfl
   rw [if_neg hn1, if_neg (by rw [hne]; decide)];exact ⟨hfin, ⟨.str _, H, I.tok _, ⟨_, rfl⟩, q⟩⟩
end
end L2
namespace L2
open PySem PySem.Spec PyProof.Rows PySem.W
variable {A : Around} {s : Shared} {E : Value → Shared → Prop}
section
variable {prog : Program} {w : World} {K : Type} [DecidableEq K] (knd : KeyKind prog w K)
inductive NIts (h : Heap) : List (List K) → List Value → Prop
 | nil : NIts h [] []
 | cons {k : List K} {a : Addr} {ks : List (List K)} {vs : List Value} : IsTupleKey knd h k a → NIts h ks vs → NIts h (k :: ks) (.ref a :: vs)
variable {knd}
end
abbrev ztx := List (List Int)
variable {kvs : List (ztx × V)} {P : Program}
section
variable {w : World} {H H' : Hp} {d : Addr}
end
section
variable {X : Cx} {o i e value : Expr} {pos pos' tpos : Pos} {td ty tv : TE}
end
end L2
namespace L2
open PySem PySem.Spec PyProof.Rows
variable {a b it t t1 t2 : Addr} {A : Around} {a1 a2 its : Array Value} {X : Cx} {e : Expr} {h : Heap} {OK : Heap → Prop} {H : Hp} {pins : List (Addr × Obj)} {kvs : List (Str × V)} {elts es : List Expr} {cap : List Nat} {N : List Str} {xs zs : List V} {i : Nat} {Q : Option Value → Shared → Prop} {pos : Pos} {P prog : Program} {K : PySem.W.Frag} {R : Result → Shared → Prop} {s : Shared} {σ : St} {te : TE} {g : TG} {tc : TT} {E : Value → Shared → Prop} {w : World}
section
variable {h' : Heap}
end
section
end
section
theorem Kb {v : Value} (hit : s.heap.IsListIter it t i) (ht : s.heap.IsList t its) (hv : its[i]? = some v)
  (k : ∀ g, g.IsListIter it t (i + 1) → Heap.SameBut it s.heap g → Q (some v) { s with heap := g }) : wpAny (model prog w) A (Builtin.SmallTypes.nextOrEnd (.ref it)) Q E s := by
 unfold Builtin.SmallTypes.nextOrEnd;exact aa (wpAny_attempt (wpAny_nextOf_list_item hit ht hv fun g h1 h2 => aj (k g h1 h2)))
theorem Vj (hh : A.handled = none) (hit : s.heap.IsListIter it t i) (ht : s.heap.IsList t its) (hv : its[i]? = none)
  (k : ∀ g, Heap.ExtBut it s.heap g → Q none { s with heap := g }) : wpAny (model prog w) A (Builtin.SmallTypes.nextOrEnd (.ref it)) Q E s := by
 unfold Builtin.SmallTypes.nextOrEnd;refine aa (wpAny_attempt (wpAny_nextOf_list_end hh hit ht hv fun g x hx ⟨o, ho, hc⟩ => ?_));exact aa (du (T := "StopIteration") (b := true) ⟨o, ho, hc⟩ isSubtype_stop (aj (k _ hx)))
theorem zgv {z ti to it1 it2 : Addr} {v1 v2 a b : Value} (hz : vt s.heap z ti to .none) (hti : zai s.heap ti it1 it2) (hto : s.heap.get? to = some { cls := .type "tuple", data := .seq #[a, b] })
  (hi1 : s.heap.IsTupleIter it1 t1 i) (hi2 : s.heap.IsListIter it2 t2 i)
  (h1 : s.heap.IsTuple t1 a1) (h2 : s.heap.IsList t2 a2) (e1 : a1[i]? = some v1) (e2 : a2[i]? = some v2) (nd : [z, ti, to, it1, it2].Nodup) (nt : t1 ∉ [z, to, it1, it2] ∧ t2 ∉ [z, to, it1, it2])
  (k : ∀ g, vt g z ti to (rawInt s.heap.objs.size) → zai g ti it1 it2 → g.get? to = some { cls := .type "tuple", data := .seq #[v1, v2] } → g.IsTupleIter it1 t1 (i + 1) → g.IsListIter it2 t2 (i + 1) →
   g.get? s.heap.objs.size = some { cls := .type "tuple", data := .seq #[v1, v2] } → g.objs.size = s.heap.objs.size + 1 → (∀ c o, c ≠ z → c ≠ to → c ≠ it1 → c ≠ it2 → s.heap.get? c = some o → g.get? c = some o) → Q (some (.ref s.heap.objs.size)) { s with heap := g }) :
  wpAny (model prog w) A (pyNext (.ref z)) Q E s := by
 have hT : s.TypeIs (.ref z) "zip" := ⟨_, hz, rfl⟩
 simp only [cr, ag, aw, or_false, not_or, not_false_eq_true, List.nodup_nil, and_true] at nd;simp only [ag, aw, or_false, not_or] at nt;obtain ⟨⟨n1, n2, n3, n4⟩, ⟨n5, n6, n7⟩, ⟨n8, n9⟩, n10⟩ := nd;obtain ⟨⟨m1, m2, m3, m4⟩, m5, m6, m7, m8⟩ := nt;unfold pyNext;refine aa (wpAny_attempt (wpAny_callSpecial?_slot (name := Str.ofString "__next__") hT PySem.F.slot_zip_next (cy PySem.F.slot_zip_next hT PySem.F.entry_zip_next ?_ (PySem.F.args_zip_next_1 _))));obtain ⟨hp, gs, d, tk, os⟩ := s;show wpAny _ _ (field (.ref z) 2 >>= _) _ _ _;refine aa (wpAny_field hz rfl (x := .bool true) rfl ?_);show wpAny _ _ (field (.ref z) 3 >>= _) _ _ _;refine aa (wpAny_field hz rfl (x := .ref ti) rfl ?_);refine aa (wpAny_seqItems hti rfl ?_);dsimp only;refine aa ?_;unfold Builtin.SmallTypes.ownedTupleIsFree;refine aa (wpAny_field hz rfl (x := .none) rfl (aj ?_));simp only [if_true];refine aa (wpAny_rule (aa (wpAny_field hz rfl (x := .ref to) rfl ?_)));dsimp only;refine aa (wpAny_setField_rec hz (by simp) fun g1 hz1 hs1 => ?_);replace hs1 : Heap.SameBut z hp g1 := hs1;replace hz1 : vt g1 z ti to .ellipsis := hz1;refine aa ?_;have hto1 : g1.get? to = some { cls := .type "tuple", data := .seq #[a, b] } := hs1.extBut _ _ (ak n2) hto;have hi11 : g1.IsTupleIter it1 t1 i := hi1.extBut hs1.extBut (ak n3);have hi21 : g1.IsListIter it2 t2 i := hi2.extBut hs1.extBut (ak n4);have h11 : g1.IsTuple t1 a1 := h1.extBut hs1.extBut m1;have h21 : g1.IsList t2 a2 := h2.extBut hs1.extBut m5;rw [show ([Value.ref it1, Value.ref it2] : List Value).zipIdx = [(Value.ref it1, 0), (Value.ref it2, 1)] from rfl, List.forIn_cons];refine aa (aa (wpAny_onRaise ?_));show wpAny _ _ (Builtin.SmallTypes.nextOrEnd (.ref it1)) _ _ ⟨g1, gs, d, tk, os⟩;refine Ka hi11 h11 e1 fun g2 hi12 hs2 => ?_;replace hs2 : Heap.SameBut it1 g1 g2 := hs2;dsimp only;have hto2 : g2.get? to = some { cls := .type "tuple", data := .seq #[a, b] } := hs2.extBut _ _ n8 hto1;refine aa (wpAny_seqItems (s := ⟨g2, gs, d, tk, os⟩) hto2 rfl ?_);dsimp only;refine aa (wpAny_updateSeq_pair (s := ⟨g2, gs, d, tk, os⟩) hto2 fun g3 hto3 hs3 => ?_);replace hs3 : Heap.SameBut to g2 g3 := hs3;replace hto3 : g3.get? to = some { cls := .type "tuple", data := .seq #[v1, b] } := hto3;refine aa (wpAny_letGo (aj ?_));dsimp only;rw [List.forIn_cons];refine aa (aa (wpAny_onRaise ?_));show wpAny _ _ (Builtin.SmallTypes.nextOrEnd (.ref it2)) _ _ ⟨g3, gs, d, tk, os⟩;have hi23 : g3.IsListIter it2 t2 i := (hi21.extBut hs2.extBut (ak n10)).extBut hs3.extBut (ak n9);have h23 : g3.IsList t2 a2 := (h21.extBut hs2.extBut m7).extBut hs3.extBut m6;refine Kb hi23 h23 e2 fun g4 hi24 hs4 => ?_;replace hs4 : Heap.SameBut it2 g3 g4 := hs4;dsimp only;have hto4 : g4.get? to = some { cls := .type "tuple", data := .seq #[v1, b] } := hs4.extBut _ _ n9 hto3;refine aa (wpAny_seqItems (s := ⟨g4, gs, d, tk, os⟩) hto4 rfl ?_);dsimp only;refine aa (wpAny_updateSeq_pair (s := ⟨g4, gs, d, tk, os⟩) hto4 fun g5 hto5 hs5 => ?_);replace hs5 : Heap.SameBut to g4 g5 := hs5;replace hto5 : g5.get? to = some { cls := .type "tuple", data := .seq #[v1, v2] } := hto5;refine aa (wpAny_letGo (aj ?_));dsimp only;rw [List.forIn_nil];refine aj ?_;dsimp only;refine aa (wpAny_seqItems (s := ⟨g5, gs, d, tk, os⟩) hto5 rfl ?_);dsimp only;refine aa (wpAny_newTuple (s := ⟨g5, gs, d, tk, os⟩) ?_);have hz5 : vt g5 z ti to .ellipsis := hs5.extBut _ _ n2 (hs4.extBut _ _ n4 (hs3.extBut _ _ n2 (hs2.extBut _ _ n3 hz1)));have sz5 : g5.objs.size = hp.objs.size := by rw [hs5.1, hs4.1, hs3.1, hs2.1, hs1.1]
 have keep5 : ∀ c o, c ≠ z → c ≠ to → c ≠ it1 → c ≠ it2 → hp.get? c = some o → g5.get? c = some o := fun c o q1 q2 q3 q4 e => hs5.extBut c o q2 (hs4.extBut c o q4 (hs3.extBut c o q2 (hs2.extBut c o q3 (hs1.extBut c o q1 e))));have hi15 : g5.IsTupleIter it1 t1 (i + 1) := ((hi12.extBut hs3.extBut (ak n8)).extBut hs4.extBut n10).extBut hs5.extBut (ak n8);have hi25 : g5.IsListIter it2 t2 (i + 1) := hi24.extBut hs5.extBut (ak n9);have hzl : z < hp.objs.size := al hz;dsimp only;rw [sz5];have hz6 : vt (g5.push { cls := .type "tuple", data := .seq [v1, v2].toArray }) z ti to .ellipsis := ap _ hz5;have hT6 : (g5.push { cls := .type "tuple", data := .seq [v1, v2].toArray }).get? hp.objs.size = some { cls := .type "tuple", data := .seq #[v1, v2] } := by rw [← sz5]; exact bv _ rfl
 have keep6 : ∀ c o, g5.get? c = some o → (g5.push { cls := .type "tuple", data := .seq [v1, v2].toArray }).get? c = some o := fun c o e => ap _ e;have sz6 : (g5.push { cls := .type "tuple", data := .seq [v1, v2].toArray }).objs.size = hp.objs.size + 1 := by rw [db, sz5]
 show wpAny _ _ (Builtin.SmallTypes.ownedTupleHandOut (.ref z) (.ref hp.objs.size) >>= _) _ _ ⟨g5.push { cls := .type "tuple", data := .seq [v1, v2].toArray }, gs, d, tk, os⟩;generalize g5.push { cls := .type "tuple", data := .seq [v1, v2].toArray } = g6 at hz6 hT6 keep6 sz6 ⊢;refine aa ?_;unfold Builtin.SmallTypes.ownedTupleHandOut;refine aa (wpAny_setField_rec hz6 (by simp) fun g7 hz7 hs7 => ?_);replace hs7 : Heap.SameBut z g6 g7 := hs7;replace hz7 : vt g7 z ti to (rawInt hp.objs.size) := hz7;refine wpAny_setField_rec hz7 (by simp) fun g8 hz8 hs8 => ?_;replace hs8 : Heap.SameBut z g7 g8 := hs8;replace hz8 : vt g8 z ti to (rawInt hp.objs.size) := hz8;have up : ∀ c o, c ≠ z → g5.get? c = some o → g8.get? c = some o := fun c o q e => hs8.extBut c o q (hs7.extBut c o q (keep6 c o e));refine aj ⟨_, rfl, aj (k g8 hz8 ?_ (up _ _ (ak n2) hto5) ?_ ?_ ?_ ?_ fun c o q1 q2 q3 q4 e => up c o q1 (keep5 c o q1 q2 q3 q4 e))⟩
 · exact up _ _ (ak n1) (keep5 _ _ (ak n1) n5 n6 n7 hti)
 · obtain ⟨o, e, r⟩ := hi15;exact ⟨o, up _ _ (ak n3) e, r⟩
 · obtain ⟨o, e, r⟩ := hi25;exact ⟨o, up _ _ (ak n4) e, r⟩
 · exact hs8.extBut _ _ (cx hzl) (hs7.extBut _ _ (cx hzl) hT6)
 · rw [hs8.1, hs7.1, sz6]
theorem zil {z ti to it1 it2 : Addr} {a b : Value} (hh : A.handled = none) (hz : vt s.heap z ti to .none) (hti : zai s.heap ti it1 it2) (hto : s.heap.get? to = some { cls := .type "tuple", data := .seq #[a, b] })
  (hi1 : s.heap.IsTupleIter it1 t1 i) (hi2 : s.heap.IsListIter it2 t2 i)
  (h1 : s.heap.IsTuple t1 a1) (h2 : s.heap.IsList t2 a2) (e1 : a1[i]? = none) (e2 : a2[i]? = none) (nd : [z, ti, to, it1, it2].Nodup) (nt : t1 ∉ [z, to, it1, it2] ∧ t2 ∉ [z, to, it1, it2])
  (k : ∀ g, (∀ c o, c ≠ z → c ≠ it1 → c ≠ it2 → s.heap.get? c = some o → g.get? c = some o) → Q none { s with heap := g }) :
  wpAny (model prog w) A (pyNext (.ref z)) Q E s := by
 have hT : s.TypeIs (.ref z) "zip" := ⟨_, hz, rfl⟩
 simp only [cr, ag, aw, or_false, not_or, not_false_eq_true, List.nodup_nil, and_true] at nd;simp only [ag, aw, or_false, not_or] at nt;obtain ⟨⟨n1, n2, n3, n4⟩, ⟨n5, n6, n7⟩, ⟨n8, n9⟩, n10⟩ := nd;obtain ⟨⟨m1, m2, m3, m4⟩, m5, m6, m7, m8⟩ := nt;unfold pyNext;refine aa (wpAny_attempt (wpAny_callSpecial?_slot (name := Str.ofString "__next__") hT PySem.F.slot_zip_next (cy PySem.F.slot_zip_next hT PySem.F.entry_zip_next ?_ (PySem.F.args_zip_next_1 _))));obtain ⟨hp, gs, d, tk, os⟩ := s;show wpAny _ _ (field (.ref z) 2 >>= _) _ _ _;refine aa (wpAny_field hz rfl (x := .bool true) rfl ?_);show wpAny _ _ (field (.ref z) 3 >>= _) _ _ _;refine aa (wpAny_field hz rfl (x := .ref ti) rfl ?_);refine aa (wpAny_seqItems hti rfl ?_);dsimp only;refine aa ?_;unfold Builtin.SmallTypes.ownedTupleIsFree;refine aa (wpAny_field hz rfl (x := .none) rfl (aj ?_));simp only [if_true];refine aa (wpAny_rule (aa (wpAny_field hz rfl (x := .ref to) rfl ?_)));dsimp only;refine aa (wpAny_setField_rec hz (by simp) fun g1 hz1 hs1 => ?_);replace hs1 : Heap.SameBut z hp g1 := hs1;replace hz1 : vt g1 z ti to .ellipsis := hz1;refine aa ?_;have hi11 : g1.IsTupleIter it1 t1 i := hi1.extBut hs1.extBut (ak n3);have hi21 : g1.IsListIter it2 t2 i := hi2.extBut hs1.extBut (ak n4);have h11 : g1.IsTuple t1 a1 := h1.extBut hs1.extBut m1;have h21 : g1.IsList t2 a2 := h2.extBut hs1.extBut m5;rw [show ([Value.ref it1, Value.ref it2] : List Value).zipIdx = [(Value.ref it1, 0), (Value.ref it2, 1)] from rfl, List.forIn_cons];refine aa (aa (wpAny_onRaise ?_));show wpAny _ _ (Builtin.SmallTypes.nextOrEnd (.ref it1)) _ _ ⟨g1, gs, d, tk, os⟩;refine Vi hh hi11 h11 e1 fun g2 hs2 => ?_;replace hs2 : Heap.ExtBut it1 g1 g2 := hs2;dsimp only;have hz2 : vt g2 z ti to .ellipsis := hs2 _ _ n3 hz1;refine aa (wpAny_setField_rec (s := ⟨g2, gs, d, tk, os⟩) hz2 (by simp) fun g3 hz3 hs3 => ?_);replace hs3 : Heap.SameBut z g2 g3 := hs3;have hi23 : g3.IsListIter it2 t2 i := (hi21.extBut hs2 (ak n10)).extBut hs3.extBut (ak n4);have h23 : g3.IsList t2 a2 := (h21.extBut hs2 m7).extBut hs3.extBut m5;refine aa ?_;show wpAny _ _ (forIn [(Value.ref it2, 1)] PUnit.unit _ >>= _) _ _ _;refine aa ?_;rw [List.forIn_cons];refine aa ?_;dsimp only;refine aa (Vj hh hi23 h23 e2 fun g4 hs4 => ?_);replace hs4 : Heap.ExtBut it2 g3 g4 := hs4;simp only [Option.isSome_none, Bool.false_eq_true, if_false];refine aj ?_;dsimp only;rw [List.forIn_nil];refine aj (aa (wpAny_rule ?_));have keep4 : ∀ c o, c ≠ z → c ≠ it1 → c ≠ it2 → hp.get? c = some o → g4.get? c = some o := fun c o q1 q2 q3 e => hs4 c o q3 (hs3.extBut c o q1 (hs2 c o q2 (hs1.extBut c o q1 e)));unfold Builtin.SmallTypes.stopIteration;show wpAny _ _ (newExc (.type "StopIteration") [] >>= _) _ _ _;refine aa ?_;simp only [newExc, newTuple];refine aa (cz ?_ (by size_fits));refine aa (m := firstArgMember _ _) (wpAny_of_eq (a := Value.none) (by first | rfl | (simp only [firstArgMember]; rfl)) ?_);refine cz ?_ (by size_fits);simp only [raiseNew];refine aa (wpAny_handled ?_);first | rw [show A.in1.handled = none from hh] | rw [hh]
 refine aa (aj (wpAny_throw ?_));exact aa (du (T := "StopIteration") (b := true) ⟨_, bv _ rfl, rfl⟩ isSubtype_stop (aj (k _ fun c o q1 q2 q3 e => ap _ (ap _ (keep4 c o q1 q2 q3 e)))))
end
theorem zkh (ok : HOk P w H h) (e : H a = some (.lst xs)) : ∃ its : List Value, yn xs its ∧ h.IsList a its.toArray := by
 obtain ⟨_, its, n, r, t⟩ := (show yw P w H h a (.lst xs) from ok a _ e)
 exact ⟨its, r, _, t, rfl, n, rfl⟩
noncomputable def zgL (h : Heap) (t1 t2 : Addr) : Heap := ((((h.push { cls := .type "tuple_iterator", data := .fields #[.ref t1, .int 0 0] }).push { cls := .type "list_iterator", data := .fields #[.ref t2, .int 0 0] }).push { cls := .type "tuple", data := .seq #[.ref h.objs.size, .ref (h.objs.size + 1)] }).push { cls := .type "tuple", data := .seq #[.none, .none] }).push { cls := .type "zip", data := .fields #[.none, .bool false, .bool true, .ref (h.objs.size + 2), .ref (h.objs.size + 3)] }
theorem zn3 (h : Heap) (t1 t2 : Addr) : vt (zgL h t1 t2) (h.objs.size + 4) (h.objs.size + 2) (h.objs.size + 3) .none ∧ zai (zgL h t1 t2) (h.objs.size + 2) h.objs.size (h.objs.size + 1) ∧ (zgL h t1 t2).get? (h.objs.size + 3) = some { cls := .type "tuple", data := .seq #[.none, .none] } ∧
  (zgL h t1 t2).IsTupleIter h.objs.size t1 0 ∧ (zgL h t1 t2).IsListIter (h.objs.size + 1) t2 0 ∧ (zgL h t1 t2).objs.size = h.objs.size + 5 ∧ ∀ c o, h.get? c = some o → (zgL h t1 t2).get? c = some o := by
 have at' : ∀ (g : Heap) (o : Obj) (n : Nat), g.objs.size = n → o.isFreed = false → (g.push o).get? n = some o := fun g o n e f => by rw [← e]; exact bv _ f
 have sz : ∀ (g : Heap) (o : Obj) (n : Nat), g.objs.size = n → (g.push o).objs.size = n + 1 := fun g o n e => by rw [db, e]
 refine ⟨?_, ?_, ?_, ?_, ?_, ?_, fun c o e => ?_⟩
 · exact at' _ _ _ (sz _ _ _ (sz _ _ _ (sz _ _ _ (sz _ _ _ rfl)))) rfl
 · exact ap _ (ap _ (at' _ _ _ (sz _ _ _ (sz _ _ _ rfl)) rfl))
 · exact ap _ (at' _ _ _ (sz _ _ _ (sz _ _ _ (sz _ _ _ rfl))) rfl)
 · exact ⟨_, ap _ (ap _ (ap _ (ap _ (at' _ _ _ rfl rfl)))), rfl, rfl⟩
 · exact ⟨_, ap _ (ap _ (ap _ (at' _ _ _ (sz _ _ _ rfl) rfl))), rfl, rfl⟩
 · exact sz _ _ _ (sz _ _ _ (sz _ _ _ (sz _ _ _ (sz _ _ _ rfl))))
 · exact ap _ (ap _ (ap _ (ap _ (ap _ e))))
section
theorem zkb (t1 t2 : Addr) (a1 a2 : Array Value) (n1 n2 : Nat) (d1 d2 : Option Addr) (l1 l2 : Array (Option Value)) :
  Meets (Builtin.«zip.__new__» ⟨[.type "zip", .ref t1, .ref t2], [("strict", .bool true)]⟩) (fun _ R s => s.heap.get? t1 = some { cls := .type "tuple", dict := d1, data := .seq a1 n1, slots := l1 } ∧ s.heap.get? t2 = some { cls := .type "list", dict := d2, data := .seq a2 n2, slots := l2 } ∧
   R (.ok (.ret (.ref (s.heap.objs.size + 4)))) { s with heap := zgL s.heap t1 t2 }) :=
 .of_wp fun prog w A R s h => by
  obtain ⟨hp, g, d, tk, os⟩ := s;obtain ⟨hl1, hl2, h⟩ := h;have hsub := sub_zip;have hL1 : Heap.IsTuple (Shared.heap ⟨hp, g, d, tk, os⟩) t1 a1 := ⟨_, hl1, rfl, n1, rfl⟩
  have hL2 : Heap.IsList (Shared.heap ⟨hp.push { cls := .type "tuple_iterator", data := .fields #[.ref t1, .int 0 0] }, g, d, tk, os⟩) t2 a2 := ⟨_, ap _ hl2, rfl, n2, rfl⟩
  wp_walk using wpAny_pyIter_tuple hL1, wpAny_pyIter_list hL2
  refine ⟨_, rfl, ?_⟩;simp only [zgL, db, Nat.add_assoc, Nat.reduceAdd] at h ⊢;exact h
theorem zfg {Q : Value → Shared → Prop} (h1 : s.heap.IsTuple t1 a1) (h2 : s.heap.IsList t2 a2)
  (k : ∀ g, vt g (s.heap.objs.size + 4) (s.heap.objs.size + 2) (s.heap.objs.size + 3) .none → zai g (s.heap.objs.size + 2) s.heap.objs.size (s.heap.objs.size + 1) → g.get? (s.heap.objs.size + 3) = some { cls := .type "tuple", data := .seq #[.none, .none] } →
   g.IsTupleIter s.heap.objs.size t1 0 → g.IsListIter (s.heap.objs.size + 1) t2 0 → g.objs.size = s.heap.objs.size + 5 → (∀ c o, s.heap.get? c = some o → g.get? c = some o) → Q (.ref (s.heap.objs.size + 4)) { s with heap := g }) :
  wpAny (model prog w) A (call (.type "zip") [.ref t1, .ref t2] [("strict", .bool true)]) Q E s := by
 have ft := PySem.F.called_zip;obtain ⟨c, tl, hmro⟩ := ft.mro;have hmade := ft.made;have hsub := ft.sub;have hct : checkTypeCall "zip" ⟨[.ref t1, .ref t2], [("strict", .bool true)]⟩ = pure () := by kernel_rfl
 have hcn : checkBuiltinCall "zip.__new__" ⟨[.type "zip", .ref t1, .ref t2], [("strict", .bool true)]⟩ = pure () := by kernel_rfl
 obtain ⟨⟨c1, dc1, dt1, sl1⟩, hl1, hc1, n1, hd1⟩ := h1;obtain ⟨⟨c2, dc2, dt2, sl2⟩, hl2, hc2, n2, hd2⟩ := h2;replace hc1 : c1 = .type "tuple" := hc1;replace hc2 : c2 = .type "list" := hc2;replace hd1 : dt1 = .seq a1 n1 := hd1;replace hd2 : dt2 = .seq a2 n2 := hd2;subst hc1 hc2 hd1 hd2;refine wpAny_call (codeAny_of_tree ?_);show wpAny _ _ (callAny (.type "zip") _) _ _ _;refine aj ⟨Code.quiet_builtin _ (by decide +kernel), codeAny_builtin PySem.F.entry_type_call ?_⟩;rw [Around.under_plain (weight_type_call_type "zip" _ _) (units_type_call_type "zip" _ _)];have hq1 := ft.notType;have hq2 := ft.canCreate
 repeat any_goals first | assumption | wp_step
 refine codeAny_mono (codeAny_call_builtin ft.plain PySem.F.entry_zip_new (wpAny_of_eq hcn (zkb t1 t2 a1 a2 n1 n2 dc1 dc2 sl1 sl2 prog w A.in1 (wants (fun obj s₁ => obj = .ref (s.heap.objs.size + 4) ∧ s₁ = { s with heap := zgL s.heap t1 t2 }) E) s ⟨hl1, hl2, ⟨rfl, rfl⟩⟩))) fun r s₁ hr => ?_;cases r with
 | error e => exact hr
 | ok fl =>
   cases fl with
   | ret obj =>
     obtain ⟨rfl, rfl⟩ := (show obj = .ref (s.heap.objs.size + 4) ∧ s₁ = { s with heap := zgL s.heap t1 t2 } from hr)
     obtain ⟨f1, f2, f3, f4, f5, f6, f7⟩ := zn3 s.heap t1 t2;have hT : (⟨zgL s.heap t1 t2, s.gens, s.drawn, s.toks, s.os⟩ : Shared).TypeIs (.ref (s.heap.objs.size + 4)) "zip" := ⟨_, f1, rfl⟩
     have hli := ft.init.lookup;have hbi := ft.init.bind (.ref (s.heap.objs.size + 4))
     repeat any_goals first | assumption | wp_step
     refine codeAny_mono (codeAny_call_builtin ft.init.plain PySem.F.entry_object_init (ft.init.check _ _ _ _ _ _ _ _ hT (zs3 _ _ _) ?_)) (R := wants (fun r s₂ => r = .none ∧ s₂ = ⟨zgL s.heap t1 t2, s.gens, s.drawn, s.toks, s.os⟩) E) fun r₂ s₂ hr₂ => ?_
     · have hne : (some "zip.__new__" != some "object.__new__") = true := by decide
       repeat any_goals first | assumption | wp_step
       exact ⟨rfl, rfl⟩
     cases r₂ with
     | error e => exact hr₂
     | ok fl₂ =>
       cases fl₂ with
       | ret r =>
         obtain ⟨rfl, rfl⟩ := (show r = .none ∧ s₂ = _ from hr₂)
         repeat any_goals first | assumption | wp_step
         exact k _ f1 f2 f3 f4 f5 f6 f7
       | _ => exact hr₂.elim
   | _ => exact hr.elim
end
section
end
section
variable {k : Nat} {Q : VK}
end
section
noncomputable def zp9 (K : PySem.W.Frag) (a b : Addr) : It :=
 ⟨fun i H => ∃ xs ys x y, SqT K H a xs ∧ H b = some (.lst ys) ∧ xs[i]? = some x ∧ ys[i]? = some y,
  fun i H v H' => ∃ p x y, v = .ref p ∧ H p = none ∧ H' = upd H p (.tup [x, y]) ∧ (∀ xs, SqT K H a xs → xs[i]? = some x) ∧ ∀ ys, H b = some (.lst ys) → ys[i]? = some y,
  fun i H => ∃ xs ys, SqT K H a xs ∧ H b = some (.lst ys) ∧ xs.length ≤ i ∧ ys.length ≤ i⟩
theorem zgw {k1} (a b z ti to it1 it2 : Addr) (nd : [z, ti, to, it1, it2].Nodup) (na : a ∉ [z, ti, to, it1, it2]) (hb : sizeLine ≥ 2) :
  Turn P w K (.Tuple elts k1 pos) (zp9 K a b) [z, ti, to, it1, it2] z (fun i h => vt h z ti to .none ∧ zai h ti it1 it2 ∧ (∃ u v, h.get? to = some { cls := .type "tuple", data := .seq #[u, v] }) ∧ h.IsTupleIter it1 a i ∧ h.IsListIter it2 b i) where
 mem := by simp
 obj := fun i h st c hc => by
  obtain ⟨hz, hti, ⟨u, v, hto⟩, h1, h2⟩ := st;simp only [ag, aw, or_false] at hc;rcases hc with rfl | rfl | rfl | rfl | rfl
  · exact ⟨_, hz, fun v q => by
     have q' : Data.fields _ = Data.cell v := q;cases q'⟩
  · exact ⟨_, hti, fun v q => by
     have q' : Data.seq _ _ = Data.cell v := q;cases q'⟩
  · exact ⟨_, hto, fun v q => by
     have q' : Data.seq _ _ = Data.cell v := q;cases q'⟩
  · obtain ⟨o, e1, c, d⟩ := h1;exact ⟨o, e1, fun v q => by rw [d] at q; cases q⟩
  · obtain ⟨o, e1, c, d⟩ := h2;exact ⟨o, e1, fun v q => by rw [d] at q; cases q⟩
 keep := fun i h h' st k => by
  obtain ⟨hz, hti, ⟨u, v, hto⟩, ⟨o1, e1, r1⟩, o2, e2, r2⟩ := st;exact ⟨k z (by simp) _ hz, k ti (by simp) _ hti, ⟨u, v, k to (by simp) _ hto⟩, ⟨o1, k it1 (by simp) o1 e1, r1⟩, o2, k it2 (by simp) o2 e2, r2⟩
 item := by
  intro X hP hw hK hc i pins s σ H E I hf st hg;subst hP hw hK;obtain ⟨xs, ys, x, y, hxs, hys, hx, hy⟩ := hg;obtain ⟨its, rv, p, _⟩ := I.tuple hxs;obtain ⟨jts, rw', q⟩ := zkh I.hok hys;obtain ⟨u, hu, ru⟩ := rv.get hx;obtain ⟨v, hv, rvv⟩ := rw'.get hy;obtain ⟨hz, hti, ⟨u0, v0, hto⟩, hi1, hi2⟩ := st;have ff : ∀ c ∈ [z, ti, to, it1, it2], H c = none := fun c hc => (hf c hc).1;have ne : ∀ {c d : Addr} {o : HO}, H c = some o → d ∈ [z, ti, to, it1, it2] → c ≠ d := fun {c d o} e hd q => by rw [q, ff d hd] at e; cases e
  refine zgv hz hti hto hi1 hi2 p q (v1 := u) (v2 := v) (by simpa using hu) (by simpa using hv) nd ⟨fun m => ?_, fun m => ?_⟩ fun g gz gti gto gi1 gi2 gT gsz gk => ?_
  · simp only [ag, aw, or_false] at m;rcases m with m | m | m | m <;> exact na (by simp [m])
  · simp only [ag, aw, or_false] at m;rcases m with m | m | m | m <;> exact ne hys (by simp) m
  refine ⟨.ref s.heap.objs.size, rfl, zho gz fun g' gz' gs' => ?_⟩;replace gs' : Heap.SameBut z g g' := gs';have hfr : H s.heap.objs.size = none := I.hok.fresh (ai _);have hin : ∀ c ∈ [z, ti, to, it1, it2], c < s.heap.objs.size := fun c hc => by
   simp only [ag, aw, or_false] at hc;rcases hc with rfl | rfl | rfl | rfl | rfl
   · exact al hz
   · exact al hti
   · exact al hto
   · obtain ⟨o, e, _⟩ := hi1; exact al e
   · obtain ⟨o, e, _⟩ := hi2; exact al e
  have hTn : ∀ c ∈ [z, ti, to, it1, it2], s.heap.objs.size ≠ c := fun c hc => cx (hin c hc);have hk' : ∀ c o, c ∉ [z, to, it1, it2] → s.heap.get? c = some o → g'.get? c = some o := fun c o n e => by
   simp only [ag, aw, or_false, not_or] at n;exact gs'.extBut c o n.1 (gk c o n.1 n.2.1 n.2.2.1 n.2.2.2 e)
  have hT' : g'.get? s.heap.objs.size = some { cls := .type "tuple", data := .seq #[u, v] } := gs'.extBut _ _ (hTn z (by simp)) gT;have old1 : ∀ c o, H c = some o → c ∉ [z, to, it1, it2] := fun c o e m => ne e (show c ∈ [z, ti, to, it1, it2] by
   simp only [ag, aw, or_false] at m ⊢;rcases m with m | m | m | m <;> simp [m]) rfl
  have I1 : Inv X pins σ (upd H s.heap.objs.size (.tup [x, y])) { s with heap := g', toks := s.toks } := by
   refine I.step (g' := s.gens) (d' := s.drawn) (ch := [z, to, it1, it2]) (fun c hc => ?_) (fun c o n1 n2 n3 e _ => hk' c o n3 e)
    (fun c o n1 n2 n3 e _ => ⟨o.slots, hk' c o n3 e⟩) (fun c o n3 e n => ?_) (fun c o n3 e => ⟨o, hk' c o n3 e⟩)
    (fun c zs e => by rw [zk (zj e hfr)]; exact e) (fun c o zs e => by rw [zk (zj e hfr)]; exact e) (fun c ps e => ⟨#[], by rw [zk (zj e hfr), e]; simp⟩) (fun m hm => ?_) (fun c ob e => ?_) I.bare
   · obtain ⟨f0, f1, f2, f3, f4, f5⟩ := hf c (by
      simp only [ag, aw, or_false] at hc ⊢;rcases hc with hc | hc | hc | hc <;> simp [hc])
     exact ⟨f3, f1, f4, f5⟩
   · rw [zk (bo (al e))]; exact n
   · obtain ⟨o, es, ep, hoo, r⟩ := hm;refine ⟨o, es, ep, hk' _ o (fun m => ?_) hoo, r⟩;simp only [ag, aw, or_false] at m;rcases m with m | m | m | m
     · exact (hf z (by simp)).2.1 m.symm
     · exact (hf to (by simp)).2.1 m.symm
     · exact (hf it1 (by simp)).2.1 m.symm
     · exact (hf it2 (by simp)).2.1 m.symm
   · by_cases hcb : c = s.heap.objs.size
     · subst hcb;rw [zf] at e;cases e;exact ⟨by show 2 ≤ sizeLine; omega, [u, v], .cons ru (.cons rvv .nil), ⟨_, hT', rfl, _, rfl⟩, fun q hq => by
        have hq : g'.get? s.heap.objs.size = some q := hq;rw [hT'] at hq;cases hq;rfl⟩
     · rw [zk hcb] at e;refine (I.hok c ob e).stay (fun d o hc q => ?_) (fun d q => by rw [zk (zj q hfr)]; exact q) fun d zs q => by rw [zk (zj q hfr)]; exact q
       rcases hc with rfl | hc
       · exact hk' d o (old1 d _ e) q
       · exact hk' d o (old1 d _ hc) q
  refine ⟨.ref s.heap.objs.size, _, I1, rfl, ⟨_, x, y, rfl, hfr, rfl, fun zs e => by rw [← I.tuple_inj hxs e]; exact hx, fun zs e => by rw [hys] at e; cases e; exact hy⟩, ⟨gz', gs'.extBut _ _ ?_ gti, ⟨u, v, gs'.extBut _ _ ?_ gto⟩, gi1.extBut gs'.extBut ?_, gi2.extBut gs'.extBut ?_⟩, fun c hc => ?_⟩
  · simp only [cr, ag, aw, or_false, not_or] at nd; exact ak nd.1.1
  · simp only [cr, ag, aw, or_false, not_or] at nd; exact ak nd.1.2.1
  · simp only [cr, ag, aw, or_false, not_or] at nd; exact ak nd.1.2.2.1
  · simp only [cr, ag, aw, or_false, not_or] at nd; exact ak nd.1.2.2.2
  · rw [zk (ak (hTn c hc))]; exact ff c hc
 done := by
  intro X hP hw hK hc i pins s σ H E I hf st hg;subst hP hw hK;obtain ⟨xs, ys, hxs, hys, hx, hy⟩ := hg;obtain ⟨its, rv, p, _⟩ := I.tuple hxs;obtain ⟨jts, rw', q⟩ := zkh I.hok hys;obtain ⟨hz, hti, ⟨u0, v0, hto⟩, hi1, hi2⟩ := st;have ff : ∀ c ∈ [z, ti, to, it1, it2], H c = none := fun c hc => (hf c hc).1;have ne : ∀ {c d : Addr} {o : HO}, H c = some o → d ∈ [z, ti, to, it1, it2] → c ≠ d := fun {c d o} e hd q => by rw [q, ff d hd] at e; cases e
  have l1 := rv.length;have l2 := rw'.length;refine zil (I.ok.hd hc) hz hti hto hi1 hi2 p q (by simp; omega) (by simp; omega) nd ⟨fun m => ?_, fun m => ?_⟩ fun g gk => ⟨rfl, ?_⟩
  · simp only [ag, aw, or_false] at m;rcases m with m | m | m | m <;> exact na (by simp [m])
  · simp only [ag, aw, or_false] at m;rcases m with m | m | m | m <;> exact ne hys (by simp) m
  have hk' : ∀ c o, c ∉ [z, it1, it2] → s.heap.get? c = some o → g.get? c = some o := fun c o n e => by
   simp only [ag, aw, or_false, not_or] at n;exact gk c o n.1 n.2.1 n.2.2 e
  have old1 : ∀ c o, H c = some o → c ∉ [z, it1, it2] := fun c o e m => ne e (show c ∈ [z, ti, to, it1, it2] by
   simp only [ag, aw, or_false] at m ⊢;rcases m with m | m | m <;> simp [m]) rfl
  refine I.step (g' := s.gens) (t' := s.toks) (d' := s.drawn) (ch := [z, it1, it2]) (fun c hc => ?_) (fun c o n1 n2 n3 e _ => hk' c o n3 e)
   (fun c o n1 n2 n3 e _ => ⟨o.slots, hk' c o n3 e⟩) (fun _ _ _ _ n => n) (fun c o n3 e => ⟨o, hk' c o n3 e⟩)
   (fun _ _ e => e) (fun _ _ _ e => e) (fun c ps e => ⟨#[], by rw [e]; simp⟩) (fun m hm => ?_) (fun c ob e => ?_) I.bare
  · obtain ⟨f0, f1, f2, f3, f4, f5⟩ := hf c (by
     simp only [ag, aw, or_false] at hc ⊢;rcases hc with hc | hc | hc <;> simp [hc])
    exact ⟨f3, f1, f4, f5⟩
  · obtain ⟨o, es, ep, hoo, r⟩ := hm;refine ⟨o, es, ep, hk' _ o (fun m => ?_) hoo, r⟩;simp only [ag, aw, or_false] at m;rcases m with m | m | m
    · exact (hf z (by simp)).2.1 m.symm
    · exact (hf it1 (by simp)).2.1 m.symm
    · exact (hf it2 (by simp)).2.1 m.symm
  · refine (I.hok c ob e).stay (fun d o hc q => ?_) (fun d q => q) fun d zs q => q;rcases hc with rfl | hc
    · exact hk' d o (old1 d _ e) q
    · exact hk' d o (old1 d _ hc) q
 self := fun _ _ _ _ _ st h => by
  obtain ⟨hz, _⟩ := st;exact zdd hz h
end
section
noncomputable def zr1 (K : PySem.W.Frag) (ta : TA) : TI := fun σ H R => ta σ H fun vs H1 => ∃ a b xs ys, vs = [.ref a, .ref b] ∧ SqT K H1 a xs ∧ H1 b = some (.lst ys) ∧ R (zp9 K a b) H1
theorem zmk {k1 kc} {tpos kp kpos : Pos} {a b : Expr} {ta : TA} {p : Pos} (hg : Gl X "zip") (hm : X.mg "zip" = none) (ha : PA X [a, b] ta) (hs : starEach [a, b] X.env = (false, eval a X.env) :: starEach [b] X.env := by rfl) (hpl : ((backTo pos (starEach [a, b] X.env)).any (·.1)) = false := by rfl) :
  PI X (.Tuple elts k1 tpos) (.Call (.Name "zip" p) [a, b] [⟨some "strict", .Constant (.bool true) kc kp, kpos⟩] pos) (zr1 X.K ta) := by
 intro pins s σ H R I h;refine wpAny_Call_Name_kw (Yt I hg hm zlp ?_);refine PySem.W.callWith_of (P := fun _ => True) (by rw [hpl]; rfl) (fun h _ => ⟨.machine, .inr (.inl rfl), ?_⟩) ?_
 · exact fun A Q E s _ q => (show wpAny _ A (pure Keeper.machine) Q E s from aj q)
 have e0 : backTo pos (starEach [a, b] X.env) = (false, eval a X.env) :: backTo pos (starEach [b] X.env) := by rw [hs]; rfl
 rw [e0];refine evalArgs_kwB rfl ?_;rw [← e0];refine thn (ha pos pins s σ H _ I h) fun us s1 ⟨vs, H1, I1, r1, q1⟩ => ?_;obtain ⟨t1, t2, xs, ys, rfl, hx, hy, q⟩ := q1;refine kws_cons (Constant_bool (kws_nil ⟨trivial, ?_⟩));cases r1 with
 | cons ra rr =>
   cases rr with
   | cons rb rn =>
     cases rn;cases ra;cases rb;obtain ⟨its, rv, p1, _⟩ := I1.tuple hx;have hlt : t1 < s1.heap.objs.size := by
      obtain ⟨o, e, _⟩ := p1;exact al e
     obtain ⟨jts, rw', p2⟩ := zkh I1.hok hy;refine zfg p1 p2 fun g f1 f2 f3 f4 f5 f6 f7 => ?_;refine zdd f1 ?_;refine ⟨s1.heap.objs.size + 4, [s1.heap.objs.size + 4, s1.heap.objs.size + 2, s1.heap.objs.size + 3, s1.heap.objs.size, s1.heap.objs.size + 1], _, _, H1, rfl, I1.kept (t' := s1.toks) f7, zgw t1 t2 _ _ _ _ _ (by simp) (fun m => by
      have hlt : (t1 : Nat) < s1.heap.objs.size := hlt;simp only [ag, aw, or_false] at m;rcases m with m | m | m | m | m <;> first | exact Nat.not_lt.mpr (Nat.le_add_right _ _) (m ▸ hlt) | exact cj _ (m ▸ hlt)) (by rw [sizeLine_eq]; omega), ⟨f1, f2, ⟨_, _, f3⟩, f4, f5⟩, fun c hc => ?_, q⟩
     have hl : s1.heap.objs.size ≤ c := by
      simp only [ag, aw, or_false] at hc;rcases hc with rfl | rfl | rfl | rfl | rfl <;> omega
     exact I1.fpOk hl (I1.hok.fresh hl)
end
section
variable {k : Nat} {Q : VK}
theorem zm3 (hn : xs.length = zs.length) (Pv : Nat → List V → Hp → Prop) (h0 : Pv 0 [] H) (hl : ∀ i ys H, i ≤ xs.length → Pv i ys H → SqT K H a xs ∧ H b = some (.lst zs) ∧ ys.length ≤ sizeLine)
  (hs : ∀ i x z ys H p, xs[i]? = some x → zs[i]? = some z → Pv i ys H → H p = none → g (.ref p) (capσ k cap σ) (upd H p (.tup [x, z])) fun σ2 H2 => tc σ2 H2 fun b H3 => if b = true then te σ2 H3 fun y H4 => Pv (i + 1) (ys ++ [y]) H4 else Pv (i + 1) ys H3)
  (hd : ∀ ys H, Pv xs.length ys H → ∀ p, H p = none → Q (.ref p) (upd H p (.lst ys))) : zag (zp9 K a b) g tc te k cap σ H Q := by
 refine ⟨fun i m ys H => m = xs.length - i ∧ i ≤ xs.length ∧ Pv i ys H, ⟨xs.length, by simp, bd _, h0⟩, ?_⟩;rintro i m ys H ⟨rfl, hi, p⟩;obtain ⟨q1, q2, hz⟩ := hl i ys H hi p;by_cases hlt : i < xs.length
 · have hlz : i < zs.length := by omega
   refine .inr ⟨⟨xs, zs, xs[i], zs[i], q1, q2, by simp [hlt], by simp [hlz]⟩, hz, Pv (i + 1), fun ys' H' p' => ⟨xs.length - (i + 1), by omega, rfl, hlt, p'⟩, fun x H' y => ?_⟩;obtain ⟨p', x', y', rfl, hn', rfl, hx, hy⟩ := y;exact hs i x' y' ys H p' (hx xs q1) (hy zs q2) p hn'
 · have e : i = xs.length := by omega
   subst e;exact .inl ⟨⟨xs, zs, q1, q2, ai _, by omega⟩, hz, hd ys H p⟩
end
noncomputable def zfc (w : World) (l : List (Str × Tok × Value)) : List DictEntry := l.map fun x => ⟨hashStr w x.1, .str x.1 x.2.1, x.2.2⟩
noncomputable def zd3 (w : World) (K : PySem.W.Frag) (a : Addr) (kvs : List (Str × V)) : Prop :=
 (a == sysModules) = false ∧ (kvs.map (·.1)).Nodup ∧ ∃ (l : List (Str × Tok × Value)) (ep : Nat), K.lookup a = some ⟨.type "dict", none, .dict (zfc w l).toArray ep, #[]⟩ ∧ Paired (fun (p : Str × V) (q : Str × Tok × Value) => p.1 = q.1 ∧ yq p.2 q.2.2) kvs l
theorem zh2 : ∀ l : List (Str × Tok × Value), ∀ e ∈ zfc w l, ∃ k : Key, (yj P w).is k e.key = true ∧ e.hash = (yj P w).hash k := fun l e he => by
 obtain ⟨x, _, rfl⟩ := ax.mp he;exact ⟨.inr x.1, Vo x.1 x.2.1, rfl⟩
theorem Jo {P : Program} {w : World} : ∀ l : List (Str × Tok × Value), Pairs (yj P w) (zfc w l) (l.map fun x => ((Sum.inr x.1 : Key), x.2.2))
 | [] => .nil
 | x :: r => .cons (Vo x.1 x.2.1) rfl (Jo r)
theorem zf8 : ∀ {kvs : List (Str × V)} {l : List (Str × Tok × Value)}, Paired (fun (p : Str × V) (q : Str × Tok × Value) => p.1 = q.1 ∧ yq p.2 q.2.2) kvs l → KV (kvs.map fun x => ((Sum.inr x.1 : Key), x.2)) (l.map fun x => ((Sum.inr x.1 : Key), x.2.2))
 | _, _, .nil => .nil
 | _, _, .cons h t => .cons ⟨congrArg Sum.inr h.1, h.2⟩ (zf8 t)
theorem zd3.at (I : Inv X pins σ H s) (d : zd3 X.w X.K a kvs) : (a == sysModules) = false ∧ ∃ vs, KV (kvs.map fun x => ((Sum.inr x.1 : Key), x.2)) vs ∧ s.heap.DictOf (yj X.prog X.w) a vs := by
 obtain ⟨h0, nd, l, ep, hk, r⟩ := d;have rk := zf8 r;refine ⟨h0, _, rk, _, _, ep, I.kIn a _ hk, ⟨rfl, rfl, rfl⟩, rfl, fun e he => zh2 l e (by simpa using he), by simpa using Jo l, ?_⟩;rw [← rk.keys, cp];have : ((fun x : Key × V => x.1) ∘ fun x : Str × V => ((Sum.inr x.1 : Key), x.2)) = (Sum.inr : Str → Key) ∘ fun x : Str × V => x.1 := rfl;rw [this, ← cp];exact List.Pairwise.map _ (fun a b h z => h (Sum.inr.inj z)) nd
noncomputable def zog (w : World) (K : PySem.W.Frag) (td ty : TE) : TE := fun σ H Q => td σ H fun x H1 => ∃ a kvs, x = .ref a ∧ zd3 w K a kvs ∧ ty σ H1 fun y H2 => ∃ k : Str, y = .str k ∧ Q ((xz kvs k).getD .non) H2
section
variable {o f : Expr} {apos cpos : Pos} {td ty tx : TE}
theorem zby (k : Str) : ∀ kvs : List (Str × V), xz (kvs.map fun x => ((Sum.inr x.1 : Key), x.2)) (.inr k) = xz kvs k
 | [] => rfl
 | x :: r => by
   have ih := zby k r;unfold xz at ih ⊢;rw [bh, List.find?_cons, List.find?_cons, zko];by_cases h : x.1 = k
   · rw [au h]; rfl
   · rw [bn h]; exact ih
theorem zjv (ho : PE X o td) (he : PE X e ty) (m : M1 X o "get" apos e cpos) : PE X (.Call (.Attribute o "get" apos) [e] [] cpos) (zog X.w X.K td ty) := by
 intro pins s σ H Q I h;refine wpAny_Call_method m.base m.few m.line PySem.F.plainAttrs_dict PySem.F.slot_dict_get PySem.F.type_dict_get (thn (ho pins s σ H _ I h) fun u s1 ⟨x, H1, I1, rx, a, kvs, ex, d, q1⟩ => ?_);subst ex;obtain rfl : u = Value.ref a := rx;obtain ⟨hd, vs, rel, dd⟩ := d.at I1;refine ⟨dd.typeIs, fun b q => ?_, ?_⟩
 · cases q;obtain ⟨ob, _, _, h1, h2, _⟩ := dd;exact ⟨ob, h1, h2.2.1⟩
 rw [m.trees];refine Calls.callWith_builtin rfl (Calls.evalArgs_plain (Calls.spliced_cons (thn (he pins s1 σ H1 _ I1 q1) fun iv s2 ⟨y, H2, I2, ry, k, ey, q2⟩ => Calls.spliced_nil ?_)));subst ey;obtain ⟨hd, vs, rel, dd⟩ := d.at I2;refine call_meetsIn PySem.F.slot_dict_get dd.typeIs PySem.F.entry_dict_get (PySem.F.args_dict_get_2 _ _) (meets_dict_get (yj X.prog X.w) a (Wu (k := .inr k) ry) hd) ⟨_, dd.mapOf, _, H2, I2.tok _, ?_, q2⟩;rw [← zby];exact (rel.val (.inr k)).getD rfl
end
inductive Tx where
 | lit (x : Str) | var (i : Nat) | cat (a b : Tx) | lowr (a : Tx)
noncomputable def txb (N : List Str) (sc : Scope) : Nat → Expr → Option Tx
 | 0, _ => none
 | f + 1, e => match e with
   | .Constant (.str x) _ _ => some (.lit x)
   | .Name x _ => if zl2 sc x && !(x == ("__debug__" : Str)) && !(x == ("__classdict__" : Str)) then (plc x 0 N).map Tx.var else none
   | .BinOp a .Add b _ => match txb N sc f a, txb N sc f b with
     | some s, some t => some (.cat s t)
     | _, _ => none
   | .Call (.Attribute (.Name x np) m apos) [] [] cpos => if m == ("lower" : Str) && (apos.endLine == cpos.line) then (txb N sc f (.Name x np)).map Tx.lowr else none
   | _ => none
noncomputable def zl4 (N : List Str) (sc : Scope) : List Expr → Option (List Tx)
 | [] => some []
 | e :: r => match txb N sc 8 e, zl4 N sc r with
   | some t, some ts => some (t :: ts)
   | _, _ => none
inductive DenT (σ : St) : Tx → Str → Prop
 | lit {x} : DenT σ (.lit x) x
 | var {i x} : σ[i]? = some (some (.str x)) → DenT σ (.var i) x
 | cat {a b x y} : DenT σ a x → DenT σ b y → x.length + y.length ≤ sizeLine → DenT σ (.cat a b) (x ++ y)
 | lowr {a x} : DenT σ a x → Builtin.Str.tooLong (PySem.Txt.lower x).length = false → DenT σ (.lowr a) (PySem.Txt.lower x)
inductive DenL (σ : St) : List Tx → List Str → Prop
 | nil : DenL σ [] []
 | cons {t ts x xs} : DenT σ t x → DenL σ ts xs → DenL σ (t :: ts) (x :: xs)
noncomputable def tTx (t : Tx) : TE := fun σ H Q => ∃ x, DenT σ t x ∧ Q (.str x) H
noncomputable def zqd (ts : List Tx) : TA := fun σ H Q => ∃ xs, DenL σ ts xs ∧ Q (xs.map V.str) H
theorem ziu {sc : Scope} {f : Nat} {t : Tx} {env : Env} (h : txb N sc f e = some t) : starEach (e :: es) env = (false, eval e env) :: starEach es env := by
 cases f with
 | zero => cases h
 | succ f => cases e <;> first | rfl | (exact absurd h (by simp [txb]))
section
theorem zrs : ∀ (f : Nat) (e : Expr) (t : Tx), txb X.N X.env.scope f e = some t → PE X e (tTx t) := by
 intro f;induction f with
 | zero => intro e t h; cases h
 | succ f ih =>
   intro e t h;unfold txb at h;split at h
   · cases h;exact zl.weak fun σ H Q ⟨x, d, q⟩ => by cases d; exact q
   · rename_i x pos
     split at h
     · rename_i hv
       simp only [bu, Bool.not_eq_true'] at hv;cases hp : plc x 0 X.N with
       | none => rw [hp] at h; cases h
       | some i =>
         rw [hp] at h;cases h;exact (zay (i := i) (by simpa using zax (pre := []) rfl hp) (zin hv.1.1) hv.1.2 hv.2).weak fun σ H Q ⟨x, d, q⟩ => by cases d with | var e => exact ⟨_, e, q⟩
     · cases h
   · rename_i a b pos
     cases ha : txb X.N X.env.scope f a with
     | none => rw [ha] at h; cases h
     | some s =>
     cases hb : txb X.N X.env.scope f b with
     | none => rw [ha, hb] at h; cases h
     | some t2 =>
     rw [ha, hb] at h;cases h;exact (yc ym (ih a s ha) (ih b t2 hb)).weak fun σ H Q ⟨x, d, q⟩ => by cases d with | cat d1 d2 hl => exact ⟨_, d1, _, d2, _, _, rfl, rfl, hl, q⟩
   · rename_i x np m apos cpos
     split at h
     · rename_i hc
       rw [bu] at hc;obtain ⟨hm, hl⟩ := hc;have hm := beq_iff_eq.mp hm;subst hm;cases ha : txb X.N X.env.scope f (.Name x np) with
       | none => rw [ha] at h; cases h
       | some s =>
       rw [ha] at h;cases h;exact (zjx PySem.F.plainAttrs_str PySem.F.slot_str_lower PySem.F.type_str_lower zke (ih _ s ha) (by rfl) hl).weak fun σ H Q ⟨x, d, q⟩ => by cases d with | lowr d1 hl => exact ⟨_, d1, rfl, _, rfl, rfl, hl, q⟩
     · cases h
   · cases h
theorem Vy : ∀ {es : List Expr} {ts : List Tx}, zl4 X.N X.env.scope es = some ts → PA X es (zqd ts)
 | [], ts, h => by
   cases h;exact zd.weak fun σ H Q ⟨xs, d, q⟩ => by cases d; exact q
 | e :: r, ts, h => by
   unfold zl4 at h;cases h1 : txb X.N X.env.scope 8 e with
   | none => rw [h1] at h; cases h
   | some t =>
   cases h2 : zl4 X.N X.env.scope r with
   | none => rw [h1, h2] at h; cases h
   | some ts2 =>
   rw [h1, h2] at h;cases h;exact (zc (zrs 8 e t h1) (Vy h2) (ziu h1)).weak fun σ H Q ⟨xs, d, q⟩ => by cases d with | cons d1 d2 => exact ⟨_, d1, _, d2, q⟩
end
section
variable {T : String} {r d : Addr} {n : Nat} {P : Nat → Value → Prop}
theorem zo9 {R : List Value → Shared → Prop} (S : PySem.W.KdlSrc prog w T r d n P OK) (hh : A.handled = none) (hok : OK s.heap) (hn : n ≤ sizeLine)
  (h : ∀ (h' : Heap) (tk : Nat) (l : List Value), (∀ b o, s.heap.get? b = some o → h'.get? b = some o) → s.heap.objs.size < h'.objs.size → l.length = n → (∀ (j : Nat) (v : Value), l[j]? = some v → P j v) → R l { s with heap := h', toks := tk }) :
  wpAny (model prog w) A (collect (.ref r)) R E s := by
 obtain ⟨l1, l2⟩ := S.there _ hok;have g0 : (s.heap.push { cls := .type "list", data := .seq ([] : List Value).toArray }).get? s.heap.objs.size = some { cls := .type "list", data := .seq #[] } := bv _ rfl;have ok1 := S.keep _ (s.heap.push { cls := .type "list", data := .seq ([] : List Value).toArray }) hok fun b _ o e => ap _ e;have fin : ∀ (h' : Heap) (tk : Nat) (acc : Array Value) (c : Nat), (∀ b o, b ≠ s.heap.objs.size → (s.heap.push { cls := .type "list", data := .seq ([] : List Value).toArray }).get? b = some o → h'.get? b = some o) → h'.get? s.heap.objs.size = some { cls := .type "list", dict := none, data := .seq acc c, slots := #[] } → ItemsOf P acc n → R acc.toList { s with heap := h', toks := tk } := fun h' tk acc c hk hS ha =>
  h h' tk acc.toList (fun b o e => hk b o (bo (al e)) (ap _ e)) (al hS) (by rw [Array.length_toList]; exact ha.1) fun j v e => ha.2 j v (by rw [← Array.getElem?_toList]; exact e)
 unfold collect;refine aa (wpAny_runValue (codeAny_builtin entry_proto_collect' ?_));rw [Around.under_plainId PySem.F.plain_proto_collect _];refine aa (cz (aj ⟨plainId_quiet PySem.F.plain_list_iadd _, codeAny_builtin entry_list_iadd' ?_⟩));rw [Around.under_plainId PySem.F.plain_list_iadd _];refine cn (PySem.W.kdl_extend (A := A) (s := { s with heap := s.heap.push { cls := .type "list", data := .seq ([] : List Value).toArray } })
  (R := fun (q : Result) (s' : Shared) => q = .ok (.ret (.ref s.heap.objs.size)) ∧ ∃ (h' : Heap) (tk : Nat) (acc : Array Value) (c : Nat), s' = { s with heap := h', toks := tk } ∧ h'.get? s.heap.objs.size = some { cls := .type "list", dict := none, data := .seq acc c, slots := #[] } ∧ R acc.toList s')
  S hh ok1 s.heap.objs.size (cx l1) (cx l2) (.ref s.heap.objs.size) 0 g0 (fun h' tk acc c hk hS ha => ⟨rfl, h', tk, acc, c, rfl, hS, fin h' tk acc c hk hS ha⟩) hn) (fun f s' x => ?_) fun e s' x => ?_
 · cases f with
   | done f =>
     obtain ⟨e, h', tk, acc, c, rfl, hS, hR⟩ := x;cases e;exact aa (wpAny_load hS (aj hR))
   | again c₁ =>
     refine ⟨x.1, codeAny_mono x.2 fun q s₂ y => ?_⟩;obtain ⟨rfl, h', tk, acc, c, rfl, hS, hR⟩ := y;exact aa (wpAny_load hS (aj hR))
 · exact nomatch x.1
end
section
noncomputable def zot : List V → Hp → VK → Prop := fun xs H Q => ∃ (d : Addr) (kvs : List (Key × V)) (ns : List Int), xs = [.ref d] ∧ Rd H d (.dK kvs) ∧ kvs.map (·.1) = ns.map (Sum.inl : Int → Key) ∧ ns.length < 64 ∧ ∀ (ns' : List Int) l, ns'.Perm ns → ns'.Pairwise (· ≤ ·) → H l = none → Q (.ref l) (upd H l (.lst (ns'.map V.int)))
theorem Jw (hc : X.calm = true) : Zu X (.builtin "sorted") zot := by
 intro pins s σ H xs us Q I r h;obtain ⟨d, kvs, ns, rfl, hd, hns, h64, q⟩ := h;obtain ⟨u, rfl, rx⟩ := j6 r;cases rx;obtain ⟨hz, hS, vs, rel, dd⟩ := V2 I.hok hd;obtain ⟨ep, da⟩ := dd.dictAt;have hlen := rel.length;have hnl : kvs.length = ns.length := by
  have := congrArg List.length hns;rw [ae, ae] at this;exact this
 refine Calls.call_function_entry kind_sorted plain_sorted entry_sorted (args_sorted1 _) ?_;unfold Builtin.«sorted»;refine aa (m := checkCount "sorted" 1 1 _) (aj ?_);refine aa (zo9 (PySem.W.kdl_dict hS) (I.ok.hd hc) da (by rw [← hlen]; exact hz) fun h' tk l hk hsz hl hP => ?_);refine aa (wpAny_newList ?_ (by rw [hl, ← hlen]; exact hz));have hv : yn (ns.map V.int) l := zfm (by rw [ae, hl, ← hlen, hnl]) fun j x v e1 e2 => by
  obtain ⟨k, y, h1, h2⟩ := hP j v e2;rw [ay] at e1;cases e3 : ns[j]? with
  | none => rw [e3] at e1; cases e1
  | some n =>
    rw [e3] at e1;have e1 : V.int n = x := Option.some.inj e1;have e4 : (kvs.map (·.1))[j]? = some (Sum.inl n) := by rw [hns, ay, e3]; rfl
    rw [ay] at e4;cases e5 : kvs[j]? with
    | none => rw [e5] at e4; cases e4
    | some kv =>
      rw [e5] at e4;have e4 : kv.1 = Sum.inl n := Option.some.inj e4;obtain ⟨w', hw, _⟩ := rel.get e5;rw [hw] at h1;have h1 := Option.some.inj h1;have hk' : kv.1 = k := congrArg Prod.fst h1;rw [← hk', e4] at h2;rw [← e1];exact zos h2
 have hoL : (h'.push (seqObj "list" l.toArray 0)).get? h'.objs.size = some (seqObj "list" l.toArray 0) := bv _ rfl;refine aa (wpAny_holding (cy slot_list_sort ⟨_, hoL, rfl⟩ entry_list_sort (list_sort_tree hoL (ze5 hv) (by rw [hl, ← hlen, hnl]; exact h64) fun out ns' a1 a2 a3 => ⟨_, rfl, ?_⟩) (args_list_sort _)));refine aj ⟨_, rfl, ?_⟩;obtain ⟨e, he⟩ := sortedHeap_at (out := out) hoL;have hn := a2.length_eq;refine ⟨.ref h'.objs.size, upd H h'.objs.size (.lst (ns'.map V.int)), I.laid (t' := tk) (fun b o ho => ?_) (Nat.le_of_lt hsz) (show yw X.prog X.w _ _ _ (.lst (ns'.map V.int)) from ⟨?_, out.toList, e, zbw a1, ?_⟩), rfl, q ns' _ a2 a3 (I.hok.fresh (Nat.le_of_lt hsz))⟩
 · have hb := hk b o ho;have hlt := al hb;rw [sortedHeap_old (bo hlt) (by rw [size_push']; exact Nat.lt_succ_of_lt hlt)];exact ap _ hb
 · rw [ae]; exact zw (by omega)
 · simpa [seqObj] using he
end
section
noncomputable def zmi : V → List V → Hp → VK → Prop := fun x vs H Q => ∃ d kvs, x = .ref d ∧ vs = [] ∧ H d = some (.dK kvs) ∧ Q .non (upd H d (.dK []))
theorem zhi : MtM X "dict.clear" zmi := by
 intro pins s σ H x vs v us Q I rx rv h;obtain ⟨d, kvs, rfl, rfl, hH, q⟩ := h;cases rx;have hus := rv.zero;subst hus;exact zni I hH fun s' I' => ⟨.non, _, I', rfl, q⟩
end
end L2
namespace My
open PySem PySem.Spec PyProof.Rows L2
variable {a s : Addr} {X : Cx} {e : Expr} {H H' : Hp} {i j w : Int} {σ : L2.St} {es : List Expr} {ns : List Int} {cap : List Nat} {ps : List Str} {r ts : List T} {n : Nat} {pos : Pos} {P : Program} {K : PySem.W.Frag} {x : Str} {mg : Str → Option Value} {m t : T} {v : V}
noncomputable def top (i : Nat) : Stmt := PySem.Challenge.pw_meetwall_k67_texts_that_write_no_house.main.body.getD i (.Pass ⟨0, 0, 0, 0⟩)
abbrev Xj : Stmt := top 29
abbrev Ym : Stmt := top 30
abbrev qj : Stmt := top 31
abbrev jt : Stmt := top 32
abbrev Vb : Stmt := top 33
abbrev Q1 : Stmt := top 34
abbrev Vc : Stmt := top 35
abbrev Yn : Stmt := top 36
abbrev Zg : Stmt := top 37
abbrev Zz : Stmt := top 38
abbrev Vd : Stmt := top 39
abbrev Za : Stmt := top 40
abbrev Xk : Stmt := top 41
abbrev vj : Stmt := top 42
abbrev Ve : Stmt := top 43
abbrev j7 : Stmt := top 44
abbrev ju : Stmt := top 45
abbrev Q2 : Stmt := top 46
abbrev Zy : Stmt := top 47
theorem zfi : bootBuiltins "isinstance" = some (.builtin "isinstance") := by decide +kernel
theorem xp : bootBuiltins "len" = some (.builtin "len") := by decide +kernel
theorem Vs : bootBuiltins "all" = some (.builtin "all") := by decide +kernel
theorem zln : bootBuiltins "sum" = some (.builtin "sum") := by decide +kernel
theorem zlo : bootBuiltins "int" = some (.type "int") := by decide +kernel
theorem znl : bootBuiltins "bool" = some (.type "bool") := by decide +kernel
theorem js : bootBuiltins "str" = some (.type "str") := by decide +kernel
theorem wy : bootBuiltins "tuple" = some (.type "tuple") := by decide +kernel
theorem zgr : bootBuiltins "dict" = some (.type "dict") := by decide +kernel
noncomputable def Ok (P : Program) (w : World) (K : PySem.W.Frag) (mg : Str → Option Value) (base : Heap) (x : Str) (k : Nat) (ps : List Str) (sp : Sp) : Prop :=
 ∃ f fd, FnOk P w K mg base CX0 k f fd ps sp ∧ J2 K fd ps [] ∧ PySem.W.keepIn K (.ref f) = true ∧ mg x = some (.ref f)
theorem ya {k : Nat} {sp : Sp} {p : Pos} {t : TA} (h : Ok X.prog X.w X.K X.mg X.base x k ps sp) (hr : Room k X.A) (ha : PA X (e :: es) t) (hg : Gl X x := by rfl)
  (hdb : (x == ("__debug__" : Str)) = false := by decide) (he : starEach (e :: es) X.env = (false, eval e X.env) :: starEach es X.env := by rfl) (hpl : (backTo pos (starEach es X.env)).any (·.1) = false := by rfl) :
  PE X (.Call (.Name x p) (e :: es) [] pos) (zi0 sp [] E0 t) := by
 obtain ⟨f, fd, F, hb, hk, hm⟩ := h;exact zfx F hr hg hm hk hb .nil zrt ha hdb he hpl
noncomputable def Def (K : PySem.W.Frag) (mg : Str → Option Value) (x : Str) (st : Stmt) : Prop := ∃ f fd, Fun K x x st f fd ∧ mg x = some (.ref f)
theorem y4 (h : ∃ t, X.mg x = some (.int i t)) (hg : Gl X x := by rfl) (hd : (x == ("__debug__" : Str)) = false := by decide) : PE X (.Name x pos) (tC (.int i)) := by
 obtain ⟨t, h⟩ := h;exact Wf hg h ⟨t, rfl⟩ hd
structure Txt (K : PySem.W.Frag) (mg : Str → Option Value) : Prop where
 BOXES : ∃ t, mg "BOXES" = some (.int 0 t)
 WALLS : ∃ t, mg "WALLS" = some (.int 1 t)
 FIRSTS : ∃ t, mg "FIRSTS" = some (.int 2 t)
 SCRIPTS : ∃ t, mg "SCRIPTS" = some (.int 3 t)
 MOST_BOXES : ∃ t, mg "MOST_BOXES" = some (.int 99 t)
 MOST_WALLS : ∃ t, mg "MOST_WALLS" = some (.int 6 t)
 MOST_FIRSTS : ∃ t, mg "MOST_FIRSTS" = some (.int 40 t)
 MOST_SCRIPTS : ∃ t, mg "MOST_SCRIPTS" = some (.int 20 t)
 MOST_DEEDS_OF_SCRIPT : ∃ t, mg "MOST_DEEDS_OF_SCRIPT" = some (.int 80 t)
 MOST_HANDS : ∃ t, mg "MOST_HANDS" = some (.int 60 t)
 MOST_DEEDS : ∃ t, mg "MOST_DEEDS" = some (.int 1200 t)
 MOST_RAISED : ∃ t, mg "MOST_RAISED" = some (.int 99 t)
 MOST_AWAITED : ∃ t, mg "MOST_AWAITED" = some (.int 9999 t)
 MOST_WORKED : ∃ t, mg "MOST_WORKED" = some (.int 999 t)
 MOST_LETTERS : ∃ t, mg "MOST_LETTERS" = some (.int 8 t)
 MODES : ∃ a, mg "MODES" = some (.ref a) ∧ ∀ H, SqT K H a [.str "both", .str "come", .str "go"]
 MOST_FIGURES : ∃ t, mg "MOST_FIGURES" = some (.int 30 t)
 isi : mg "isinstance" = none
 int : mg "int" = none
 bool : mg "bool" = none
 str : mg "str" = none
 tuple : mg "tuple" = none
 dict : mg "dict" = none
 list : mg "list" = none
 len : mg "len" = none
 all : mg "all" = none
 sum : mg "sum" = none
 range : mg "range" = none
 enumerate : mg "enumerate" = none
 sorted : mg "sorted" = none
 zip : mg "zip" = none
noncomputable def V7 (A : T → Prop) (f : T → Bool) : Sp := fun vs H Q _ => ∃ t v, vs = [v] ∧ Is H t v ∧ A t ∧ ∀ H', Same H H' → Q (.bl (f t)) H'
section
variable {te : TE} {p1 p2 : Pos}
theorem Ys {n : Str} {T : String} (h1 : X.mg "isinstance" = none) (h2 : X.mg n = none) (hb : bootBuiltins n = some (.type T)) (he : PE X e te) (g1 : Gl X "isinstance" := by rfl) (g2 : Gl X n := by rfl) (hn : n ≠ "__name__" := by decide) (hd : (n == ("__debug__" : Str)) = false := by decide)
  (hs : starEach [e, .Name n p2] X.env = (false, eval e X.env) :: starEach [.Name n p2] X.env := by rfl) (hp : (backTo pos (starEach [.Name n p2] X.env)).any (·.1) = false := by rfl) (hs2 : starEach [.Name n p2] X.env = (false, eval (.Name n p2) X.env) :: starEach [] X.env := by rfl) :
  PE X (.Call (.Name "isinstance" p1) [e, .Name n p2] [] pos) (tCB (zrh X.K) (Yi te (Yi (tC (.ty T)) zea))) :=
 yf zlk g1 h1 zfi (zc he (zc (zfy g2 h2 hb rfl hn hd) zd hs2) hs) (he := hs) (hpl := hp)
end
noncomputable def zbc : T → Bool | .int _ => true | _ => false
section
variable {w : World} {base : Heap}
theorem sc1 : FnScope ["thing"] ["thing"] (zi Xj) := .of
theorem zcn (D : Def K mg "is_whole" Xj) (T : Txt K mg) : Ok P w K mg base "is_whole" 1 ["thing"] (V7 (fun _ => True) zbc) := by
 obtain ⟨f, fd, F, hm⟩ := D;refine ⟨f, fd, ?_, F.binds fun _ _ _ _ _ _ us hl => (match us, hl with | [_], _ => rfl), F.kp, hm⟩;refine F.ok sc1 (fun vs H Q E h => ?_) (fun cdv A outer s H vs Q E hr h => ?_)
 · obtain ⟨t, v, rfl, _⟩ := h;rfl
 · obtain ⟨t, v, rfl, ht, _, k⟩ := h;refine ⟨_, zh (zn (ja (Ys T.isi T.int zlo (pv 0)) (ka (zo0 (Ys T.isi T.bool znl (pv 0)))))), ?_⟩;refine ⟨_, rfl, v, "int", _, _, rfl, ht.ty, zm6 K t, _, rfl, ?_⟩;refine vm (fun c => ?_) (fun c => ?_)
   · refine ⟨_, rfl, v, "bool", _, _, rfl, ht.ty, zkn K t, _, rfl, ?_⟩;have e : (!iBl t) = zbc t := by cases t <;> first | rfl | (exact absurd c (by simp [zr7]))
     rw [e];exact k H (Same.refl H)
   · have e : false = zbc t := by cases t <;> first | rfl | (exact absurd rfl c)
     rw [e];exact k H (Same.refl H)
noncomputable def zo (t : T) (lo hi : Int) : Bool := match t with | .int i => decide (lo ≤ i) && decide (i ≤ hi) | _ => false
noncomputable def xl (t : T) (lo hi : Int) : Bool := match t with | .tup ts => decide (lo ≤ (ts.length : Int)) && decide ((ts.length : Int) ≤ hi) | _ => false
noncomputable def HIs (H : Hp) (b w : Int) (n : Nat) (hv : V) : Prop := ∃ hs ss, Is H (.tup hs) hv ∧ hs[0]? = some (.int b) ∧ hs[1]? = some (.int w) ∧ hs[3]? = some (.tup ss) ∧ ss.length = n
theorem HIs.mono {H H' : Hp} {b w : Int} {n : Nat} {hv : V} (s : Same H H') (h : HIs H b w n hv) : HIs H' b w n hv := by
 obtain ⟨hs, ss, h, r⟩ := h;exact ⟨hs, ss, h.mono s, r⟩
theorem Is.at {i : Nat} (h : Is H (.tup ts) v) (e : ts[i]? = some t) : ∃ a xs u, v = .ref a ∧ SqT K H a xs ∧ atI xs ((i : Nat) : Int) = some u ∧ Is H t u := by
 obtain ⟨a, xs, rfl, ha, hl⟩ := h;obtain ⟨u, e1, e2⟩ := hl.get e;exact ⟨a, xs, u, rfl, SqT.of ha, we e1, e2⟩
noncomputable def zg0 : Sp := fun vs H Q _ => ∃ t v lo hi, vs = [v, .int lo, .int hi] ∧ Is H t v ∧ ∀ H', Same H H' → Q (.bl (zo t lo hi)) H'
noncomputable def zg1 : Sp := fun vs H Q _ => ∃ t v lo hi, vs = [v, .int lo, .int hi] ∧ Is H t v ∧ ∀ H', Same H H' → Q (.bl (xl t lo hi)) H'
noncomputable def zja (f : Int → Int → Int) : Sp := fun vs H Q _ => ∃ t v hv b w n, vs = [v, hv] ∧ Is H t v ∧ HIs H b w n hv ∧ ∀ H', Same H H' → Q (.bl (zo t 0 (f b w - 1))) H'
theorem vp {st : Stmt} {N : List Str} {k : Nat} {sp : Sp} (D : Def K mg x st) (S : FnScope N ps (zi st))
  (len : ∀ vs H Q E, sp vs H Q E → vs.length = ps.length)
  (hbody : ∀ (f : Addr) (cdv : Value) (A : Around) (outer : List Env) (s : Shared) (H : Hp) (vs : List V) (Q : VK) (E : XK), Room k (A.deeper (envOfC x (zi st) s.heap.objs.size f cdv)) → sp vs H Q E →
   ∃ t, PSs (vn CX0 P w K mg base N x (zi st) f cdv A outer s H E).nox (xg st) t ∧ t { nx := fun _ H' => Q .non H', rt := Q } (start N vs) H)
  (hb : ∀ (kV doc pm : Value) (an : Option Addr) (cdv ct : Value) (us : List Value), us.length = ps.length → bindArgs (PySem.W.fnOf x x (jx st) (xg st) (zi st) .none kV doc pm an cdv ct) ⟨us, []⟩ = pure (ps.zip us) := by first | exact fun _ _ _ _ _ _ us hl => (match us, hl with | [_], _ => rfl) | exact fun _ _ _ _ _ _ us hl => (match us, hl with | [_, _], _ => rfl) | exact fun _ _ _ _ _ _ us hl => (match us, hl with | [_, _, _], _ => rfl) | exact fun _ _ _ _ _ _ us hl => (match us, hl with | [_, _, _, _], _ => rfl)) : Ok P w K mg base x (k + 1) ps sp := by
 obtain ⟨f, fd, F, hm⟩ := D;exact ⟨f, fd, F.ok S len (fun cdv A outer s H vs Q E hr h => hbody f cdv A outer s H vs Q E hr h), F.binds hb, F.kp, hm⟩
theorem zg4 : FnScope ["thing", "least", "most"] ["thing", "least", "most"] (zi Ym) := .of
theorem za3 (D : Def K mg "is_within" Ym) (T : Txt K mg) (o1 : Ok P w K mg base "is_whole" 1 ["thing"] (V7 (fun _ => True) zbc)) : Ok P w K mg base "is_within" 2 ["thing", "least", "most"] zg0 := by
 refine vp D zg4 (fun vs H Q E ⟨t, v, lo, hi, e, _⟩ => by rw [e]; rfl) fun f cdv A outer s H vs Q E hr h => ?_;obtain ⟨t, v, lo, hi, rfl, ht, k⟩ := h;refine ⟨_, zh (zn (ja (ya o1 hr (zc (pv 0) zd)) (ka (Wg Xc Xc (pv 1) (pv 0) (pv 2))))), ?_⟩;refine ⟨_, rfl, t, v, rfl, ht, trivial, fun H1 s1 => ⟨_, rfl, ?_⟩⟩;cases t with
 | int i =>
   cases (show v = .int i from ht);refine yp ?_;refine ⟨_, rfl, _, rfl, lo, i, rfl, rfl, _, rfl, ?_⟩;by_cases c : lo ≤ i
   · rw [au c];refine yp ⟨_, rfl, i, hi, rfl, rfl, ?_⟩;have kk : Q (.bl (decide (lo ≤ i) && decide (i ≤ hi))) H1 := k H1 s1;rw [au c, bj] at kk;exact kk
   · rw [bn c];refine yl ?_;have kk : Q (.bl (decide (lo ≤ i) && decide (i ≤ hi))) H1 := k H1 s1;rw [bn c, c7] at kk;exact kk
 | _ => exact yl (k H1 s1)
theorem zra : FnScope ["thing", "least", "most"] ["thing", "least", "most"] (zi qj) := .of
theorem Xp (D : Def K mg "is_tuple_within" qj) (T : Txt K mg) : Ok P w K mg base "is_tuple_within" 1 ["thing", "least", "most"] zg1 := by
 refine vp D zra (fun vs H Q E ⟨t, v, lo, hi, e, _⟩ => by rw [e]; rfl) fun f cdv A outer s H vs Q E hr h => ?_;obtain ⟨t, v, lo, hi, rfl, ht, k⟩ := h;refine ⟨_, zh (zn (ja (Ys T.isi T.tuple wy (pv 0)) (ka (Wg Xc Xc (pv 1) (yf yg rfl T.len xp (zc (pv 0) zd)) (pv 2))))), ?_⟩;refine ⟨_, rfl, v, "tuple", _, _, rfl, ht.ty, Kv K t, _, rfl, ?_⟩;cases t with
 | tup ts =>
   refine yp ?_;obtain ⟨a, xs, rfl, ha, hl⟩ := ht;have e := hl.length;refine ⟨_, rfl, _, rfl, a, xs, rfl, .inr (SqT.of ha), lo, _, rfl, rfl, _, rfl, ?_⟩;have kk : Q (.bl (decide (lo ≤ (ts.length : Int)) && decide ((ts.length : Int) ≤ hi))) H := k H (Same.refl H);rw [← e] at kk;by_cases c : lo ≤ (xs.length : Int)
   · rw [au c];rw [au c, bj] at kk;exact yp ⟨_, rfl, _, hi, rfl, rfl, kk⟩
   · rw [bn c];rw [bn c, c7] at kk;exact yl kk
 | _ => exact yl (k H (Same.refl H))
theorem zoo : FnScope ["thing", "house"] ["thing", "house"] (zi Q1) := .of
theorem zmf : FnScope ["thing", "house"] ["thing", "house"] (zi Vc) := .of
theorem zhd (D : Def K mg "is_box" Q1) (T : Txt K mg) (o1 : Ok P w K mg base "is_within" 2 ["thing", "least", "most"] zg0) : Ok P w K mg base "is_box" 3 ["thing", "house"] (zja fun b _ => b) := by
 refine vp D zoo (fun vs H Q E ⟨t, v, hv, b, w, n, e, _⟩ => by rw [e]; rfl) fun f cdv A outer s H vs Q E hr h => ?_;obtain ⟨t, v, hv, b, ww, n, rfl, ht, hH, k⟩ := h;obtain ⟨hs, ss, hh, e0, e1, e3, en⟩ := hH;obtain ⟨a, xs, u, rfl, sq, ea, hu⟩ := Is.at (K := K) hh e0;cases (show u = .int b from hu);refine ⟨_, zh (zn (ya o1 hr (zc (pv 0) (zc zg (zc (yc Vh (zp zt (pv 1) (y4 T.BOXES) (fun _ _ => rfl)) zg) zd))))), ?_⟩;exact ⟨_, rfl, _, rfl, a, xs, _, _, rfl, rfl, sq, ea, _, _, rfl, rfl, t, v, 0, b - 1, rfl, ht, k⟩
theorem zes (D : Def K mg "is_wall" Vc) (T : Txt K mg) (o1 : Ok P w K mg base "is_within" 2 ["thing", "least", "most"] zg0) : Ok P w K mg base "is_wall" 3 ["thing", "house"] (zja fun _ w => w) := by
 refine vp D zmf (fun vs H Q E ⟨t, v, hv, b, w, n, e, _⟩ => by rw [e]; rfl) fun f cdv A outer s H vs Q E hr h => ?_;obtain ⟨t, v, hv, b, ww, n, rfl, ht, hH, k⟩ := h;obtain ⟨hs, ss, hh, e0, e1, e3, en⟩ := hH;obtain ⟨a, xs, u, rfl, sq, ea, hu⟩ := Is.at (K := K) hh e1;cases (show u = .int ww from hu);refine ⟨_, zh (zn (ya o1 hr (zc (pv 0) (zc zg (zc (yc Vh (zp zt (pv 1) (y4 T.WALLS) (fun _ _ => rfl)) zg) zd))))), ?_⟩;exact ⟨_, rfl, _, rfl, a, xs, _, _, rfl, rfl, sq, ea, _, _, rfl, rfl, t, v, 0, ww - 1, rfl, ht, k⟩
noncomputable def zc3 : T → Bool | .str y => inV (.str y) [.str "both", .str "come", .str "go"] | _ => false
noncomputable def qb (t : T) (w : Int) : Bool := match t with | .tup [x, m] => zo x 0 (w - 1) && zc3 m | _ => false
noncomputable def goM (w : Int) : Int → List T → Bool
 | _, [] => true
 | last, m :: r => qb m w && (match m with | .tup (.int i :: _) => decide (last < i) && goM w i r | _ => false)
noncomputable def kj (t : T) (w : Int) : Bool := match t with | .tup ts => goM w (-1) ts | _ => false
noncomputable def xj (t : T) (least : Int) (n : Nat) (w : Int) : Bool := match t with | .tup [s, m] => zo s least ((n : Int) - 1) && kj m w | _ => false
theorem V0 {w : Int} (h : qb t w = true) : ∃ i m, t = .tup [.int i, m] := by
 unfold qb at h;split at h
 · rename_i x m
   cases x with
   | int i => exact ⟨i, m, rfl⟩
   | _ => simp [zo] at h
 · cases h
noncomputable def zmd (f : T → Int → Bool) : Sp := fun vs H Q _ => ∃ t v hv b w n, vs = [v, hv] ∧ Is H t v ∧ HIs H b w n hv ∧ ∀ H', Same H H' → Q (.bl (f t w)) H'
noncomputable def zom : Sp := fun vs H Q _ => ∃ t v least hv b w n, vs = [v, .int least, hv] ∧ Is H t v ∧ HIs H b w n hv ∧ ∀ H', Same H H' → Q (.bl (xj t least n w)) H'
theorem zqb (h : xl t 2 2 = true) : ∃ x y, t = .tup [x, y] := by
 cases t with
 | tup ts =>
   have h : (decide ((2 : Int) ≤ (ts.length : Int)) && decide ((ts.length : Int) ≤ 2)) = true := h;simp only [bu, decide_eq_true_eq] at h;have : ts.length = 2 := by omega
   match ts, this with
   | [x, y], _ => exact ⟨x, y, rfl⟩
 | _ => cases h
theorem tup2' {x y : T} : xl (.tup [x, y]) 2 2 = true := by simp [xl]
theorem zg6 : FnScope ["thing", "house"] ["thing", "house"] (zi Yn) := .of
theorem za5 (D : Def K mg "is_member" Yn) (T : Txt K mg) (o1 : Ok P w K mg base "is_tuple_within" 1 ["thing", "least", "most"] zg1) (o2 : Ok P w K mg base "is_wall" 3 ["thing", "house"] (zja fun _ w => w)) :
  Ok P w K mg base "is_member" 4 ["thing", "house"] (zmd qb) := by
 refine vp D zg6 (fun vs H Q E ⟨t, v, hv, b, w, n, e, _⟩ => by rw [e]; rfl) fun f cdv A outer s H vs Q E hr h => ?_;obtain ⟨t, v, hv, b, ww, n, rfl, ht, hH, k⟩ := h;obtain ⟨am, hm, hM⟩ := T.MODES;refine ⟨_, ze (yh (Yr (xt (yz (ya o1 (hr.mono (by decide)) (zc (pv 0) (zc zg (zc zg zd)))))) (j9 (xt (yz (ya o2 hr (zc (zp zt (pv 0) zg (fun _ _ => rfl)) (zc (pv 1) zd))))))).pt (zh (zn xx)) zx)
  (zh (zn (ja (Ys T.isi T.str js (zp zt (pv 0) zg (fun _ _ => rfl))) (ka (jh jb (zp zt (pv 0) zg (fun _ _ => rfl)) (Wf (v := .ref am) rfl hm rfl) rfl))))), ?_⟩
 refine ⟨_, rfl, t, v, 2, 2, rfl, ht, fun H1 s1 => ⟨_, rfl, ?_⟩⟩;cases c : xl t 2 2 with
 | false =>
   refine yp (yp ?_);have e : qb t ww = false := by
    cases d : qb t ww with
    | false => rfl
    | true =>
      obtain ⟨i, m, rfl⟩ := V0 d;rw [tup2'] at c;cases c
   have kk := k H1 s1;rw [e] at kk;exact kk
 | true =>
   obtain ⟨x, m, rfl⟩ := zqb c;refine yl ?_;have ht1 := ht.mono s1;obtain ⟨a, xs, ux, rfl, sq, ea, hux⟩ := Is.at (K := K) (i := 0) ht1 rfl;obtain ⟨a', xs', um, e', sq', ea', hum⟩ := Is.at (K := K) (i := 1) ht1 rfl;cases e';refine ⟨_, rfl, a, xs, _, ux, rfl, rfl, sq, ea, _, rfl, x, ux, hv, b, ww, n, rfl, hux, hH.mono s1, fun H2 s2 => ⟨_, rfl, ?_⟩⟩;cases d : zo x 0 (ww - 1) with
   | false =>
     refine yp ?_;have kk : Q (.bl (zo x 0 (ww - 1) && zc3 m)) H2 := k H2 (s1.trans s2);rw [d, c7] at kk;exact kk
   | true =>
     refine yl ?_;have ht2 := ht1.mono s2;obtain ⟨a2, xs2, um2, e2, sq2, ea2, hum2⟩ := Is.at (K := K) (i := 1) ht2 rfl;cases e2;refine ⟨_, rfl, a, xs2, _, um2, rfl, rfl, sq2, ea2, um2, "str", _, _, rfl, hum2.ty, Qj K m, _, rfl, ?_⟩;have kk : Q (.bl (zo x 0 (ww - 1) && zc3 m)) H2 := k H2 (s1.trans s2);rw [d, bj] at kk;cases m with
     | str y =>
       refine yp ?_;cases (show um2 = .str y from hum2);exact ⟨_, rfl, a, xs2, _, _, rfl, rfl, sq2, ea2, am, _, rfl, .inr (hM H2), rfl, rfl, kk⟩
     | _ => exact yl kk
theorem zdh {w last : Int} (h : qb (.tup [.int i, m]) w = true) : goM w last (.tup [.int i, m] :: r) = (decide (last < i) && goM w i r) := by
 show (qb (.tup [.int i, m]) w && (decide (last < i) && goM w i r)) = _;rw [h, bj]
theorem zpi {w last : Int} (h : qb m w = false) : goM w last (m :: r) = false := by
 unfold goM;rw [h, c7]
theorem Zv : FnScope ["thing", "house", "last", "member"] ["thing", "house"] (zi Zg) := .of
theorem Q6 (D : Def K mg "are_members" Zg) (T : Txt K mg) (o1 : Ok P w K mg base "is_member" 4 ["thing", "house"] (zmd qb)) : Ok P w K mg base "are_members" 5 ["thing", "house"] (zmd kj) := by
 refine vp D Zv (fun vs H Q E ⟨t, v, hv, b, w, n, e, _⟩ => by rw [e]; rfl) fun f cdv A outer s H vs Q E hr h => ?_;obtain ⟨t, v, hv, b, ww, n, rfl, ht, hH, k⟩ := h;refine ⟨_, ze (yh (xt (yz (Ys T.isi T.tuple wy (pv 0)))) (zh (zn xx)) zx)
  (ze (zr (i := 2) Zv.nd rfl (Or.inl rfl) (zfw zam zg))
  (ze (wr PassesOwn.never rfl (ql (pv 0)) (yd (i := 3) Zv.nd rfl (Or.inl rfl))
   (ze (yh (Yr (xt (yz (ya o1 hr (zc (pv 3) (zc (pv 1) zd))))) (j9 (zu Xc (zp zt (pv 3) zg (fun _ _ => rfl)) (pv 2) (ye _)))).pt (zh (zn xx)) zx)
   (zh (zr (i := 2) Zv.nd rfl (Or.inl rfl) (zp zt (pv 3) zg (fun _ _ => rfl))))))
  (zh (zn xx)))), ?_⟩
 refine ⟨_, rfl, v, "tuple", _, _, rfl, ht.ty, Kv K t, _, rfl, ?_⟩;cases t with
 | tup ts =>
   refine yl ?_;obtain ⟨a, xs, rfl, ha, hl⟩ := ht;have hlen := hl.length;refine ⟨_, rfl, ?_⟩;refine ⟨_, rfl, a, rfl, ⟨xs, SqT.of ha⟩, Z6 (K := K) (a := a) (xs := xs) (fun i σ H' => ∃ last mv, σ = [some (.ref a), some hv, some (.int last), mv] ∧ Same H H' ∧ goM ww (-1) ts = goM ww last (ts.drop i)) ⟨-1, none, rfl, Same.refl H, rfl⟩
    (fun i σ H' _ ⟨_, _, _, s1, _⟩ => SqT.of (s1 _ _ ha)) ?_ ?_⟩
   · rintro i x σ H1 hi ⟨last, mv, rfl, s1, hg⟩;obtain ⟨m, hm, hx⟩ := hl.get' hi;have hdrop : ts.drop i = m :: ts.drop (i + 1) := by
      obtain ⟨h1, h2⟩ := c9.mp hm;rw [List.drop_eq_getElem_cons h1, h2]
     rw [hdrop] at hg;refine ⟨_, rfl, _, rfl, m, x, hv, b, ww, n, rfl, hx.mono s1, hH.mono s1, fun H2 s2 => ⟨_, rfl, ?_⟩⟩;have s12 := s1.trans s2;cases c : qb m ww with
     | false =>
       refine yp (yp ?_);have kk : Q (.bl (goM ww (-1) ts)) H2 := k H2 s12;rw [hg, zpi c] at kk;exact kk
     | true =>
       refine yl ?_;obtain ⟨j, mm, rfl⟩ := V0 c;rw [zdh c] at hg;obtain ⟨a2, xs2, u2, rfl, sq2, ea2, hu2⟩ := Is.at (K := K) (i := 0) (hx.mono s12) rfl;cases (show u2 = .int j from hu2);refine ⟨_, rfl, a2, xs2, _, _, rfl, rfl, sq2, ea2, _, rfl, j, last, rfl, rfl, _, rfl, ?_⟩;by_cases d : j ≤ last
       · rw [au d];refine yp ?_;have kk : Q (.bl (goM ww (-1) ts)) H2 := k H2 s12;rw [hg, bn (by omega), c7] at kk;exact kk
       · rw [bn d];refine yl ?_;refine ⟨_, rfl, a2, xs2, _, _, rfl, rfl, sq2, ea2, j, _, rfl, s12, ?_⟩;rw [hg, au (by omega), bj]
   · rintro σ H1 ⟨last, mv, rfl, s1, hg⟩;have kk : Q (.bl (goM ww (-1) ts)) H1 := k H1 s1;rw [hg, hlen, List.drop_length] at kk;exact kk
 | _ => exact yp (k H (Same.refl H))
theorem zeg : FnScope ["thing", "least", "house"] ["thing", "least", "house"] (zi Zz) := .of
theorem J8 (D : Def K mg "is_calling" Zz) (T : Txt K mg) (o1 : Ok P w K mg base "is_tuple_within" 1 ["thing", "least", "most"] zg1) (o2 : Ok P w K mg base "is_within" 2 ["thing", "least", "most"] zg0)
  (o3 : Ok P w K mg base "are_members" 5 ["thing", "house"] (zmd kj)) : Ok P w K mg base "is_calling" 6 ["thing", "least", "house"] zom := by
 refine vp D zeg (fun vs H Q E ⟨t, v, lo, hv, b, w, n, e, _⟩ => by rw [e]; rfl) fun f cdv A outer s H vs Q E hr h => ?_;obtain ⟨t, v, least, hv, b, ww, n, rfl, ht, hH, k⟩ := h;refine ⟨_, ze (yh (xt (yz (ya o1 (hr.mono (by decide)) (zc (pv 0) (zc zg (zc zg zd)))))) (zh (zn xx)) zx)
  (zh (zn (ja (ya o2 (hr.mono (by decide)) (zc (zp zt (pv 0) zg (fun _ _ => rfl)) (zc (pv 1) (zc (yc Vh (yf yg rfl T.len xp (zc (zp zt (pv 2) (y4 T.SCRIPTS) (fun _ _ => rfl)) zd)) zg) zd))))
   (ka (ya o3 hr (zc (zp zt (pv 0) zg (fun _ _ => rfl)) (zc (pv 2) zd))))))), ?_⟩
 refine ⟨_, rfl, t, v, 2, 2, rfl, ht, fun H1 s1 => ⟨_, rfl, ?_⟩⟩;cases c : xl t 2 2 with
 | false =>
   refine yp ?_;have e : xj t least n ww = false := by
    unfold xj;split
    · rw [tup2'] at c; cases c
    · rfl
   have kk := k H1 s1;rw [e] at kk;exact kk
 | true =>
   obtain ⟨x, m, rfl⟩ := zqb c;refine yl ?_;have ht1 := ht.mono s1;obtain ⟨a, xs, ux, rfl, sq, ea, hux⟩ := Is.at (K := K) (i := 0) ht1 rfl;obtain ⟨hs, ss, hh, e0, e1, e3, en⟩ := id (hH.mono s1);obtain ⟨ah, xh, uh, rfl, sqh, eah, huh⟩ := Is.at (K := K) hh e3;obtain ⟨as, xss, rfl, has, hls⟩ := huh;have hln : (xss.length : Int) = (n : Int) := by rw [hls.length, en]
   refine ⟨_, rfl, a, xs, _, ux, rfl, rfl, sq, ea, _, rfl, _, rfl, ah, xh, _, _, rfl, rfl, sqh, eah, as, xss, rfl, .inr (SqT.of has), _, _, rfl, rfl, x, ux, least, (xss.length : Int) - 1, rfl, hux, fun H2 s2 => ⟨_, rfl, ?_⟩⟩;rw [hln];have kk : ∀ H', Same H H' → Q (.bl (zo x least ((n : Int) - 1) && kj m ww)) H' := k;cases d : zo x least ((n : Int) - 1) with
   | false =>
     refine yl ?_;have k2 := kk H2 (s1.trans s2);rw [d, c7] at k2;exact k2
   | true =>
     refine yp ?_;obtain ⟨a2, xs2, um2, e2, sq2, ea2, hum2⟩ := Is.at (K := K) (i := 1) (ht1.mono s2) rfl;cases e2;refine ⟨_, rfl, a, xs2, _, um2, rfl, rfl, sq2, ea2, _, rfl, m, um2, _, b, ww, n, rfl, hum2, (hH.mono s1).mono s2, fun H3 s3 => ?_⟩;have k2 := kk H3 (s1.trans (s2.trans s3));rw [d, bj] at k2;exact k2
theorem xr {own : List Str} {scope : Scope} (sc : Scope) (hsc : X.env.scope = sc) (h1 : scope.kind = .function) (h2 : ∀ x ∈ scope.names, x.2 = .free → sc.names.lookup x.1 = some .cell ∨ sc.names.lookup x.1 = some .free)
  (h3 : ∀ x ∈ scope.names, x.2 ≠ .cell) (h4 : ∀ x ∈ scope.names, x.2 = .local → scope.names.lookup x.1 = some .local) (h5 : zal X scope cap) : LcScope X own cap scope := by
 subst hsc;exact ⟨h1, h2, h3, h4, h5⟩
theorem Vq {i : Nat} {A B : L2.St → Hp → Prop} (h : A (σ.set i (some v)) H) : Ye i v σ H (fun σ2 H2 => zod σ2 H2 fun b H3 => if b = true then A σ2 H3 else B σ2 H3) := by
 show if true = true then A (σ.set i (some v)) H else B (σ.set i (some v)) H
 exact yp h
noncomputable def Y7 (c : Nat) : Bool := !decide ((⟨#[c]⟩ : Str).cps.toList < ("a" : Str).cps.toList) && !decide (("z" : Str).cps.toList < (⟨#[c]⟩ : Str).cps.toList)
noncomputable def zc2 (t : T) : Bool := match t with | .str x => decide ((1 : Int) ≤ (x.length : Int)) && decide ((x.length : Int) ≤ 8) && x.cps.toList.all Y7 | _ => false
noncomputable def Wl (t : T) : Prop := ∀ x, t = .str x → x.length ≤ sizeLine
noncomputable def jm (t : T) : Bool := match t with | .str x => decide ((1 : Int) ≤ (x.length : Int)) && x.cps.toList.all Y7 | _ => false
theorem zef : FnScope ["thing"] ["thing"] (zi jt) := .of
theorem J7 (D : Def K mg "is_letters" jt) (T : Txt K mg) : Ok P w K mg base "is_letters" 1 ["thing"] (V7 Wl jm) := by
 refine vp D zef (fun vs H Q E ⟨t, v, e, _⟩ => by rw [e]; rfl) fun f cdv A outer s H vs Q E hr h => ?_;obtain ⟨t, v, rfl, ht, hz, k⟩ := h;refine ⟨_, ze (yh (PW.pt (Yr (xt (yz (Ys T.isi T.str js (pv 0)))) (j9 (zu wo (yf Z8 (by rfl) T.len xp (zc (pv 0) zd)) zg (ye _))))) (zh (zn xx)) zx)
  (zh (zn (yf (Zr rfl) rfl T.all Vs (zc (Yd (own := ["letter"]) (cap := []) rfl (xr (zi jt) rfl rfl (by decide +kernel) (by decide +kernel) (by decide +kernel) trivial) (zju (pv 0)) (fun _ _ _ _ => yd (i := 0) (by show (["letter"] : List Str).Nodup; decide +kernel) rfl (Or.inl rfl))
   (fun _ _ _ _ => wa) (fun _ _ _ _ => Wg Y3 Y3 zl (pv 0) zl)) zd)))), ?_⟩
 refine ⟨_, rfl, v, "str", _, _, rfl, ht.ty, Qj K t, _, rfl, ?_⟩;cases t with
 | str x =>
   refine yl ?_;cases (show v = .str x from ht);have kk : ∀ H', Same H H' → Q (.bl (decide ((1 : Int) ≤ (x.length : Int)) && x.cps.toList.all Y7)) H' := k;refine ⟨_, rfl, x, rfl, hz x rfl, rfl, _, rfl, ?_⟩;rw [zbp];refine vm (fun c => ?_) (fun c => ?_)
   · have c : (x.length : Int) = 0 := by simpa using c
     rw [bn (by omega), c7] at kk;exact kk H (Same.refl H)
   · have c : (1 : Int) ≤ (x.length : Int) := by
      have : (x.length : Int) ≠ 0 := fun z => c (by simpa using z);omega
     rw [au c, bj] at kk;refine ⟨_, rfl, x, rfl, ?_⟩;have hsz : x.cps.size ≤ sizeLine := hz x rfl;refine zki (x := x) (fun i ys H' => H' = H ∧ ys = (x.cps.toList.take i).map fun c => V.bl (Y7 c)) ⟨rfl, rfl⟩ (fun i ys H' hi ⟨_, e⟩ => by rw [e, ae, cg]; omega) ?_ ?_
     · rintro i c ys H' hc ⟨rfl, rfl⟩;refine Vq ?_;have hnext : (x.cps.toList.take (i + 1)).map (fun c => V.bl (Y7 c)) = (x.cps.toList.take i).map (fun c => V.bl (Y7 c)) ++ [V.bl (Y7 c)] := by
        have : x.cps.toList[i]? = some c := by rw [Array.getElem?_toList]; exact hc
        rw [cm, this, az];rfl
       refine ⟨_, rfl, "a", _, rfl, rfl, _, rfl, ?_⟩;refine vm (fun d => ?_) (fun d => ?_)
       · refine ⟨_, "z", rfl, rfl, rfl, ?_⟩;rw [hnext];congr 3;unfold Y7;rw [d, bj]
       · refine ⟨rfl, ?_⟩;rw [hnext];congr 3;unfold Y7;rw [Bool.eq_false_iff.mpr d, c7]
     · rintro ys H' ⟨rfl, rfl⟩ p hp;refine ⟨p, x.cps.toList.map Y7, rfl, SqL.of ?_, ?_⟩
       · rw [zf, cp];have e : x.cps.toList.take x.cps.size = x.cps.toList := by
          rw [← Array.length_toList, ci]
         rw [e];rfl
       · have e : (x.cps.toList.map Y7).all id = x.cps.toList.all Y7 := by rw [List.all_map]; rfl
         rw [e];exact kk _ (Same.new hp _)
 | _ => exact yp (yp (k H (Same.refl H)))
theorem zme : FnScope ["thing"] ["thing"] (zi Vb) := .of
theorem zer (D : Def K mg "is_word" Vb) (T : Txt K mg) (o1 : Ok P w K mg base "is_letters" 1 ["thing"] (V7 Wl jm)) : Ok P w K mg base "is_word" 2 ["thing"] (V7 Wl zc2) := by
 refine vp D zme (fun vs H Q E ⟨t, v, e, _⟩ => by rw [e]; rfl) fun f cdv A outer s H vs Q E hr h => ?_;obtain ⟨t, v, rfl, ht, hz, k⟩ := h;refine ⟨_, zh (zn (ja (ya o1 hr (zc (pv 0) zd)) (ka (jh Xc (yf Z8 (by rfl) T.len xp (zc (pv 0) zd)) (y4 T.MOST_LETTERS) (ye _))))), ?_⟩;refine ⟨_, rfl, t, v, rfl, ht, hz, fun H1 s1 => ⟨_, rfl, ?_⟩⟩;cases t with
 | str x =>
   cases (show v = .str x from ht);have kk : ∀ H', Same H H' → Q (.bl (decide ((1 : Int) ≤ (x.length : Int)) && decide ((x.length : Int) ≤ 8) && x.cps.toList.all Y7)) H' := k;show if (decide ((1 : Int) ≤ (x.length : Int)) && x.cps.toList.all Y7) = true then _ else _
   cases c1 : (decide ((1 : Int) ≤ (x.length : Int)) && x.cps.toList.all Y7) with
   | false =>
     refine yl ?_;have e : (decide ((1 : Int) ≤ (x.length : Int)) && decide ((x.length : Int) ≤ 8) && x.cps.toList.all Y7) = false := by
      rw [Bool.and_right_comm, c1, c7]
     have := kk H1 s1;rw [e] at this;exact this
   | true =>
     refine yp ⟨_, rfl, x, rfl, hz x rfl, _, 8, rfl, rfl, ?_⟩;have := kk H1 s1;rw [Bool.and_right_comm, c1, bj] at this;exact this
 | _ => exact yl (k H1 s1)
abbrev wEq (x : Str) (y : Str) : Bool := decide (V.str x = V.str y)
noncomputable def g0 (r : List T) : T := r.getD 0 .non
noncomputable def g1 (r : List T) : T := r.getD 1 .non
noncomputable def Xr (x : Str) (r : List T) (num : Int) (b w : Int) (n : Nat) : Bool :=
 if wEq x "begin" = true then xj (.tup r) (num + 1) n w
 else if wEq x "raise" = true then decide (r.length = 2) && (zo (g0 r) 0 (b - 1) && zo (g1 r) 1 99)
 else if wEq x "await" = true then decide (r.length = 2) && (zo (g0 r) 0 (b - 1) && zo (g1 r) 1 9999)
 else if r.length ≠ 1 then false
 else if inV (.str x) [.str "come", .str "go", .str "leave"] = true then zo (g0 r) 0 (w - 1)
 else if wEq x "work" = true then zo (g0 r) 0 999
 else wEq x "say" && zc2 (g0 r)
noncomputable def vy (t : T) (num : Int) (b w : Int) (n : Nat) : Bool := match t with
 | .tup (.str x :: r) => (decide (r.length = 1) || decide (r.length = 2)) && Xr x r num b w n
 | _ => false
noncomputable def Wd (t : T) : Prop := ∀ ts, t = .tup ts → ∀ u ∈ ts, Wl u
noncomputable def zq6 : Sp := fun vs H Q _ => ∃ t v num hv b w n, vs = [v, .int num, hv] ∧ Is H t v ∧ HIs H b w n hv ∧ Wd t ∧ ∀ H', Same H H' → Q (.bl (vy t num b w n)) H'
theorem zs8 : xl (.tup ts) 2 3 = (decide (ts.length = 2) || decide (ts.length = 3)) := by
 show (decide ((2 : Int) ≤ (ts.length : Int)) && decide ((ts.length : Int) ≤ 3)) = _;rw [Bool.eq_iff_iff];simp only [bu, Bool.or_eq_true, decide_eq_true_eq];omega
theorem zft : FnScope ["thing", "number", "house", "word"] ["thing", "number", "house"] (zi Vd) := .of
theorem zet (D : Def K mg "is_deed" Vd) (T : Txt K mg) (o1 : Ok P w K mg base "is_tuple_within" 1 ["thing", "least", "most"] zg1) (o2 : Ok P w K mg base "is_within" 2 ["thing", "least", "most"] zg0)
  (o3 : Ok P w K mg base "is_calling" 6 ["thing", "least", "house"] zom) (o4 : Ok P w K mg base "is_box" 3 ["thing", "house"] (zja fun b _ => b)) (o5 : Ok P w K mg base "is_wall" 3 ["thing", "house"] (zja fun _ w => w))
  (o6 : Ok P w K mg base "is_word" 2 ["thing"] (V7 Wl zc2)) : Ok P w K mg base "is_deed" 7 ["thing", "number", "house"] zq6 := by
 refine vp D zft (fun vs H Q E ⟨t, v, lo, hv, b, w, n, e, _⟩ => by rw [e]; rfl) fun f cdv A outer s H vs Q E hr h => ?_;obtain ⟨t, v, num, hv, b, ww, n, rfl, ht, hH, hW, k⟩ := h;have r1 := hr.mono (show 1 ≤ 6 by decide);have r2 := hr.mono (show 2 ≤ 6 by decide);have r3 := hr.mono (show 3 ≤ 6 by decide);refine ⟨_, ze (yh (PW.pt (Yr (xt (yz (ya o1 r1 (zc (pv 0) (zc zg (zc zg zd)))))) (j9 (xt (yz (Ys T.isi T.str js (zp zt (pv 0) zg (fun _ _ => rfl)))))))) (zh (zn xx)) zx)
  (ze (zr (i := 3) zft.nd rfl (Or.inl rfl) (zp zt (pv 0) zg (fun _ _ => rfl)))
  (ze (yh (zu wo (pv 3) zl (ye _)) (zh (zn (ya o3 hr (zc (wg zed (pv 0) (w5 zg) w6) (zc (yc vo (pv 1) zg) (zc (pv 2) zd)))))) zx)
  (ze (yh (zu wo (pv 3) zl (ye _)) (zh (zn (ja (jh wo (yf yg (by rfl) T.len xp (zc (pv 0) zd)) zg (ye _)) (ja (ya o4 r3 (zc (zp zt (pv 0) zg (fun _ _ => rfl)) (zc (pv 2) zd))) (ka (ya o2 r2 (zc (zp zt (pv 0) zg (fun _ _ => rfl)) (zc zg (zc (y4 T.MOST_RAISED) zd))))))))) zx)
  (ze (yh (zu wo (pv 3) zl (ye _)) (zh (zn (ja (jh wo (yf yg (by rfl) T.len xp (zc (pv 0) zd)) zg (ye _)) (ja (ya o4 r3 (zc (zp zt (pv 0) zg (fun _ _ => rfl)) (zc (pv 2) zd))) (ka (ya o2 r2 (zc (zp zt (pv 0) zg (fun _ _ => rfl)) (zc zg (zc (y4 T.MOST_AWAITED) zd))))))))) zx)
  (ze (yh (zu Xb (yf yg (by rfl) T.len xp (zc (pv 0) zd)) zg (ye _)) (zh (zn xx)) zx)
  (ze (yh (zu jb (pv 3) (xu (zc zl (zc zl (zc zl zd)))) rfl) (zh (zn (ya o5 r3 (zc (zp zt (pv 0) zg (fun _ _ => rfl)) (zc (pv 2) zd))))) zx)
  (ze (yh (zu wo (pv 3) zl (ye _)) (zh (zn (ya o2 r2 (zc (zp zt (pv 0) zg (fun _ _ => rfl)) (zc zg (zc (y4 T.MOST_WORKED) zd)))))) zx)
  (zh (zn (ja (jh wo (pv 3) zl (ye _)) (ka (ya o6 r2 (zc (zp zt (pv 0) zg (fun _ _ => rfl)) zd))))))))))))), ?_⟩
 refine ⟨_, rfl, t, v, 2, 3, rfl, ht, fun H1 s1 => ⟨_, rfl, ?_⟩⟩;cases t with
 | tup ts =>
   rw [zs8];by_cases hl : ts.length = 2 ∨ ts.length = 3
   · have hb : (decide (ts.length = 2) || decide (ts.length = 3)) = true := by simpa using hl
     rw [hb];refine yl ?_;obtain ⟨x0, r, rfl⟩ : ∃ x0 r, ts = x0 :: r := by
      cases ts with
      | nil => simp at hl
      | cons a b => exact ⟨a, b, rfl⟩
     have hr1 : r.length = 1 ∨ r.length = 2 := by simpa using hl
     have hrb : (decide (r.length = 1) || decide (r.length = 2)) = true := by simpa using hr1
     have ht1 := ht.mono s1;obtain ⟨a, xs, u0, rfl, sq, ea, hu0⟩ := Is.at (K := K) (i := 0) ht1 rfl;refine ⟨_, rfl, a, xs, _, u0, rfl, rfl, sq, ea, u0, "str", _, _, rfl, hu0.ty, Qj K x0, _, rfl, ?_⟩;cases x0 with
     | str x =>
       refine yl ?_;cases (show u0 = .str x from hu0);have kk : ∀ H', Same H H' → Q (.bl (Xr x r num b ww n)) H' := fun H' s' => by
        have q : Q (.bl ((decide (r.length = 1) || decide (r.length = 2)) && Xr x r num b ww n)) H' := k H' s';rw [hrb, bj] at q;exact q
       have item : ∀ {H' : Hp} (i : Nat), Same H1 H' → i < r.length → ∃ xs' u, SqT K H' a xs' ∧ atI xs' ((i + 1 : Nat) : Int) = some u ∧ Is H' (r.getD i .non) u := fun {H'} i s' hi => by
        have e : (L2.T.str x :: r)[i + 1]? = some (r.getD i .non) := by
         show r[i]? = _;rw [cu, be hi];rfl
        obtain ⟨a', xs', u, e', sq', ea', hu⟩ := Is.at (K := K) (ht1.mono s') e;cases e';exact ⟨xs', u, sq', ea', hu⟩
       obtain ⟨a1, ys, q1, hya, hyl⟩ := id ht1;cases q1;have hyn := hyl.length;have hyn : ys.length = r.length + 1 := by simpa using hyn
       refine ⟨_, rfl, a, xs, _, _, rfl, rfl, sq, ea, ?_⟩;refine ⟨_, rfl, rfl, _, rfl, ?_⟩;refine vm (fun c => ?_) (fun c => ?_)
       · have k1 := kk;unfold Xr at k1;rw [if_pos c] at k1;refine ⟨_, rfl, 1, rfl, a, ys, rfl, SqT.of hya, ?_, fun p hp => ?_⟩
         · intro hh;have h1 := hh.1;have h2 : HT.sIx ys.length 0 (some ((1 : Nat) : Int)) = min 1 ys.length := HT.sIx_nat _ _ _;have h3 : min 1 ys.length = 0 := h2.symm.trans h1;omega
         · have ecut : Z7 ys (some 1) none = ys.drop 1 := by
            have h2 : HT.sIx ys.length 0 (some ((1 : Nat) : Int)) = min 1 ys.length := HT.sIx_nat _ _ _;have h2 : HT.sIx ys.length 0 (some 1) = 1 := h2.trans (by omega);unfold Z7;rw [h2, HT.sIx_none, List.take_of_length_le (by rw [List.length_drop]; exact ai _)]
           refine ⟨_, rfl, _, _, rfl, rfl, _, rfl, .tup r, .ref p, num + 1, hv, b, ww, n, rfl, ?_, (hH.mono s1).mono (Same.new hp _), fun H2 s2 => k1 H2 (s1.trans ((Same.new hp _).trans s2))⟩;rw [ecut];exact Is.newTup hp (hyl.drop 1)
       refine ⟨_, rfl, rfl, _, rfl, ?_⟩;have three : ∀ (most : Int), (∀ H', Same H H' → Q (.bl (decide (r.length = 2) && (zo (g0 r) 0 (b - 1) && zo (g1 r) 1 most))) H') →
         (V.bl (decide (V.int (ys.length : Int) = V.int 3)) = V.bl true → (∀ H2, Same H1 H2 → zo (g0 r) 0 (b - 1) = true → ∀ H3, Same H2 H3 → Q (.bl (zo (g1 r) 1 most)) H3) ∧ (zo (g0 r) 0 (b - 1) = false → ∀ H2, Same H1 H2 → Q (.bl false) H2)) ∧
         (V.bl (decide (V.int (ys.length : Int) = V.int 3)) = V.bl false → Q (.bl false) H1) := fun most km => by
        refine ⟨fun e => ?_, fun e => ?_⟩
        · have h3 : ys.length = 3 := by
           have := V.bl.inj e;have := cb this;have := V.int.inj this;omega
          have hr2 : r.length = 2 := by omega
          rw [au hr2, bj] at km;refine ⟨fun H2 s2 d H3 s3 => ?_, fun d H2 s2 => ?_⟩
          · have q := km H3 (s1.trans (s2.trans s3));rw [d, bj] at q;exact q
          · have q := km H2 (s1.trans s2);rw [d, c7] at q;exact q
        · have h3 : ¬ r.length = 2 := fun z => by
           have := V.bl.inj e;have := of_decide_eq_false this;exact this (congrArg V.int (by omega))
          have q := km H1 s1;rw [bn h3, c7] at q;exact q
       refine vm (fun c2 => ?_) (fun c2 => ?_)
       · have k1 := kk;unfold Xr at k1;rw [if_neg c, if_pos c2] at k1;obtain ⟨t1, t2⟩ := three 99 k1;refine ⟨_, rfl, a, ys, rfl, .inr (SqT.of hya), rfl, _, rfl, ?_⟩;refine vm (fun d => ?_) (fun d => t2 (congrArg V.bl (Bool.eq_false_iff.mpr d)));obtain ⟨t3, t4⟩ := t1 (congrArg V.bl d);have h3 : ys.length = 3 := by
          have := V.int.inj (cb d);omega
         obtain ⟨xs', u, sq', ea', hu⟩ := item 0 (Same.refl H1) (by omega);refine ⟨_, rfl, a, xs', _, u, rfl, rfl, sq', ea', _, rfl, g0 r, u, hv, b, ww, n, rfl, hu, hH.mono s1, fun H2 s2 => ⟨_, rfl, ?_⟩⟩;refine vm (fun d2 => ?_) (fun d2 => t4 (Bool.eq_false_iff.mpr d2) H2 s2);obtain ⟨xs', u, sq', ea', hu⟩ := item 1 s2 (by omega);exact ⟨_, rfl, a, xs', _, u, rfl, rfl, sq', ea', g1 r, u, 1, 99, rfl, hu, fun H3 s3 => t3 H2 s2 d2 H3 s3⟩
       refine ⟨_, rfl, rfl, _, rfl, ?_⟩;refine vm (fun c3 => ?_) (fun c3 => ?_)
       · have k1 := kk;unfold Xr at k1;rw [if_neg c, if_neg c2, if_pos c3] at k1;obtain ⟨t1, t2⟩ := three 9999 k1;refine ⟨_, rfl, a, ys, rfl, .inr (SqT.of hya), rfl, _, rfl, ?_⟩;refine vm (fun d => ?_) (fun d => t2 (congrArg V.bl (Bool.eq_false_iff.mpr d)));obtain ⟨t3, t4⟩ := t1 (congrArg V.bl d);have h3 : ys.length = 3 := by
          have := V.int.inj (cb d);omega
         obtain ⟨xs', u, sq', ea', hu⟩ := item 0 (Same.refl H1) (by omega);refine ⟨_, rfl, a, xs', _, u, rfl, rfl, sq', ea', _, rfl, g0 r, u, hv, b, ww, n, rfl, hu, hH.mono s1, fun H2 s2 => ⟨_, rfl, ?_⟩⟩;refine vm (fun d2 => ?_) (fun d2 => t4 (Bool.eq_false_iff.mpr d2) H2 s2);obtain ⟨xs', u, sq', ea', hu⟩ := item 1 s2 (by omega);exact ⟨_, rfl, a, xs', _, u, rfl, rfl, sq', ea', g1 r, u, 1, 9999, rfl, hu, fun H3 s3 => t3 H2 s2 d2 H3 s3⟩
       have k1 := kk;unfold Xr at k1;rw [if_neg c, if_neg c2, if_neg c3] at k1;refine ⟨_, rfl, a, ys, rfl, .inr (SqT.of hya), rfl, _, rfl, ?_⟩;refine vm (fun d => ?_) (fun d => ?_)
       · have h1 : r.length ≠ 1 := fun z => by
          have e : V.int (ys.length : Int) = V.int 2 := congrArg V.int (by omega);rw [au e] at d;cases d
         rw [if_pos h1] at k1;exact k1 H1 s1
       have h1 : r.length = 1 := by
        rcases hr1 with z | z
        · exact z
        · exfalso;apply d;have e : ¬ V.int (ys.length : Int) = V.int 2 := fun q => by have := V.int.inj q; omega
          rw [bn e];rfl
       rw [if_neg (by omega)] at k1;refine ⟨_, rfl, (by show 3 ≤ sizeLine; decide), fun p hp => ⟨p, _, rfl, .inr (SqT.of zf), rfl, rfl, _, rfl, ?_⟩⟩;have sp := Same.new hp (.tup [.str "come", .str "go", .str "leave"]);refine vm (fun c4 => ?_) (fun c4 => ?_)
       · have c4 : inV (.str x) [.str "come", .str "go", .str "leave"] = true := c4;rw [if_pos c4] at k1;obtain ⟨xs', u, sq', ea', hu⟩ := item 0 sp (by omega);exact ⟨_, rfl, a, xs', _, u, rfl, rfl, sq', ea', _, rfl, g0 r, u, hv, b, ww, n, rfl, hu, (hH.mono s1).mono sp, fun H3 s3 => k1 H3 (s1.trans (sp.trans s3))⟩
       have c4 : ¬ inV (.str x) [.str "come", .str "go", .str "leave"] = true := c4;rw [if_neg c4] at k1;refine ⟨_, rfl, rfl, _, rfl, ?_⟩;refine vm (fun c5 => ?_) (fun c5 => ?_)
       · rw [if_pos c5] at k1;obtain ⟨xs', u, sq', ea', hu⟩ := item 0 sp (by omega);exact ⟨_, rfl, a, xs', _, u, rfl, rfl, sq', ea', g0 r, u, 0, 999, rfl, hu, fun H3 s3 => k1 H3 (s1.trans (sp.trans s3))⟩
       rw [if_neg c5] at k1;refine ⟨_, rfl, rfl, _, rfl, ?_⟩;refine vm (fun c6 => ?_) (fun c6 => ?_)
       · have c6' : wEq x "say" = true := c6;rw [c6', bj] at k1;obtain ⟨xs', u, sq', ea', hu⟩ := item 0 sp (by omega);refine ⟨_, rfl, a, xs', _, u, rfl, rfl, sq', ea', g0 r, u, rfl, hu, ?_, fun H3 s3 => k1 H3 (s1.trans (sp.trans s3))⟩;refine hW _ rfl _ (aq _ ?_);unfold g0;rw [cu, be (by omega : 0 < r.length)];exact List.getElem_mem _
       · have c6' : wEq x "say" = false := Bool.eq_false_iff.mpr c6;rw [c6', c7] at k1;exact k1 _ (s1.trans sp)
     | _ =>
       refine yp ?_;exact k H1 s1
   · have hb : (decide (ts.length = 2) || decide (ts.length = 3)) = false := by simpa using hl
     rw [hb];refine yp (yp ?_);have e : vy (.tup ts) num b ww n = false := by
      unfold vy;split
      · rename_i x r heq
        have heq : ts = .str x :: r := by injection heq
        rw [heq] at hl;have : (decide (r.length = 1) || decide (r.length = 2)) = false := by simpa using hl
        rw [this, c7]
      · rfl
     have kk := k H1 s1;rw [e] at kk;exact kk
 | _ => exact yp (yp (k H1 s1))
noncomputable def ze0 (t : T) (num : Int) (b w : Int) (n : Nat) : Bool := match t with | .tup ts => ts.all fun d => vy d num b w n | _ => false
noncomputable def ji (t : T) (num : Int) (b w : Int) (n : Nat) : Bool := xl t 0 80 && ze0 t num b w n
theorem Zd {o : Option NameKind} (h : o = some .cell) : o ≠ some .local := fun z => by rw [h] at z; cases z
noncomputable def Ws (t : T) : Prop := ∀ ts, t = .tup ts → ∀ d ∈ ts, Wd d
noncomputable def zqs : Sp := fun vs H Q _ => ∃ t v num hv b w n, vs = [v, .int num, hv] ∧ Is H t v ∧ HIs H b w n hv ∧ Ws t ∧ ∀ H', Same H H' → Q (.bl (ji t num b w n)) H'
theorem Y0 (h : n ≤ 1000) : n ≤ sizeLine := Nat.le_of_lt (y7 h)
theorem zg5 : FnScope ["thing", "number", "house"] ["thing", "number", "house"] (zi Za) := .of
theorem za4 (D : Def K mg "is_script" Za) (T : Txt K mg) (o1 : Ok P w K mg base "is_tuple_within" 1 ["thing", "least", "most"] zg1) (o2 : Ok P w K mg base "is_deed" 7 ["thing", "number", "house"] zq6) :
  Ok P w K mg base "is_script" 8 ["thing", "number", "house"] zqs := by
 refine vp D zg5 (fun vs H Q E ⟨t, v, lo, hv, b, w, n, e, _⟩ => by rw [e]; rfl) fun f cdv A outer s H vs Q E hr h => ?_;obtain ⟨t, v, num, hv, b, ww, n, rfl, ht, hH, hW, k⟩ := h;refine ⟨_, ze (yh (xt (yz (ya o1 (hr.mono (by decide)) (zc (pv 0) (zc zg (zc (y4 T.MOST_DEEDS_OF_SCRIPT) zd)))))) (zh (zn xx)) zx)
  (zh (zn (yf (Zr rfl) rfl T.all Vs (zc (Yd (own := ["deed"]) (cap := [1, 2]) rfl (xr (zi Za) rfl rfl (by decide +kernel) (by decide +kernel) (by decide +kernel) ⟨⟨_, rfl, .inl rfl, Zd rfl⟩, ⟨_, rfl, .inl rfl, Zd rfl⟩, trivial⟩) (ql (pv 0))
   (fun _ _ _ _ => yd (i := 0) (by show (["deed", "number", "house"] : List Str).Nodup; decide +kernel) rfl (Or.inl rfl)) (fun _ _ _ _ => wa)
   (fun _ _ _ _ => ya o2 hr (zc (pv 0) (zc (pv 1) (zc (pv 2) zd))))) zd)))), ?_⟩
 refine ⟨_, rfl, t, v, 0, 80, rfl, ht, fun H1 s1 => ⟨_, rfl, ?_⟩⟩;have kk : ∀ H', Same H H' → Q (.bl (xl t 0 80 && ze0 t num b ww n)) H' := k;cases c : xl t 0 80 with
 | false =>
   rw [c] at kk;exact yp (kk H1 s1)
 | true =>
   rw [c] at kk;refine yl ?_;cases t with
   | tup ts =>
     have hlen : ts.length ≤ 80 := by
      have c : (decide ((0 : Int) ≤ (ts.length : Int)) && decide ((ts.length : Int) ≤ 80)) = true := c;simp only [bu, decide_eq_true_eq] at c;omega
     obtain ⟨a, xs, rfl, ha, hl⟩ := ht.mono s1;have hxl := hl.length;refine ⟨_, rfl, a, rfl, ⟨xs, SqT.of ha⟩, ?_⟩;refine Xt (xs := xs) (fun i ys H' => Same H1 H' ∧ ys = (ts.take i).map fun d => V.bl (vy d num b ww n)) ⟨Same.refl H1, rfl⟩ (fun i ys H' hi ⟨s2, e⟩ => ⟨SqT.of (s2 _ _ ha), by rw [e, ae, cg]; exact Y0 (by omega)⟩) ?_ ?_
     · rintro i x ys H' hx ⟨s2, rfl⟩;refine Vq ?_;obtain ⟨d, hd, hxd⟩ := hl.get' hx;refine ⟨_, rfl, _, rfl, _, rfl, d, x, num, hv, b, ww, n, rfl, hxd.mono s2, (hH.mono s1).mono s2, hW ts rfl d (bz hd), fun H3 s3 => ⟨s2.trans s3, ?_⟩⟩;rw [cm, hd, az];rfl
     · rintro ys H' ⟨s2, rfl⟩ p hp;refine ⟨p, ts.map fun d => vy d num b ww n, rfl, SqL.of ?_, ?_⟩
       · rw [zf, cp, hxl, ci];rfl
       · have e : (ts.map fun d => vy d num b ww n).all id = ts.all fun d => vy d num b ww n := by rw [List.all_map]; rfl
         rw [e];exact kk _ (s1.trans (s2.trans (Same.new hp _)))
   | _ => cases c
noncomputable def jc (t : T) : Bool := match t with | .tup [b, w, f, s] => zo b 0 99 && (zo w 0 6 && (xl f 1 40 && xl s 1 20)) | _ => false
theorem zs9 {t : L2.T} (h : xl t 4 4 = true) : ∃ x y z u, t = .tup [x, y, z, u] := by
 cases t with
 | tup ts =>
   have h : (decide ((4 : Int) ≤ (ts.length : Int)) && decide ((ts.length : Int) ≤ 4)) = true := h;simp only [bu, decide_eq_true_eq] at h;have : ts.length = 4 := by omega
   match ts, this with
   | [x, y, z, u], _ => exact ⟨x, y, z, u, rfl⟩
 | _ => cases h
theorem tup4' {x y z u : L2.T} : xl (.tup [x, y, z, u]) 4 4 = true := by simp [xl]
theorem zjf : FnScope ["thing"] ["thing"] (zi Xk) := .of
theorem zcq (D : Def K mg "is_frame" Xk) (T : Txt K mg) (o1 : Ok P w K mg base "is_tuple_within" 1 ["thing", "least", "most"] zg1) (o2 : Ok P w K mg base "is_within" 2 ["thing", "least", "most"] zg0) :
  Ok P w K mg base "is_frame" 3 ["thing"] (V7 (fun _ => True) jc) := by
 refine vp D zjf (fun vs H Q E ⟨t, v, e, _⟩ => by rw [e]; rfl) fun f cdv A outer s H vs Q E hr h => ?_;obtain ⟨t, v, rfl, ht, _, k⟩ := h;have r1 := hr.mono (show 1 ≤ 2 by decide);refine ⟨_, ze (yh (xt (yz (ya o1 r1 (zc (pv 0) (zc zg (zc zg zd)))))) (zh (zn xx)) zx)
  (ze (yh (PW.pt (Yr (xt (yz (ya o2 hr (zc (zp zt (pv 0) (y4 T.BOXES) (fun _ _ => rfl)) (zc zg (zc (y4 T.MOST_BOXES) zd)))))) (j9 (xt (yz (ya o2 hr (zc (zp zt (pv 0) (y4 T.WALLS) (fun _ _ => rfl)) (zc zg (zc (y4 T.MOST_WALLS) zd)))))))))
   (zh (zn xx)) zx)
  (zh (zn (ja (ya o1 r1 (zc (zp zt (pv 0) (y4 T.FIRSTS) (fun _ _ => rfl)) (zc zg (zc (y4 T.MOST_FIRSTS) zd)))) (ka (ya o1 r1 (zc (zp zt (pv 0) (y4 T.SCRIPTS) (fun _ _ => rfl)) (zc zg (zc (y4 T.MOST_SCRIPTS) zd))))))))), ?_⟩
 refine ⟨_, rfl, t, v, 4, 4, rfl, ht, fun H1 s1 => ⟨_, rfl, ?_⟩⟩;cases c : xl t 4 4 with
 | false =>
   refine yp ?_;have e : jc t = false := by
    unfold jc;split
    · rw [tup4'] at c; cases c
    · rfl
   have kk := k H1 s1;rw [e] at kk;exact kk
 | true =>
   obtain ⟨x, y, z, u, rfl⟩ := zs9 c;refine yl ?_;have kk : ∀ H', Same H H' → Q (.bl (zo x 0 99 && (zo y 0 6 && (xl z 1 40 && xl u 1 20)))) H' := k;obtain ⟨a, xs, u0, rfl, sq, ea, hu0⟩ := Is.at (K := K) (i := 0) (ht.mono s1) rfl;refine ⟨_, rfl, a, xs, _, _, rfl, rfl, sq, ea, x, u0, 0, 99, rfl, hu0, fun H2 s2 => ⟨_, rfl, ?_⟩⟩;cases d1 : zo x 0 99 with
   | false =>
     rw [d1] at kk;exact yp (yp (kk H2 (s1.trans s2)))
   | true =>
     rw [d1, bj] at kk;refine yl ?_;obtain ⟨a', xs, u1, e', sq, ea, hu1⟩ := Is.at (K := K) (i := 1) (ht.mono (s1.trans s2)) rfl;cases e';refine ⟨_, rfl, a, xs, _, _, rfl, rfl, sq, ea, y, u1, 0, 6, rfl, hu1, fun H3 s3 => ⟨_, rfl, ?_⟩⟩;have s123 := (s1.trans s2).trans s3;cases d2 : zo y 0 6 with
     | false =>
       rw [d2] at kk;exact yp (kk H3 s123)
     | true =>
       rw [d2, bj] at kk;refine yl ?_;obtain ⟨a', xs, u2, e', sq, ea, hu2⟩ := Is.at (K := K) (i := 2) (ht.mono s123) rfl;cases e';refine ⟨_, rfl, a, xs, _, _, rfl, rfl, sq, ea, z, u2, 1, 40, rfl, hu2, fun H4 s4 => ⟨_, rfl, ?_⟩⟩;have s1234 := s123.trans s4;cases d3 : xl z 1 40 with
       | false =>
         rw [d3] at kk;exact yl (kk H4 s1234)
       | true =>
         rw [d3, bj] at kk;refine yp ?_;obtain ⟨a', xs, u3, e', sq, ea, hu3⟩ := Is.at (K := K) (i := 3) (ht.mono s1234) rfl;cases e';exact ⟨_, rfl, a, xs, _, _, rfl, rfl, sq, ea, u, u3, 1, 20, rfl, hu3, fun H5 s5 => kk H5 (s1234.trans s5)⟩
noncomputable def goS (b w : Int) (n : Nat) : Int → List T → Bool
 | _, [] => true
 | i, s :: r => ji s i b w n && goS b w n (i + 1) r
noncomputable def mWf (t : T) : Bool := jc t && (match t with | .tup [.int b, .int w, .tup fs, .tup ss] => goS b w ss.length 0 ss && fs.all (fun c => xj c 0 ss.length w) | _ => false)
noncomputable def Wh (t : T) : Prop := ∀ b w f ss, t = .tup [b, w, f, .tup ss] → ∀ s ∈ ss, Ws s
theorem zez (h : jc t = true) : ∃ b w fs ss, t = .tup [.int b, .int w, .tup fs, .tup ss] ∧ fs.length ≤ 40 ∧ ss.length ≤ 20 := by
 unfold jc at h;split at h
 · rename_i x y z u
   simp only [bu] at h;obtain ⟨h1, h2, h3, h4⟩ := h;cases x with
   | int b =>
     cases y with
     | int w =>
       cases z with
       | tup fs =>
         cases u with
         | tup ss =>
           simp only [xl, bu, decide_eq_true_eq] at h3 h4;exact ⟨b, w, fs, ss, rfl, by omega, by omega⟩
         | _ => simp [xl] at h4
       | _ => simp [xl] at h3
     | _ => simp [zo] at h2
   | _ => simp [zo] at h1
 · cases h
theorem zjb : FnScope ["thing", "number", "script"] ["thing"] (zi vj) := .of
theorem Wi (D : Def K mg "is_well_formed" vj) (T : Txt K mg) (o1 : Ok P w K mg base "is_frame" 3 ["thing"] (V7 (fun _ => True) jc)) (o2 : Ok P w K mg base "is_script" 8 ["thing", "number", "house"] zqs)
  (o3 : Ok P w K mg base "is_calling" 6 ["thing", "least", "house"] zom) : Ok P w K mg base "is_well_formed" 9 ["thing"] (V7 Wh mWf) := by
 refine vp D zjb (fun vs H Q E ⟨t, v, e, _⟩ => by rw [e]; rfl) fun f cdv A outer s H vs Q E hr h => ?_;obtain ⟨t, v, rfl, ht, hW, k⟩ := h;refine ⟨_, ze (yh (xt (yz (ya o1 (hr.mono (by decide)) (zc (pv 0) zd)))) (zh (zn xx)) zx)
  (ze (wr PassesOwn.never rfl (zml rfl T.enumerate (zc (zp zt (pv 0) (y4 T.SCRIPTS) (fun _ _ => rfl)) zd)) (Xn rfl (xi (yd (i := 1) zjb.nd rfl (Or.inl rfl)) (xi (yd (i := 2) zjb.nd rfl (Or.inl rfl)) Z2)))
   (zh (yh (xt (yz (ya o2 hr (zc (pv 2) (zc (pv 1) (zc (pv 0) zd)))))) (zh (zn xx)) zx)))
  (zh (zn (yf (Zr rfl) rfl T.all Vs (zc (Yd (own := ["calling"]) (cap := [0]) rfl (xr (zi vj) rfl rfl (by decide +kernel) (by decide +kernel) (by decide +kernel) ⟨⟨_, rfl, .inl rfl, Zd rfl⟩, trivial⟩) (ql (zp zt (pv 0) (y4 T.FIRSTS) (fun _ _ => rfl)))
   (fun _ _ _ _ => yd (i := 0) (by show (["calling", "thing"] : List Str).Nodup; decide +kernel) rfl (Or.inl rfl)) (fun _ _ _ _ => wa)
   (fun _ _ _ _ => ya o3 (hr.mono (by decide)) (zc (pv 0) (zc zg (zc (pv 1) zd))))) zd))))), ?_⟩
 refine ⟨_, rfl, t, v, rfl, ht, trivial, fun H1 s1 => ⟨_, rfl, ?_⟩⟩;cases c : jc t with
 | false =>
   refine yp ?_;have e : mWf t = false := by unfold mWf; rw [c, c7]
   have kk := k H1 s1;rw [e] at kk;exact kk
 | true =>
   refine yl ?_;obtain ⟨b, ww, fs, ss, rfl, hf40, hs20⟩ := zez c;have kk : ∀ H', Same H H' → Q (.bl (goS b ww ss.length 0 ss && fs.all fun c => xj c 0 ss.length ww)) H' := fun H' s' => by
    have q := k H' s';unfold mWf at q;rw [c, bj] at q;exact q
   have hHI : ∀ {H'}, Same H H' → HIs H' b ww ss.length v := fun s' => ⟨_, ss, ht.mono s', rfl, rfl, rfl, rfl⟩
   obtain ⟨a, xs, us, rfl, sq, ea, hus⟩ := Is.at (K := K) (i := 3) (ht.mono s1) rfl;obtain ⟨as, xss, rfl, has, hls⟩ := hus;have hxl := hls.length;refine ⟨_, rfl, a, xs, _, _, rfl, rfl, sq, ea, as, xss, rfl, SqT.of has, ?_⟩;refine zk0 (K := K) (a := as) (xs := xss) (fun i σ H' => ∃ nv sv, σ = [some (.ref a), nv, sv] ∧ Same H1 H' ∧ goS b ww ss.length 0 ss = goS b ww ss.length (i : Int) (ss.drop i)) ⟨none, none, rfl, Same.refl H1, rfl⟩ (fun i σ H' _ ⟨_, _, _, s2, _⟩ => SqT.of (s2 _ _ has)) ?_ ?_
   · rintro i x σ H' p hx ⟨nv, sv, rfl, s2, hg⟩ hp;obtain ⟨sc, hsc, hxs⟩ := hls.get' hx;have hdrop : ss.drop i = sc :: ss.drop (i + 1) := by
      obtain ⟨h1, h2⟩ := c9.mp hsc;rw [List.drop_eq_getElem_cons h1, h2]
     have s3 := s2.trans (Same.new hp (.tup [.int i, x]));refine ⟨p, _, rfl, SqT.of zf, rfl, _, _, rfl, _, _, rfl, rfl, ?_⟩;refine ⟨_, rfl, _, rfl, _, rfl, sc, x, (i : Int), _, b, ww, ss.length, rfl, hxs.mono s3, hHI (s1.trans s3), hW _ _ _ _ rfl sc (bz hsc), fun H4 s4 => ⟨_, rfl, ?_⟩⟩;have hg2 : goS b ww ss.length 0 ss = (ji sc (i : Int) b ww ss.length && goS b ww ss.length ((i : Int) + 1) (ss.drop (i + 1))) := by rw [hg, hdrop]; rfl
     cases d : ji sc (i : Int) b ww ss.length with
     | false =>
       refine yp ?_;have q := kk H4 (s1.trans (s3.trans s4));rw [hg2, d] at q;exact q
     | true =>
       refine yl ?_;refine ⟨_, _, rfl, s3.trans s4, ?_⟩;rw [hg2, d, bj];rfl
   · rintro σ H' ⟨nv, sv, rfl, s2, hg⟩;rw [hxl, List.drop_length] at hg;have hg : goS b ww ss.length 0 ss = true := hg;rw [hg] at kk;have s12 := s1.trans s2;obtain ⟨a', xs', uf, e', sq', ea', huf⟩ := Is.at (K := K) (i := 2) (ht.mono s12) rfl;cases e';obtain ⟨af, xf, rfl, haf, hlf⟩ := huf;have hfl := hlf.length;refine ⟨_, rfl, a, xs', _, _, rfl, rfl, sq', ea', af, rfl, ⟨xf, SqT.of haf⟩, ?_⟩;refine Xt (xs := xf) (fun i ys H3 => Same H' H3 ∧ ys = (fs.take i).map fun d => V.bl (xj d 0 ss.length ww)) ⟨Same.refl H', rfl⟩ (fun i ys H3 hi ⟨s3, e⟩ => ⟨SqT.of (s3 _ _ haf), by rw [e, ae, cg]; exact Y0 (by omega)⟩) ?_ ?_
     · rintro i x ys H3 hx ⟨s3, rfl⟩;refine Vq ?_;obtain ⟨d, hd, hxd⟩ := hlf.get' hx;refine ⟨_, rfl, _, rfl, d, x, 0, _, b, ww, ss.length, rfl, hxd.mono s3, hHI (s12.trans s3), fun H4 s4 => ⟨s3.trans s4, ?_⟩⟩;rw [cm, hd, az];rfl
     · rintro ys H3 ⟨s3, rfl⟩ p hp;refine ⟨p, fs.map fun d => xj d 0 ss.length ww, rfl, SqL.of ?_, ?_⟩
       · rw [zf, cp, hfl, ci];rfl
       · have e : (fs.map fun d => xj d 0 ss.length ww).all id = fs.all fun d => xj d 0 ss.length ww := by rw [List.all_map]; rfl
         rw [e];exact kk _ (s12.trans (s3.trans (Same.new hp _)))
abbrev Mem := Int × Str
inductive Deed where
 | rai (b k : Int) | awa (b m : Int) | com (w : Int) | goo (w : Int) | lea (w : Int) | beg (s : Nat) (ms : List Mem) | wor (d : Int) | say (x : Str)
abbrev yb := List Deed
abbrev zm := Nat × List Mem
structure House where
 b : Int
 w : Int
 fs : List zm
 ss : List yb
noncomputable def Y8 (m : Mem) : T := .tup [.int m.1, .str m.2]
noncomputable def eMs (ms : List Mem) : T := .tup (ms.map Y8)
noncomputable def eD : Deed → T
 | .rai b k => .tup [.str "raise", .int b, .int k]
 | .awa b m => .tup [.str "await", .int b, .int m]
 | .com w => .tup [.str "come", .int w]
 | .goo w => .tup [.str "go", .int w]
 | .lea w => .tup [.str "leave", .int w]
 | .beg s ms => .tup [.str "begin", .int s, eMs ms]
 | .wor d => .tup [.str "work", .int d]
 | .say x => .tup [.str "say", .str x]
noncomputable def eS (s : yb) : T := .tup (s.map eD)
noncomputable def eC (c : zm) : T := .tup [.int c.1, eMs c.2]
noncomputable def eH (h : House) : T := .tup [.int h.b, .int h.w, .tup (h.fs.map eC), .tup (h.ss.map eS)]
noncomputable def dw : Deed → Str
 | .rai _ _ => "raise" | .awa _ _ => "await" | .com _ => "come" | .goo _ => "go" | .lea _ => "leave" | .beg _ _ => "begin" | .wor _ => "work" | .say _ => "say"
theorem zgj (d : Deed) : ∃ r, eD d = .tup (.str (dw d) :: r) := by cases d <;> exact ⟨_, rfl⟩
noncomputable def stp (g : Nat → Nat × Nat) (a : Nat × Nat) : Deed → Nat × Nat
 | .beg j _ => (a.1 + (g j).1, a.2 + (g j).2)
 | _ => a
noncomputable def zic (ss : List yb) : Nat → Nat → Nat × Nat
 | 0, _ => (0, 0)
 | f + 1, i => (ss.getD i []).foldl (stp (zic ss f)) (1, (ss.getD i []).length)
noncomputable def cnt (ss : List yb) (i : Nat) : Nat × Nat := zic ss (ss.length - i) i
noncomputable def zah (ss : List yb) : Prop := ∀ (i : Nat) s, ss[i]? = some s → ∀ j ms, Deed.beg j ms ∈ s → i < j ∧ j < ss.length
theorem Xw {g g' : Nat → Nat × Nat} : ∀ (l : List Deed) (a : Nat × Nat), (∀ j ms, Deed.beg j ms ∈ l → g j = g' j) → l.foldl (stp g) a = l.foldl (stp g') a
 | [], _, _ => rfl
 | d :: r, a, h => by
   rw [List.foldl_cons, List.foldl_cons];have e : stp g a d = stp g' a d := by
    cases d with
    | beg j ms => simp only [stp]; rw [h j ms ao]
    | _ => rfl
   rw [e];exact Xw r _ fun j ms hm => h j ms (aq _ hm)
theorem znj {ss : List yb} (L : zah ss) : ∀ (m i f : Nat), ss.length - i = m → i < ss.length → m ≤ f → zic ss f i = zic ss m i := by
 intro m;induction m using Nat.strongRecOn with
 | ind m ih =>
   intro i f hm hi hf;obtain ⟨m', rfl⟩ : ∃ m', m = m' + 1 := ⟨m - 1, by omega⟩
   obtain ⟨f', rfl⟩ : ∃ f', f = f' + 1 := ⟨f - 1, by omega⟩
   have hs : ss[i]? = some ss[i] := be hi;have hg : ss.getD i [] = ss[i] := by rw [cu, hs]; rfl
   simp only [zic];rw [hg];refine Xw _ _ fun j ms hj => ?_;obtain ⟨h1, h2⟩ := L i _ hs j ms hj;rw [ih (ss.length - j) (by omega) j f' rfl h2 (by omega), ih (ss.length - j) (by omega) j m' rfl h2 (by omega)]
theorem zlg {ss : List yb} (L : zah ss) {i : Nat} {s : yb} (hs : ss[i]? = some s) : cnt ss i = s.foldl (stp (cnt ss)) (1, s.length) := by
 obtain ⟨hi, he⟩ := c9.mp hs;have hg : ss.getD i [] = s := by rw [cu, hs]; rfl
 unfold cnt;obtain ⟨m, hm⟩ : ∃ m, ss.length - i = m + 1 := ⟨ss.length - i - 1, by omega⟩
 rw [hm];simp only [zic];rw [hg];refine Xw _ _ fun j ms hj => ?_;obtain ⟨h1, h2⟩ := L i _ hs j ms hj;exact znj L (ss.length - j) j m rfl h2 (by omega)
noncomputable def zpn (c : Nat × Nat) : HO := .tup [.int (c.1 : Int), .int (c.2 : Int)]
noncomputable def Bro (ss : List yb) (lo : Nat) (H : Hp) (d : Addr) : Prop := ∃ kvs : List (Key × V), H d = some (.dK kvs) ∧ kvs.length ≤ ss.length - lo ∧ ∀ j, lo ≤ j → j < ss.length → ∃ p, xz kvs (Sum.inl (j : Int) : Key) = some (.ref p) ∧ H p = some (zpn (cnt ss j))
noncomputable def zq7 : Sp := fun vs H Q _ => ∃ (ss : List yb) (v : V), vs = [v] ∧ Is H (.tup (ss.map eS)) v ∧ zah ss ∧ ss.length ≤ 20 ∧ ∀ d H', Same H H' → Bro ss 0 H' d → Q (.ref d) H'
theorem vb : FnScope ["scripts", "brought", "number", "hands", "deeds", "deed"] ["scripts"] (zi Ve) := .of
theorem zeu (D : Def K mg "brought_by_scripts" Ve) (T : Txt K mg) : Ok P w K mg base "brought_by_scripts" 1 ["scripts"] zq7 := by
 refine vp D vb (fun vs H Q E ⟨t, v, e, _⟩ => by rw [e]; rfl) fun f cdv A outer s H vs Q E hr h => ?_;obtain ⟨ss, v, rfl, ht, hL, h20, k⟩ := h;have hu := Ji hr;refine ⟨_, ze (zr (i := 1) vb.nd rfl (Or.inl rfl) zcf)
  (ze (wr PassesOwn.never rfl (zmm rfl T.range (zc (yc Vh (yf yg (by rfl) T.len xp (zc (pv 0) zd)) zg) (zc (zfw zam zg) (zc (zfw zam zg) zd)))) (yd (i := 2) vb.nd rfl (Or.inl rfl))
   (ze (zr (i := 3) vb.nd rfl (Or.inl rfl) zg)
   (ze (zr (i := 4) vb.nd rfl (Or.inl rfl) (yf yg (by rfl) T.len xp (zc (zp zt (pv 0) (pv 2) (fun _ _ => rfl)) zd)))
   (ze (wr PassesOwn.never rfl (ql (zp zt (pv 0) (pv 2) (fun _ _ => rfl))) (yd (i := 5) vb.nd rfl (Or.inl rfl))
    (zh (yh (zu wo (zp zt (pv 5) zg (fun _ _ => rfl)) zl (ye _))
     (ze (zjr (i := 3) vb.nd rfl (Or.inl rfl) (zp zt (jv hu (pv 1) (zp zt (pv 5) zg (fun _ _ => rfl)) (fun _ _ => rfl)) zg (fun _ _ => rfl)) zks)
     (zh (zjr (i := 4) vb.nd rfl (Or.inl rfl) (zp zt (jv hu (pv 1) (zp zt (pv 5) zg (fun _ _ => rfl)) (fun _ _ => rfl)) zg (fun _ _ => rfl)) zks))) zx)))
   (zh (zfu hu (pv 1) (pv 2) (xu (zc (pv 3) (zc (pv 4) zd))) rfl))))))
  (zh (zn (pv 1)))), ?_⟩
 obtain ⟨a, xs, rfl, ha, hl⟩ := ht;have hxl := hl.length;rw [ae] at hxl;intro d hd;have s0 := Same.new hd (.dK []);refine ⟨_, rfl, a, xs, rfl, .inr (SqT.of (s0 _ _ ha)), _, _, rfl, rfl, _, rfl, _, rfl, xs.length, rfl, (by omega), ?_⟩;refine zk1 (lo := (xs.length : Int) - 1) (n := xs.length) (fun i σ H' => (∃ x2 x3 x4 x5, σ = [some (.ref a), some (.ref d), x2, x3, x4, x5]) ∧ Same H H' ∧ Bro ss (ss.length - i) H' d) ⟨⟨none, none, none, none, rfl⟩, s0, [], zf, bd _, fun j h1 h2 => absurd h2 (by omega)⟩ ?_ ?_
 · rintro i σ H' hi ⟨⟨x2, x3, x4, x5, rfl⟩, sH, kvs, hkd, hkl, hkv⟩;obtain ⟨m, hm⟩ : ∃ m : Nat, m + i + 1 = ss.length := ⟨ss.length - i - 1, by omega⟩
   have em : (xs.length : Int) - 1 - (i : Int) = ((m : Nat) : Int) := by omega
   rw [em];have hms : ss[m]? = some ss[m] := be (by omega);obtain ⟨u, eu, hu1⟩ := hl.get (i := m) (t := eS ss[m]) (by rw [ay, hms]; rfl);have hat : atI xs ((m : Nat) : Int) = some u := we eu;obtain ⟨as, ys, rfl, has, hly⟩ := hu1.mono sH;have hyl := hly.length;rw [ae] at hyl;refine ⟨_, rfl, _, rfl, a, xs, _, _, rfl, rfl, SqT.of (sH _ _ ha), hat, as, ys, rfl, .inr (SqT.of has), ?_⟩;refine ⟨_, rfl, _, rfl, a, xs, _, _, rfl, rfl, SqT.of (sH _ _ ha), hat, as, rfl, ⟨ys, SqT.of has⟩, ?_⟩;refine Z6 (K := K) (a := as) (xs := ys) (fun j σ' H2 => H2 = H' ∧ ∃ x5, σ' = [some (.ref a), some (.ref d), some (.int (m : Int)), some (.int (((ss[m].take j).foldl (stp (cnt ss)) (1, ss[m].length)).1 : Int)), some (.int (((ss[m].take j).foldl (stp (cnt ss)) (1, ss[m].length)).2 : Int)), x5]) ⟨rfl, _, by rw [hyl]; rfl⟩
    (fun j σ' H2 _ ⟨e, _⟩ => by rw [e]; exact SqT.of has) ?_ ?_
   · rintro j x σ' H2 hx ⟨rfl, x5, rfl⟩;obtain ⟨tt, htt, hxt⟩ := hly.get' hx;rw [ay] at htt;obtain ⟨dd, hdd, rfl⟩ : ∃ dd, ss[m][j]? = some dd ∧ eD dd = tt := by
      cases e : ss[m][j]? with
      | none => rw [e] at htt; cases htt
      | some z => rw [e] at htt; exact ⟨z, rfl, Option.some.inj htt⟩
     have hstep : (ss[m].take (j + 1)).foldl (stp (cnt ss)) (1, ss[m].length) = stp (cnt ss) ((ss[m].take j).foldl (stp (cnt ss)) (1, ss[m].length)) dd := by
      rw [cm, hdd, List.foldl_append];rfl
     obtain ⟨r, hr0⟩ := zgj dd;obtain ⟨a5, x5s, u5, rfl, sq5, ea5, hu5⟩ := Is.at (K := K) (i := 0) (t := .str (dw dd)) (hr0 ▸ hxt) rfl;cases (show u5 = .str (dw dd) from hu5);refine ⟨_, rfl, a5, x5s, _, _, rfl, rfl, sq5, ea5, rfl, _, rfl, ?_⟩;rw [hstep];cases dd with
     | beg jj ms =>
       refine yp ?_;obtain ⟨h1, h2⟩ := hL m _ hms jj ms (bz hdd);obtain ⟨p, hval, hp⟩ := hkv jj (by omega) h2;obtain ⟨a6, x6s, u6, e6, sq6, ea6, hu6⟩ := Is.at (K := K) (i := 1) (t := .int (jj : Int)) hxt rfl;cases e6;cases (show u6 = .int (jj : Int) from hu6);have hget : qv H2 d (.int (jj : Int)) (some (.ref p)) := by
        have q := qv.k (k := (Sum.inl (jj : Int) : Key)) hkd;rw [hval] at q;exact q
       refine ⟨_, rfl, _, rfl, _, rfl, a5, x6s, _, _, rfl, rfl, sq6, ea6, d, _, rfl, hget, p, _, _, _, rfl, rfl, SqT.of hp, rfl, _, _, rfl, rfl, ?_⟩;refine ⟨_, rfl, _, rfl, _, rfl, a5, x6s, _, _, rfl, rfl, sq6, ea6, d, _, rfl, hget, p, _, _, _, rfl, rfl, SqT.of hp, rfl, _, _, rfl, rfl, ?_⟩;exact ⟨rfl, _, rfl⟩
     | _ => exact yl ⟨rfl, _, rfl⟩
   · rintro σ' H2 ⟨rfl, x5, rfl⟩;have efull : (ss[m].take ys.length).foldl (stp (cnt ss)) (1, ss[m].length) = cnt ss m := by
      rw [hyl, ci, zlg hL hms]
     rw [efull];refine ⟨_, rfl, _, rfl, (by show 2 ≤ sizeLine; decide), fun p hp => ?_⟩;have sp := Same.new hp (.tup [.int ((cnt ss m).1 : Int), .int ((cnt ss m).2 : Int)]);have hkd' := sp _ _ hkd;have npd : p ≠ d := fun z => by rw [z, hkd] at hp; cases hp
     refine ⟨_, rfl, _, rfl, d, _, rfl, zik.k (k := (Sum.inl (m : Int) : Key)) hkd' (y7 (by omega)), ?_⟩;refine ⟨⟨_, _, _, _, rfl⟩, fun b o e => ?_, _, zf, ?_, fun j h1 h2 => ?_⟩
     · have nb : b ≠ d := zj e hd;rw [zk nb];exact sp _ _ (sH _ _ e)
     · have := Zf kvs (Sum.inl (m : Int) : Key) (.ref p);omega
     · rw [ziq];by_cases ej : j = m
       · subst ej;refine ⟨p, by rw [if_pos rfl], ?_⟩;rw [zk npd, zf];rfl
       · have nj : ¬ ((Sum.inl (j : Int) : Key) = Sum.inl (m : Int)) := fun z => ej (by have := Sum.inl.inj z; omega);obtain ⟨q, hq1, hq2⟩ := hkv j (by omega) h2;refine ⟨q, by rw [if_neg nj]; exact hq1, ?_⟩;have nq : q ≠ d := Ja hq2 hkd (by intro z; cases z);rw [zk nq];exact sp _ _ hq2
 · rintro σ H' ⟨⟨x2, x3, x4, x5, rfl⟩, sH, hB⟩;refine ⟨_, rfl, k d H' sH ?_⟩;rw [hxl, Nat.sub_self] at hB;exact hB
noncomputable def ze6 (h : House) : Int := (h.fs.map fun (c : zm) => ((cnt h.ss c.1).1 : Int)).sum
noncomputable def zh3 (h : House) : Int := (h.fs.map fun (c : zm) => ((cnt h.ss c.1).2 : Int)).sum
noncomputable def Vl (h : House) : Bool := decide (ze6 h ≤ 60) && decide (zh3 h ≤ 1200)
structure Cnt (h : House) : Prop where
 later : zah h.ss
 ss20 : h.ss.length ≤ 20
 fs40 : h.fs.length ≤ 40
 call : ∀ c ∈ h.fs, c.1 < h.ss.length
 hs : ze6 h < 2 ^ 63
 ds : zh3 h < 2 ^ 63
noncomputable def zqp : Sp := fun vs H Q _ => ∃ (h : House) (v : V), vs = [v] ∧ Is H (eH h) v ∧ Cnt h ∧ ∀ H', Same H H' → Q (.bl (Vl h)) H'
theorem X7 : FnScope ["house", "brought", "hands", "deeds"] ["house"] (zi j7) := .of
theorem zco (D : Def K mg "is_small_enough" j7) (T : Txt K mg) (o1 : Ok P w K mg base "brought_by_scripts" 1 ["scripts"] zq7) : Ok P w K mg base "is_small_enough" 2 ["house"] zqp := by
 refine vp D X7 (fun vs H Q E ⟨t, v, e, _⟩ => by rw [e]; rfl) fun f cdv A outer s H vs Q E hr h => ?_;obtain ⟨h, v, rfl, ht, hC, k⟩ := h;have hu := Ji hr;refine ⟨_, ze (zr (i := 1) X7.nd rfl (Or.inr rfl) (ya o1 hr (zc (zp zt (pv 0) (y4 T.SCRIPTS) (fun _ _ => rfl)) zd)))
  (ze (zr (i := 2) X7.nd rfl (Or.inl rfl) (yf (K8 rfl) rfl T.sum zln (zc (Yd (own := ["calling"]) (cap := [1]) rfl (xr (zi j7) rfl rfl (by decide +kernel) (by decide +kernel) (by decide +kernel) ⟨⟨_, rfl, .inl rfl, Zd rfl⟩, trivial⟩) (ql (zp zt (pv 0) (y4 T.FIRSTS) (fun _ _ => rfl)))
   (fun _ _ _ _ => yd (i := 0) (by show (["calling", "brought"] : List Str).Nodup; decide +kernel) rfl (Or.inl rfl)) (fun _ _ _ _ => wa)
   (fun _ _ _ _ => zp (r := zej K) zt (jv hu (pv 1) (zp (r := zej K) zt (pv 0) zg (fun _ _ => rfl)) (fun _ _ => rfl)) zg (fun _ _ => rfl))) zd)))
  (ze (zr (i := 3) X7.nd rfl (Or.inl rfl) (yf (K8 rfl) rfl T.sum zln (zc (Yd (own := ["calling"]) (cap := [1]) rfl (xr (zi j7) rfl rfl (by decide +kernel) (by decide +kernel) (by decide +kernel) ⟨⟨_, rfl, .inl rfl, Zd rfl⟩, trivial⟩) (ql (zp zt (pv 0) (y4 T.FIRSTS) (fun _ _ => rfl)))
   (fun _ _ _ _ => yd (i := 0) (by show (["calling", "brought"] : List Str).Nodup; decide +kernel) rfl (Or.inl rfl)) (fun _ _ _ _ => wa)
   (fun _ _ _ _ => zp (r := zej K) zt (jv hu (pv 1) (zp (r := zej K) zt (pv 0) zg (fun _ _ => rfl)) (fun _ _ => rfl)) zg (fun _ _ => rfl))) zd)))
  (zh (zn (ja (jh Xc (pv 2) (y4 T.MOST_HANDS) (ye _)) (ka (jh Xc (pv 3) (y4 T.MOST_DEEDS) (ye _)))))))), ?_⟩
 obtain ⟨a, xs, us, rfl, sq, ea, hus⟩ := Is.at (K := K) (i := 3) ht rfl;refine ⟨_, rfl, a, xs, _, _, rfl, rfl, sq, ea, h.ss, us, rfl, hus, hC.later, hC.ss20, fun d H1 s1 hB => ?_⟩;obtain ⟨kvs, hkd, hkl, hkv⟩ := hB;obtain ⟨a', xf0, uf, e', sq', ea', huf⟩ := Is.at (K := K) (i := 2) (ht.mono s1) rfl;cases e';obtain ⟨af, xs0, rfl, haf, hlf⟩ := huf;have hfl := hlf.length;rw [ae] at hfl;refine ⟨_, rfl, a, xf0, _, _, rfl, rfl, sq', ea', af, rfl, ⟨xs0, SqT.of haf⟩, ?_⟩;refine Xt (xs := xs0) (fun i ys H3 => H3 = H1 ∧ ys = (h.fs.take i).map fun (c : zm) => V.int ((cnt h.ss c.1).1 : Int)) ⟨rfl, rfl⟩ (fun i ys H3 hi ⟨e1, e2⟩ => ⟨by rw [e1]; exact SqT.of haf, by rw [e2, ae, cg]; exact Y0 (by have := hC.fs40; omega)⟩) ?_ ?_
 · rintro i x ys H3 hx ⟨rfl, rfl⟩;refine Vq ?_;obtain ⟨tt, htt, hxt⟩ := hlf.get' hx;rw [ay] at htt;obtain ⟨c, hc, rfl⟩ : ∃ c, h.fs[i]? = some c ∧ eC c = tt := by
    cases e : h.fs[i]? with
    | none => rw [e] at htt; cases htt
    | some z => rw [e] at htt; exact ⟨z, rfl, Option.some.inj htt⟩
   obtain ⟨p, hval, hp⟩ := hkv c.1 (bd _) (hC.call c (bz hc));obtain ⟨a6, x6s, u6, rfl, sq6, ea6, hu6⟩ := Is.at (K := K) (i := 0) (t := .int (c.1 : Int)) hxt rfl;cases (show u6 = .int (c.1 : Int) from hu6);have hget : qv H3 d (.int (c.1 : Int)) (some (.ref p)) := by
    have q := qv.k (k := (Sum.inl (c.1 : Int) : Key)) hkd;rw [hval] at q;exact q
   refine ⟨_, rfl, _, rfl, a6, x6s, _, _, rfl, rfl, sq6, ea6, d, _, rfl, hget, p, _, _, _, rfl, rfl, SqT.of hp, rfl, rfl, ?_⟩;rw [cm, hc, az];rfl
 rintro ys H3 ⟨rfl, rfl⟩ p0 hp0;have sn0 := Same.new hp0 (.lst ((h.fs.take xs0.length).map fun (c : zm) => V.int ((cnt h.ss c.1).1 : Int)));refine ⟨p0, h.fs.map fun (c : zm) => ((cnt h.ss c.1).1 : Int), rfl, SqL.of (by rw [zf, cp, hfl, ci]; rfl), fun n hn => ?_, hC.hs, ?_⟩
 · obtain ⟨c, _, rfl⟩ := ax.mp hn;exact Int.ofNat_nonneg _
 generalize upd H3 p0 (.lst ((h.fs.take xs0.length).map fun (c : zm) => V.int ((cnt h.ss c.1).1 : Int))) = H2 at sn0 ⊢;have hkd0 : H2 d = some (.dK kvs) := sn0 _ _ hkd;have hkv0 : ∀ j : Nat, 0 ≤ j → j < h.ss.length → ∃ p, xz kvs (Sum.inl (j : Int) : Key) = some (V.ref p) ∧ H2 p = some (zpn (cnt h.ss j)) := fun j h1 h2 => by
  obtain ⟨p, e1, e2⟩ := hkv j h1 h2;exact ⟨p, e1, sn0 _ _ e2⟩
 obtain ⟨a', xf1, uf, e', sq', ea', huf⟩ := Is.at (K := K) (i := 2) (ht.mono (s1.trans sn0)) rfl;cases e';obtain ⟨af, xs1, rfl, haf, hlf⟩ := huf;have hfl := hlf.length;rw [ae] at hfl;refine ⟨_, rfl, a, xf1, _, _, rfl, rfl, sq', ea', af, rfl, ⟨xs1, SqT.of haf⟩, ?_⟩;refine Xt (xs := xs1) (fun i ys H3 => H3 = H2 ∧ ys = (h.fs.take i).map fun (c : zm) => V.int ((cnt h.ss c.1).2 : Int)) ⟨rfl, rfl⟩ (fun i ys H3 hi ⟨e1, e2⟩ => ⟨by rw [e1]; exact SqT.of haf, by rw [e2, ae, cg]; exact Y0 (by have := hC.fs40; omega)⟩) ?_ ?_
 · rintro i x ys H3 hx ⟨rfl, rfl⟩;refine Vq ?_;obtain ⟨tt, htt, hxt⟩ := hlf.get' hx;rw [ay] at htt;obtain ⟨c, hc, rfl⟩ : ∃ c, h.fs[i]? = some c ∧ eC c = tt := by
    cases e : h.fs[i]? with
    | none => rw [e] at htt; cases htt
    | some z => rw [e] at htt; exact ⟨z, rfl, Option.some.inj htt⟩
   obtain ⟨p, hval, hp⟩ := hkv0 c.1 (bd _) (hC.call c (bz hc));obtain ⟨a6, x6s, u6, rfl, sq6, ea6, hu6⟩ := Is.at (K := K) (i := 0) (t := .int (c.1 : Int)) hxt rfl;cases (show u6 = .int (c.1 : Int) from hu6);have hget : qv H3 d (.int (c.1 : Int)) (some (.ref p)) := by
    have q := qv.k (k := (Sum.inl (c.1 : Int) : Key)) hkd0;rw [hval] at q;exact q
   refine ⟨_, rfl, _, rfl, a6, x6s, _, _, rfl, rfl, sq6, ea6, d, _, rfl, hget, p, _, _, _, rfl, rfl, SqT.of hp, rfl, rfl, ?_⟩;rw [cm, hc, az];rfl
 rintro ys H3 ⟨rfl, rfl⟩ p1 hp1;have sn1 := Same.new hp1 (.lst ((h.fs.take xs1.length).map fun (c : zm) => V.int ((cnt h.ss c.1).2 : Int)));refine ⟨p1, h.fs.map fun (c : zm) => ((cnt h.ss c.1).2 : Int), rfl, SqL.of (by rw [zf, cp, hfl, ci]; rfl), fun n hn => ?_, hC.ds, ?_⟩
 · obtain ⟨c, _, rfl⟩ := ax.mp hn;exact Int.ofNat_nonneg _
 generalize upd H3 p1 (.lst ((h.fs.take xs1.length).map fun (c : zm) => V.int ((cnt h.ss c.1).2 : Int))) = H4 at sn1 ⊢;have hkd1 : H4 d = some (.dK kvs) := sn1 _ _ hkd0;have hkv1 : ∀ j : Nat, 0 ≤ j → j < h.ss.length → ∃ p, xz kvs (Sum.inl (j : Int) : Key) = some (V.ref p) ∧ H4 p = some (zpn (cnt h.ss j)) := fun j h1 h2 => by
  obtain ⟨p, e1, e2⟩ := hkv0 j h1 h2;exact ⟨p, e1, sn1 _ _ e2⟩
 have kk : Q (.bl (decide (ze6 h ≤ 60) && decide (zh3 h ≤ 1200))) _ := k _ ((s1.trans sn0).trans sn1);refine ⟨_, rfl, ze6 h, 60, rfl, rfl, _, rfl, ?_⟩;by_cases c1 : ze6 h ≤ 60
 · rw [au c1] at kk ⊢;exact yp ⟨_, rfl, zh3 h, 1200, rfl, rfl, kk⟩
 · rw [bn c1] at kk ⊢;exact yl kk
noncomputable def wt (had : List Mem) : List (Key × V) := had.map fun m => ((Sum.inl m.1 : Key), V.str m.2)
noncomputable def kx (had : List Mem) (w : Int) : Option Str := (had.find? fun m => decide (m.1 = w)).map (·.2)
theorem Yy (had : List Mem) (w : Int) : xz (wt had) (Sum.inl w : Key) = (kx had w).map V.str := by
 induction had with
 | nil => rfl
 | cons m r ih =>
   by_cases e : m.1 = w
   · have e' : ((Sum.inl m.1 : Key), V.str m.2).1 = Sum.inl w := by show (Sum.inl m.1 : Key) = Sum.inl w; rw [e]
     show xz (((Sum.inl m.1 : Key), V.str m.2) :: wt r) (Sum.inl w) = _;rw [wu e'];simp [kx, List.find?_cons, e]
   · have e' : ¬ ((Sum.inl m.1 : Key), V.str m.2).1 = Sum.inl w := fun z => e (Sum.inl.inj z);show xz (((Sum.inl m.1 : Key), V.str m.2) :: wt r) (Sum.inl w) = _;rw [wv e', ih];simp [kx, List.find?_cons, e]
noncomputable def okM (had : List Mem) (w : Int) (m : Str) : Bool := inV (((kx had w).map V.str).getD .non) [.str "both", .str m]
noncomputable def jo (d : Deed) (had : List Mem) : Bool := match d with
 | .com w => okM had w "come"
 | .goo w => okM had w "go"
 | .lea w => (kx had w).isSome
 | .beg _ ms => ms.all fun m => okM had m.1 m.2
 | _ => true
theorem if0 {A B : Hp → Prop} (h : A H) : zod σ H (fun b H3 => if b = true then A H3 else B H3) := by
 show if true = true then A H else B H
 exact yp h
theorem zdl (had : List Mem) (w : Int) : Zq (((kx had w).map V.str).getD .non) = true := by cases kx had w <;> rfl
noncomputable def zon : Sp := fun vs H Q _ => ∃ (d : Deed) (dv : V) (had : List Mem) (a : Addr), vs = [dv, .ref a] ∧ Is H (eD d) dv ∧ H a = some (.dK (wt had)) ∧ (∀ s ms, d = .beg s ms → ms.length ≤ 1000) ∧ ∀ H', Same H H' → Q (.bl (jo d had)) H'
theorem Qz : FnScope ["deed", "had", "word"] ["deed", "had"] (zi ju) := .of
theorem J9 (D : Def K mg "is_allowed" ju) (T : Txt K mg) : Ok P w K mg base "is_allowed" 1 ["deed", "had"] zon := by
 refine vp D Qz (fun vs H Q E ⟨t, v, _, _, e, _⟩ => by rw [e]; rfl) fun f cdv A outer s H vs Q E hr h => ?_;obtain ⟨d, dv, had, ah, rfl, hd, hah, hms, k⟩ := h;have hu := Ji hr;refine ⟨_, ze (zr (i := 2) Qz.nd rfl (Or.inl rfl) (zp zt (pv 0) zg (fun _ _ => rfl)))
  (ze (yh (zu jb (pv 2) (xu (zc zl (zc zl zd))) rfl) (zh (zn (jh jb (zcg hu (pv 1) (zp zt (pv 0) zg (fun _ _ => rfl)) ⟨rfl, rfl, rfl, rfl⟩) (xu (zc zl (zc (pv 2) zd))) rfl))) zx)
  (ze (yh (zu wo (pv 2) zl (ye _)) (zh (zn (zo2 (zo3 hu (zp zt (pv 0) zg (fun _ _ => rfl)) (pv 1))))) zx)
  (ze (yh (zu wo (pv 2) zl (ye _)) (zh (zn (yf (Zr rfl) rfl T.all Vs (zc (Yd (own := ["wall", "mode"]) (cap := [1]) (g := znb K 2 (Jk (Ye 0) (Jk (Ye 1) znc))) rfl (xr (zi ju) rfl rfl (by decide +kernel) (by decide +kernel) (by decide +kernel) ⟨⟨_, rfl, .inl rfl, Zd rfl⟩, trivial⟩) (ql (zp zt (pv 0) zg (fun _ _ => rfl)))
   (fun _ _ _ _ => Xn rfl (xi (yd (i := 0) (by show (["wall", "mode", "had"] : List Str).Nodup; decide +kernel) rfl (Or.inl rfl)) (xi (yd (i := 1) (by show (["wall", "mode", "had"] : List Str).Nodup; decide +kernel) rfl (Or.inl rfl)) Z2))) (fun _ _ _ _ => wa)
   (fun _ _ _ _ => jh (r := rIn K false) jb (zcg hu (pv 2) (pv 0) ⟨rfl, rfl, rfl, rfl⟩) (xu (zc zl (zc (pv 1) zd))) rfl)) zd)))) zx)
  (zh (zn xx))))), ?_⟩
 obtain ⟨r, hr0⟩ := zgj d;obtain ⟨a, xs, u0, rfl, sq, ea, hu0⟩ := Is.at (K := K) (i := 0) (t := .str (dw d)) (hr0 ▸ hd) rfl;cases (show u0 = .str (dw d) from hu0);refine ⟨_, rfl, a, xs, _, _, rfl, rfl, sq, ea, ?_⟩;refine ⟨_, rfl, (by show 2 ≤ sizeLine; decide), fun p hp => ⟨p, _, rfl, .inr (SqT.of zf), rfl, rfl, _, rfl, ?_⟩⟩;have sp := Same.new hp (.tup [.str "come", .str "go"]);have hah1 := sp _ _ hah;generalize upd H p (.tup [.str "come", .str "go"]) = H1 at sp hah1 ⊢;have isd : IsD H1 ah := .inl ⟨_, .inl hah1⟩;have get : ∀ w : Int, qv H1 ah (.int w) ((kx had w).map V.str) := fun w => by
  have q := qv.k (k := (Sum.inl w : Key)) hah1;rw [Yy] at q;exact q
 have come : ∀ (w : Int) (m : Str) (t : List L2.T), eD d = .tup (.str m :: .int w :: t) → dw d = m → (∀ H', Same H H' → Q (.bl (okM had w m)) H') →
   zqf (tOp (rIn K false) (ziy (zao 1) (tOp (zej K) (zao 0) (tC (.int 1)))) (zqe (Yi (tC (.str "both")) (Yi (zao 2) zea)))) { nx := fun _ H' => Q .non H', rt := Q } ((L2.start ["deed", "had", "word"] [.ref a, .ref ah]).set 2 (some (.str (dw d)))) H1 := fun w m t e1 e2 kk => by
  obtain ⟨a', xs', u1, e', sq', ea', hu1⟩ := Is.at (K := K) (i := 1) (t := .int w) ((e1 ▸ hd).mono sp) rfl;cases e';cases (show u1 = .int w from hu1);refine ⟨_, rfl, ah, rfl, isd, _, rfl, a, xs', _, _, rfl, rfl, sq', ea', _, get w, _, rfl, (by show 2 ≤ sizeLine; decide), fun p2 hp2 => ⟨p2, _, rfl, .inr (SqT.of zf), zdl had w, rfl, ?_⟩⟩;rw [e2];exact kk _ (sp.trans (Same.new hp2 _))
 cases d with
 | com w => exact yp (come w "come" [] rfl rfl k)
 | goo w => exact yp (come w "go" [] rfl rfl k)
 | lea w =>
   refine yl ⟨_, rfl, rfl, _, rfl, yp ?_⟩;obtain ⟨a', xs', u1, e', sq', ea', hu1⟩ := Is.at (K := K) (i := 1) (t := .int w) (hd.mono sp) rfl;cases e';cases (show u1 = .int w from hu1);refine ⟨_, rfl, a, xs', _, _, rfl, rfl, sq', ea', _, rfl, ah, _, rfl, get w, ?_⟩;have e : ((kx had w).map V.str).isSome = (kx had w).isSome := by cases kx had w <;> rfl
   rw [e];exact k H1 sp
 | beg jj ms =>
   refine yl ⟨_, rfl, rfl, _, rfl, yl ⟨_, rfl, rfl, _, rfl, yp ?_⟩⟩;obtain ⟨a', xs', u2, e', sq', ea', hu2⟩ := Is.at (K := K) (i := 2) (t := eMs ms) (hd.mono sp) rfl;cases e';obtain ⟨am, xm, rfl, ham, hlm⟩ := hu2;have hml := hlm.length;rw [ae] at hml;have h1000 := hms jj ms rfl;refine ⟨_, rfl, a, xs', _, _, rfl, rfl, sq', ea', am, rfl, ⟨xm, SqT.of ham⟩, ?_⟩;refine Xt (xs := xm) (fun i ys H3 => Same H1 H3 ∧ ys = (ms.take i).map fun (m : Mem) => V.bl (okM had m.1 m.2)) ⟨Same.refl H1, rfl⟩ (fun i ys H3 hi ⟨s3, e2⟩ => ⟨SqT.of (s3 _ _ ham), by rw [e2, ae, cg]; exact Y0 (by omega)⟩) ?_ ?_
   · rintro i x ys H3 hx ⟨s3, rfl⟩;obtain ⟨tt, htt, hxt⟩ := hlm.get' hx;rw [ay] at htt;obtain ⟨m, hm, rfl⟩ : ∃ m, ms[i]? = some m ∧ Y8 m = tt := by
      cases e : ms[i]? with
      | none => rw [e] at htt; cases htt
      | some z => rw [e] at htt; exact ⟨z, rfl, Option.some.inj htt⟩
     obtain ⟨a6, x6, rfl, ha6, hl6⟩ := hxt.mono s3;obtain ⟨v1, r1, rfl, hv1, v2, r2, rfl, hv2, hr2⟩ := hl6;cases (show r2 = [] from hr2);cases (show v1 = .int m.1 from hv1);cases (show v2 = .str m.2 from hv2);refine ⟨a6, _, rfl, SqT.of ha6, rfl, _, _, rfl, _, _, rfl, rfl, ?_⟩;refine if0 ?_;have hah3 := s3 _ _ hah1;have get3 : qv H3 ah (.int m.1) ((kx had m.1).map V.str) := by
      have q := qv.k (k := (Sum.inl m.1 : Key)) hah3;rw [Yy] at q;exact q
     refine ⟨_, rfl, ah, rfl, .inl ⟨_, .inl hah3⟩, _, rfl, _, get3, _, rfl, (by show 2 ≤ sizeLine; decide), fun p2 hp2 => ⟨p2, _, rfl, .inr (SqT.of zf), zdl had m.1, rfl, s3.trans (Same.new hp2 _), ?_⟩⟩;rw [cm, hm, az];rfl
   · rintro ys H3 ⟨s3, rfl⟩ p2 hp2;refine ⟨p2, ms.map fun (m : Mem) => okM had m.1 m.2, rfl, SqL.of (by rw [zf, cp, hml, ci]; rfl), ?_⟩;have e : (ms.map fun (m : Mem) => okM had m.1 m.2).all id = ms.all fun m => okM had m.1 m.2 := by rw [List.all_map]; rfl
     rw [e];exact k _ (sp.trans (s3.trans (Same.new hp2 _)))
 | _ => exact yl ⟨_, rfl, rfl, _, rfl, yl ⟨_, rfl, rfl, _, rfl, yl (k H1 sp)⟩⟩
noncomputable def za7 (had : List Mem) (w : Int) : List Mem := had.filter fun m => decide (m.1 ≠ w)
noncomputable def goF (rc : Nat → List Mem → Bool) : List Deed → List Mem → Bool
 | [], _ => true
 | d :: r, had => jo d had && (match d with
   | .lea w => goF rc r (za7 had w)
   | .beg j ms => rc j ms && goF rc r had
   | _ => goF rc r had)
noncomputable def xv (ss : List yb) : Nat → Nat → List Mem → Bool
 | 0, _, _ => true
 | f + 1, i, had => goF (xv ss f) (ss.getD i []) had
noncomputable def znr (ms : List Mem) : Prop := (ms.map (·.1)).Nodup ∧ ms.length ≤ 1000
noncomputable def zl0 (ss : List yb) : Prop := ∀ s ∈ ss, ∀ j ms, Deed.beg j ms ∈ s → znr ms
theorem Xq {H : Hp} : ∀ {ms : List Mem} {xs : List V}, IsL H (ms.map Y8) xs → ∃ bs : List Addr, xs = bs.map V.ref ∧ Paired (fun (b : Addr) (kv : Key × V) => H b = some (.tup [kV kv.1, kv.2])) bs (wt ms)
 | [], xs, h => by cases (show xs = [] from h); exact ⟨[], rfl, .nil⟩
 | m :: r, xs, h => by
   obtain ⟨v, vs, rfl, hv, hvs⟩ := h;obtain ⟨bs, rfl, hp⟩ := Xq hvs;obtain ⟨a, ys, rfl, ha, hl⟩ := hv;obtain ⟨v1, r1, rfl, hv1, v2, r2, rfl, hv2, hr2⟩ := hl;cases (show r2 = [] from hr2);cases (show v1 = .int m.1 from hv1);cases (show v2 = .str m.2 from hv2);exact ⟨a :: bs, rfl, .cons ha hp⟩
theorem Kq : ∀ (kvs acc : List (Key × V)), ((acc ++ kvs).map (·.1)).Nodup → kg acc kvs = acc ++ kvs
 | [], acc, _ => by simp [kg]
 | kv :: r, acc, h => by
   have hn : xz acc kv.1 = none := by
    cases e : xz acc kv.1 with
    | none => rfl
    | some v =>
      have hm := zl3 e;rw [az, bh] at h;exact absurd rfl ((List.nodup_append.mp h).2.2 _ hm _ ao)
   show kg (ku acc kv.1 kv.2) r = _;rw [zjo _ hn, Kq r (acc ++ [(kv.1, kv.2)]) (by simpa using h)];simp
theorem Kp {ms : List Mem} (h : (ms.map (·.1)).Nodup) : kg [] (wt ms) = wt ms := by
 refine Kq (wt ms) [] ?_;show ((wt ms).map (·.1)).Nodup;have e : (wt ms).map (·.1) = (ms.map (·.1)).map (Sum.inl : Int → Key) := by simp [wt, Function.comp_def]
 rw [e];exact List.Pairwise.map _ (fun a b hab z => hab (Sum.inl.inj z)) h
theorem zdp (had : List Mem) (w : Int) : Wy (wt had) (Sum.inl w : Key) = wt (za7 had w) := by
 unfold Wy wt za7;rw [List.filter_map];congr 1;apply List.filter_congr;intro m _;show decide ((Sum.inl m.1 : Key) ≠ Sum.inl w) = decide (m.1 ≠ w);by_cases e : m.1 = w
 · rw [e]; simp
 · have e' : ¬ (Sum.inl m.1 : Key) = Sum.inl w := fun z => e (Sum.inl.inj z);simp [e, e']
noncomputable def zg2 (n : Nat) : Sp := fun vs H Q _ => ∃ (ss : List yb) (sv : V) (c : zm) (cv : V), vs = [sv, cv] ∧ Is H (.tup (ss.map eS)) sv ∧ Is H (eC c) cv ∧ c.1 < ss.length ∧ ss.length ≤ c.1 + n ∧ zah ss ∧ zl0 ss ∧ znr c.2 ∧
 ∀ H', Same H H' → Q (.bl (xv ss n c.1 c.2)) H'
theorem zas : FnScope ["scripts", "calling", "had", "deed"] ["scripts", "calling"] (zi Q2) := .of
theorem zsc (D : Def K mg "fits" Q2) : Ok P w K mg base "fits" 1 ["scripts", "calling"] (zg2 0) := by
 obtain ⟨f, fd, F, hm⟩ := D;have no : ∀ vs H Q E, ¬ zg2 0 vs H Q E := fun vs H Q E h => by
  obtain ⟨ss, sv, c, cv, _, _, _, h1, h2, _⟩ := h;omega
 exact ⟨f, fd, ⟨fun vs H Q E h => absurd h (no vs H Q E), fun A outer s H args us vs Q E _ _ _ _ h => absurd h (no vs H Q E)⟩, F.binds fun _ _ _ _ _ _ us hl => (match us, hl with | [_, _], _ => rfl), F.kp, hm⟩
theorem zsb (D : Def K mg "fits" Q2) (T : Txt K mg) (o1 : Ok P w K mg base "is_allowed" 1 ["deed", "had"] zon) (o2 : Ok P w K mg base "fits" (n + 1) ["scripts", "calling"] (zg2 n)) : Ok P w K mg base "fits" (n + 1 + 1) ["scripts", "calling"] (zg2 (n + 1)) := by
 refine vp D zas (fun vs H Q E ⟨_, _, _, _, e, _⟩ => by rw [e]; rfl) fun f cdv A outer s H vs Q E hr h => ?_;obtain ⟨ss, sv, c, cv, rfl, hs, hcv, hc1, hc2, hL, hB, hM, k⟩ := h;have hu := Ji hr;refine ⟨_, ze (zr (i := 2) zas.nd rfl (Or.inl rfl) (yo (Jx rfl) rfl T.dict zgr (zc (zp zt (pv 1) zg (fun _ _ => rfl)) zd)))
  (ze (wr PassesOwn.never rfl (ql (zp zt (pv 0) (zp zt (pv 1) zg (fun _ _ => rfl)) (fun _ _ => rfl))) (yd (i := 3) zas.nd rfl (Or.inl rfl))
   (ze (yh (xt (yz (ya o1 (hr.mono (by omega)) (zc (pv 3) (zc (pv 2) zd))))) (zh (zn xx)) zx)
   (ze (yh (zu wo (zp zt (pv 3) zg (fun _ _ => rfl)) zl (ye _)) (zh (yy (zce (pv 2) (zp zt (pv 3) zg (fun _ _ => rfl)) ⟨rfl, rfl, rfl, rfl⟩))) zx)
   (zh (yh (PW.pt (Xm (zu wo (zp zt (pv 3) zg (fun _ _ => rfl)) zl (ye _)) (Z1 (xt (yz (ya o2 hr (zc (pv 0) (zc (wg zed (pv 3) (w5 zg) w6) zd)))))))) (zh (zn xx)) zx)))))
  (zh (zn xx))), ?_⟩
 obtain ⟨ac, xc, um, rfl, sqc, eac, hum⟩ := Is.at (K := K) (i := 1) (t := eMs c.2) hcv rfl;obtain ⟨am, xm, rfl, ham, hlm⟩ := hum;obtain ⟨bs, rfl, hbs⟩ := Xq hlm;refine ⟨_, rfl, ac, xc, _, _, rfl, rfl, sqc, eac, am, bs, _, rfl, ham, hbs, fun dh hdh => ?_⟩;rw [Kp hM.1];have s0 := Same.new hdh (.dK (wt c.2));obtain ⟨ac', xc', un, e', sqc', eac', hun⟩ := Is.at (K := K) (i := 0) (t := .int (c.1 : Int)) (hcv.mono s0) rfl;cases e';cases (show un = .int (c.1 : Int) from hun);have hsc : ss[c.1]? = some ss[c.1] := be hc1;have hgd : ss.getD c.1 [] = ss[c.1] := by rw [cu, hsc]; rfl
 obtain ⟨as, xss, us, rfl, sqs, eas, hus⟩ := Is.at (K := K) (i := c.1) (t := eS ss[c.1]) (hs.mono s0) (by rw [ay, hsc]; rfl)
 obtain ⟨ad, xd, rfl, had0, hld⟩ := hus;have hdl := hld.length;rw [ae] at hdl;refine ⟨_, rfl, _, rfl, ac, xc', _, _, rfl, rfl, sqc', eac', as, xss, _, _, rfl, rfl, sqs, eas, ad, rfl, ⟨xd, SqT.of had0⟩, ?_⟩;have hd0 : upd H dh (.dK (wt c.2)) dh = some (.dK (wt c.2)) := zf;generalize upd H dh (.dK (wt c.2)) = H0 at s0 had0 hld sqs sqc' hd0 ⊢;have kk : ∀ H', Same H H' → Q (.bl (goF (xv ss n) ss[c.1] c.2)) H' := fun H' s' => by
  have q : Q (.bl (goF (xv ss n) (ss.getD c.1 []) c.2)) H' := k H' s';rw [hgd] at q;exact q
 have kept : ∀ {H1 : Hp} {o : HO}, Same H H1 → Same H (upd H1 dh o) := fun {H1 o} s1 b u e => by
  rw [zk (zj e hdh)];exact s1 b u e
 have tupK : ∀ {H1 : Hp} {kvs : List (Key × V)} {o : HO}, H1 dh = some (.dK kvs) → xk H1 (upd H1 dh o) := fun {H1 kvs o} e => xk.upd e (fun xs z => by cases z);refine Z6 (K := K) (a := ad) (xs := xd) (fun i σ H' => ∃ had x3, σ = [some (.ref as), some (.ref ac), some (.ref dh), x3] ∧ Same H H' ∧ xk H0 H' ∧ H' dh = some (.dK (wt had)) ∧ goF (xv ss n) ss[c.1] c.2 = goF (xv ss n) (ss[c.1].drop i) had)
  ⟨c.2, none, rfl, s0, xk.refl H0, hd0, rfl⟩ (fun i σ H' _ ⟨_, _, _, _, tp, _⟩ => SqT.of (tp _ _ had0)) ?_ ?_
 · rintro i x σ H1 hx ⟨had, x3, rfl, s1, tp, hdh1, hg⟩;obtain ⟨tt, htt, hxt⟩ := hld.get' hx;rw [ay] at htt;obtain ⟨dd, hdd, rfl⟩ : ∃ dd, ss[c.1][i]? = some dd ∧ eD dd = tt := by
    cases e : ss[c.1][i]? with
    | none => rw [e] at htt; cases htt
    | some z => rw [e] at htt; exact ⟨z, rfl, Option.some.inj htt⟩
   have hdrop : ss[c.1].drop i = dd :: ss[c.1].drop (i + 1) := by
    obtain ⟨h1, h2⟩ := c9.mp hdd;rw [List.drop_eq_getElem_cons h1, h2]
   rw [hdrop] at hg;have hmem : dd ∈ ss[c.1] := bz hdd;have hfro : Fro (eD dd) := by
    cases dd with
    | beg j ms =>
      show jd [.str "begin", .int j, eMs ms];refine ⟨trivial, trivial, ?_, trivial⟩;show jd (ms.map Y8);rw [jd.all];intro t ht;obtain ⟨m, _, rfl⟩ := ax.mp ht;exact ⟨trivial, trivial, trivial⟩
    | _ => first | exact ⟨trivial, trivial, trivial⟩ | exact ⟨trivial, trivial, trivial, trivial⟩
   have hx1 : Is H1 (eD dd) x := Is.tups tp hfro hxt;refine ⟨_, rfl, _, rfl, dd, x, had, dh, rfl, hx1, hdh1, fun j ms e => (hB _ (List.getElem_mem hc1) j ms (e ▸ hmem)).2, fun H2 s2 => ⟨_, rfl, ?_⟩⟩;have s12 := s1.trans s2;have tp2 := tp.trans s2.tups;have hdh2 := s2 _ _ hdh1;have hx2 := hx1.mono s2;cases ca : jo dd had with
   | false =>
     refine yp ?_;have q := kk H2 s12;rw [hg] at q;unfold goF at q;rw [ca, c7] at q;exact q
   | true =>
     refine yl ?_;obtain ⟨r, hr0⟩ := zgj dd;obtain ⟨a5, x5s, u5, rfl, sq5, ea5, hu5⟩ := Is.at (K := K) (i := 0) (t := .str (dw dd)) (hr0 ▸ hx2) rfl;cases (show u5 = .str (dw dd) from hu5);refine ⟨_, rfl, a5, x5s, _, _, rfl, rfl, sq5, ea5, rfl, _, rfl, ?_⟩;have plain : ∀ (hgo : goF (xv ss n) ss[c.1] c.2 = goF (xv ss n) (ss[c.1].drop (i + 1)) had), ∃ had' x3', [some (V.ref as), some (V.ref ac), some (V.ref dh), some (V.ref a5)] = [some (V.ref as), some (V.ref ac), some (V.ref dh), x3'] ∧ Same H H2 ∧ xk H0 H2 ∧ H2 dh = some (.dK (wt had')) ∧ goF (xv ss n) ss[c.1] c.2 = goF (xv ss n) (ss[c.1].drop (i + 1)) had' :=
      fun hgo => ⟨had, _, rfl, s12, tp2, hdh2, hgo⟩
     cases dd with
     | lea w =>
       refine yp ?_;have hgo : goF (xv ss n) ss[c.1] c.2 = goF (xv ss n) (ss[c.1].drop (i + 1)) (za7 had w) := by
        rw [hg];show (jo (.lea w) had && goF (xv ss n) (ss[c.1].drop (i + 1)) (za7 had w)) = _;rw [ca, bj]
       obtain ⟨a6, x6s, u6, e6, sq6, ea6, hu6⟩ := Is.at (K := K) (i := 1) (t := .int w) hx2 rfl;cases e6;cases (show u6 = .int w from hu6);obtain ⟨md, hmd⟩ : ∃ md, kx had w = some md := Option.isSome_iff_exists.mp ca;refine ⟨_, rfl, dh, rfl, .inl ⟨_, .inl hdh2⟩, _, rfl, a5, x6s, _, _, rfl, rfl, sq6, ea6, wt had, Sum.inl w, _, hdh2, rfl, (by rw [Yy, hmd]; rfl), ?_⟩;have tp3 := tp2.trans (tupK (o := .dK (Wy (wt had) (Sum.inl w : Key))) hdh2);have hx3 : Is (upd H2 dh (.dK (Wy (wt had) (Sum.inl w : Key)))) (eD (.lea w)) (.ref a5) := Is.tups (tupK hdh2) hfro hx2;obtain ⟨a7, x7s, u7, e7, sq7, ea7, hu7⟩ := Is.at (K := K) (i := 0) (t := .str "leave") hx3 rfl;cases e7;cases (show u7 = .str "leave" from hu7);refine ⟨_, rfl, a5, x7s, _, _, rfl, rfl, sq7, ea7, rfl, _, rfl, yl (yl ?_)⟩;exact ⟨za7 had w, _, rfl, kept s12, tp3, by rw [zf, zdp], hgo⟩
     | beg j ms =>
       refine yl ?_;obtain ⟨h1, h2⟩ := hL c.1 _ hsc j ms hmem;have hgo : goF (xv ss n) ss[c.1] c.2 = (xv ss n j ms && goF (xv ss n) (ss[c.1].drop (i + 1)) had) := by
        rw [hg];show (jo (.beg j ms) had && (xv ss n j ms && goF (xv ss n) (ss[c.1].drop (i + 1)) had)) = _;rw [ca, bj]
       refine ⟨_, rfl, a5, x5s, _, _, rfl, rfl, sq5, ea5, rfl, _, rfl, yp ?_⟩;obtain ⟨a6, ys, e6, hya, hyl⟩ := id hx2;cases e6;have hyn : ys.length = 3 := hyl.length;refine ⟨_, rfl, _, rfl, 1, rfl, a5, ys, rfl, SqT.of hya, ?_, fun p hp => ?_⟩
       · intro hh;have h2 : HT.sIx ys.length 0 (some ((1 : Nat) : Int)) = min 1 ys.length := HT.sIx_nat _ _ _;have h3 : min 1 ys.length = 0 := h2.symm.trans hh.1;omega
       · have ecut : Z7 ys (some 1) none = ys.drop 1 := by
          have h2 : HT.sIx ys.length 0 (some ((1 : Nat) : Int)) = min 1 ys.length := HT.sIx_nat _ _ _;have h2 : HT.sIx ys.length 0 (some 1) = 1 := h2.trans (by omega);unfold Z7;rw [h2, HT.sIx_none, List.take_of_length_le (by rw [List.length_drop]; exact ai _)]
         rw [ecut];have sp := Same.new hp (.tup (ys.drop 1));have hnew : Is (upd H2 p (.tup (ys.drop 1))) (eC (j, ms)) (.ref p) := Is.newTup hp (hyl.drop 1);refine ⟨ss, .ref as, (j, ms), .ref p, rfl, hs.mono (s12.trans sp), hnew, h2, (by show ss.length ≤ j + n; omega), hL, hB, hB _ (List.getElem_mem hc1) j ms hmem, fun H3 s3 => ⟨_, rfl, ?_⟩⟩;have s123 := (s12.trans sp).trans s3;cases cf : xv ss n j ms with
         | false =>
           refine yp ?_;have q := kk H3 s123;rw [hgo, cf, c7] at q;exact q
         | true =>
           refine yl ?_;rw [cf, bj] at hgo;exact ⟨had, _, rfl, s123, tp2.trans (sp.tups.trans s3.tups), s3 _ _ (sp _ _ hdh2), hgo⟩
     | _ =>
       refine yl ⟨_, rfl, a5, x5s, _, _, rfl, rfl, sq5, ea5, rfl, _, rfl, yl (yl (plain ?_))⟩;exact hg.trans ((congrArg (fun z => z && goF (xv ss n) (ss[c.1].drop (i + 1)) had) ca).trans (bj _))
 · rintro σ H1 ⟨had, x3, rfl, s1, tp, hdh1, hg⟩;have q := kk H1 s1;rw [hg, hdl, List.drop_length] at q;exact q
noncomputable def mHs (h : House) : Bool := mWf (eH h) && (Vl h && h.fs.all fun c => xv h.ss 20 c.1 c.2)
structure Good (h : House) : Prop where
 cnt : Cnt h
 beg : zl0 h.ss
 ms : ∀ c ∈ h.fs, znr c.2
noncomputable def zq2 : Sp := fun vs H Q _ => ∃ t v, vs = [v] ∧ Is H t v ∧ Wh t ∧ ((∃ h, t = eH h ∧ Good h ∧ ∀ H', Same H H' → Q (.bl (mHs h)) H') ∨ (mWf t = false ∧ ∀ H', Same H H' → Q (.bl false) H'))
theorem zf1 (D : Def K mg "fits" Q2) (T : Txt K mg) (o1 : Ok P w K mg base "is_allowed" 1 ["deed", "had"] zon) : ∀ n : Nat, Ok P w K mg base "fits" (n + 1) ["scripts", "calling"] (zg2 n)
 | 0 => zsc D
 | n + 1 => zsb D T o1 (zf1 D T o1 n)
theorem zje : FnScope ["thing"] ["thing"] (zi Zy) := .of
theorem zcp (D : Def K mg "is_house" Zy) (T : Txt K mg) (o1 : Ok P w K mg base "is_well_formed" 9 ["thing"] (V7 Wh mWf)) (o2 : Ok P w K mg base "is_small_enough" 2 ["house"] zqp) (o3 : Ok P w K mg base "fits" 21 ["scripts", "calling"] (zg2 20)) :
  Ok P w K mg base "is_house" 22 ["thing"] zq2 := by
 refine vp D zje (fun vs H Q E ⟨_, _, e, _⟩ => by rw [e]; rfl) fun f cdv A outer s H vs Q E hr h => ?_;obtain ⟨t, v, rfl, ht, hW, hcase⟩ := h;refine ⟨_, ze (yh (PW.pt (Yr (xt (yz (ya o1 (hr.mono (by decide)) (zc (pv 0) zd)))) (j9 (xt (yz (ya o2 (hr.mono (by decide)) (zc (pv 0) zd))))))) (zh (zn xx)) zx)
  (zh (zn (yf (Zr rfl) rfl T.all Vs (zc (Yd (own := ["calling"]) (cap := [0]) rfl (xr (zi Zy) rfl rfl (by decide +kernel) (by decide +kernel) (by decide +kernel) ⟨⟨_, rfl, .inl rfl, Zd rfl⟩, trivial⟩) (ql (zp zt (pv 0) (y4 T.FIRSTS) (fun _ _ => rfl)))
   (fun _ _ _ _ => yd (i := 0) (by show (["calling", "thing"] : List Str).Nodup; decide +kernel) rfl (Or.inl rfl)) (fun _ _ _ _ => wa)
   (fun _ _ _ _ => ya o3 hr (zc (zp (r := zej K) zt (pv 1) (y4 T.SCRIPTS) (fun _ _ => rfl)) (zc (pv 0) zd)))) zd)))), ?_⟩
 refine ⟨_, rfl, t, v, rfl, ht, hW, fun H1 s1 => ⟨_, rfl, ?_⟩⟩;rcases hcase with ⟨h, rfl, hG, k⟩ | ⟨hf, k⟩
 · cases cw : mWf (eH h) with
   | false =>
     refine yp (yp ?_);have q := k H1 s1;unfold mHs at q;rw [cw, c7] at q;exact q
   | true =>
     refine yl ?_;refine ⟨_, rfl, h, v, rfl, ht.mono s1, hG.cnt, fun H2 s2 => ⟨_, rfl, ?_⟩⟩;have s12 := s1.trans s2;have kk : ∀ H', Same H H' → Q (.bl (Vl h && h.fs.all fun c => xv h.ss 20 c.1 c.2)) H' := fun H' s' => by
      have q := k H' s';unfold mHs at q;rw [cw, bj] at q;exact q
     cases cs : Vl h with
     | false =>
       refine yp ?_;have q := kk H2 s12;rw [cs, c7] at q;exact q
     | true =>
       refine yl ?_;rw [cs] at kk;obtain ⟨a, xs, uf, rfl, sq, ea, huf⟩ := Is.at (K := K) (i := 2) (t := .tup (h.fs.map eC)) (ht.mono s12) rfl;obtain ⟨af, xf, rfl, haf, hlf⟩ := huf;have hfl := hlf.length;rw [ae] at hfl;refine ⟨_, rfl, a, xs, _, _, rfl, rfl, sq, ea, af, rfl, ⟨xf, SqT.of haf⟩, ?_⟩;refine Xt (xs := xf) (fun i ys H3 => Same H2 H3 ∧ ys = (h.fs.take i).map fun (c : zm) => V.bl (xv h.ss 20 c.1 c.2)) ⟨Same.refl H2, rfl⟩ (fun i ys H3 hi ⟨s3, e2⟩ => ⟨SqT.of (s3 _ _ haf), by rw [e2, ae, cg]; exact Y0 (by have := hG.cnt.fs40; omega)⟩) ?_ ?_
       · rintro i x ys H3 hx ⟨s3, rfl⟩;refine Vq ?_;obtain ⟨tt, htt, hxt⟩ := hlf.get' hx;rw [ay] at htt;obtain ⟨c, hc, rfl⟩ : ∃ c, h.fs[i]? = some c ∧ eC c = tt := by
          cases e : h.fs[i]? with
          | none => rw [e] at htt; cases htt
          | some z => rw [e] at htt; exact ⟨z, rfl, Option.some.inj htt⟩
         have hcm := bz hc;obtain ⟨a', xs', us, e', sq', ea', hus⟩ := Is.at (K := K) (i := 3) (t := .tup (h.ss.map eS)) (ht.mono (s12.trans s3)) rfl;cases e';refine ⟨_, rfl, a, xs', _, _, rfl, rfl, sq', ea', _, rfl, h.ss, us, c, x, rfl, hus, hxt.mono s3, hG.cnt.call c hcm, (by have := hG.cnt.ss20; omega), hG.cnt.later, hG.beg, hG.ms c hcm, fun H4 s4 => ⟨s3.trans s4, ?_⟩⟩;rw [cm, hc, az];rfl
       · rintro ys H3 ⟨s3, rfl⟩ p2 hp2;refine ⟨p2, h.fs.map fun (c : zm) => xv h.ss 20 c.1 c.2, rfl, SqL.of (by rw [zf, cp, hfl, ci]; rfl), ?_⟩;have e : (h.fs.map fun (c : zm) => xv h.ss 20 c.1 c.2).all id = h.fs.all fun c => xv h.ss 20 c.1 c.2 := by rw [List.all_map]; rfl
         rw [e];exact kk _ (s12.trans (s3.trans (Same.new hp2 _)))
 · rw [hf];exact yp (yp (k H1 s1))
abbrev zau : Stmt := top 68
abbrev zeh : Stmt := top 69
noncomputable def zqo : Sp := fun vs H Q _ => ∃ c p : Int, vs = [.int c, .int p] ∧ 0 ≤ p ∧ ∀ r, 0 ≤ r → Q (.int r) H
noncomputable def But (a : Addr) (H H' : Hp) : Prop := ∀ b o, b ≠ a → H b = some o → H' b = some o
theorem But.refl (a : Addr) (H : Hp) : But a H H := fun _ _ _ e => e
theorem But.trans {H1 H2 : Hp} (x : But a H H1) (y : But a H1 H2) : But a H H2 := fun b o n e => y b o n (x b o n e)
theorem _root_.L2.Same.but (s : Same H H') : But a H H' := fun b o _ e => s b o e
theorem But.upd {a : Addr} {H : Hp} {o : HO} : But a H (upd H a o) := fun b u n e => by rw [zk n]; exact e
theorem But.seq {xs : List V} (x : But a H H') (n : s ≠ a) (h : SqL K H s xs) : SqL K H' s xs := by
 rcases h with (h | ⟨o, h⟩) | h
 · exact .inl (.inl (x _ _ n h))
 · exact .inl (.inr ⟨o, x _ _ n h⟩)
 · exact .inr h
structure Tape (K : PySem.W.Frag) (H : Hp) (a s : Addr) (ns : List Int) : Prop where
 at' : ∃ p r : Int, H a = some (.lst [.ref s, .int p, .int r]) ∧ 0 ≤ p ∧ 0 ≤ r
 seq : SqL K H s (ns.map V.int)
 ne : s ≠ a
 len : ns.length ≤ 63
theorem Tape.same (t : Tape K H a s ns) (h : Same H H') : Tape K H' a s ns := by
 obtain ⟨⟨p, r, e, h1, h2⟩, q, n, l⟩ := t;exact ⟨⟨p, r, h _ _ e, h1, h2⟩, h.seq q, n, l⟩
theorem Tape.tups (t : Tape K H a s ns) (b : But a H H') : xk H H' := fun c xs e => by
 obtain ⟨⟨p, r, ea, _⟩, _⟩ := t;exact b c _ (Ja e ea (by intro z; cases z)) e
theorem zhn (h0 : 0 < j) (h : j < 2 ^ 70) : j.natAbs.log2 < 9000 := by
 have h1 : j.natAbs < 2 ^ 70 := by omega
 have h2 : j.natAbs ≠ 0 := by omega
 have h3 : j.natAbs.log2 < 70 := (Nat.log2_lt h2).mpr h1;omega
theorem zj1 : OpR X (binaryOp .FloorDiv) (rI (fun _ j => 0 < j ∧ j < 2 ^ 70) fun i j => .int (i / j)) := opI fun i j _ _ _ _ _ hc q => by
 have h1 : (0 : Int) < j := hc.1;exact floordiv_int (by omega) (by rw [Int.fdiv_eq_ediv_of_nonneg i (by omega)]; exact q) (.inl (PyProof.noPylong_of_log2 (zhn hc.1 hc.2)))
noncomputable def zi8 (K : PySem.W.Frag) : Sp := fun vs H Q _ => ∃ (a s : Addr) (ns : List Int) (many : Int), vs = [.ref a, .int many] ∧ Tape K H a s ns ∧ 0 < many ∧ many < 2 ^ 70 ∧ ∀ d H', 0 ≤ d → d < many → But a H H' → Tape K H' a s ns → Q (.int d) H'
theorem zlh (h : -(2 ^ 64) < j ∧ j < 2 ^ 64) : zlz i j := .inr h
theorem zid (h : -(2 ^ 64) < i ∧ i < 2 ^ 64) : zlz i j := .inl h
theorem zb4 : FnScope ["cell", "place", "one", "two", "more"] ["cell", "place"] (zi zau) := .of
theorem zj6 (D : Def K mg "_law_e_mixed" zau) : Ok P w K mg base "_law_e_mixed" 1 ["cell", "place"] zqo := by
 refine vp D zb4 (fun vs H Q E ⟨_, _, e, _⟩ => by rw [e]; rfl) fun f cdv A outer s H vs Q E hr h => ?_;obtain ⟨c, p, rfl, hp, k⟩ := h;have nd := zb4.nd;refine ⟨_, ze (yh (zu znv (pv 0) (yc zjz zg zg) (ye _)) (zh (zn (pv 0))) zx)
  (ze (zr (i := 2) nd rfl (Or.inl rfl) (yc Xo (yc vo (yc vo (yc kf (yc Xo (pv 0) zg) zg) (yc kf (pv 1) zg)) zg) zg))
  (ze (zr (i := 3) nd rfl (Or.inl rfl) (yc Xo (yc vo (yc vo (yc vo (yc kf (pv 2) (pv 2)) (yc kf zg (pv 2))) (yc kf zg (pv 1))) zg) zg))
  (ze (zr (i := 4) nd rfl (Or.inl rfl) (yc Xo (yc vo (yc vo (yc kf (pv 3) (pv 3)) (yc kf zg (pv 1))) (pv 2)) zg))
  (zh (zn (yc vo (yc kf (pv 3) zg) (pv 4))))))), ?_⟩
 refine ⟨_, rfl, 10, 18, rfl, rfl, ⟨by decide, by decide, by decide⟩, _, _, rfl, rfl, _, rfl, ?_⟩;refine vm (fun d => ?_) (fun _ => ?_)
 · have d := cb d;refine ⟨_, rfl, k c ?_⟩;have : (0 : Int) ≤ (10 : Int) ^ (18 : Int).toNat := by decide
   omega
 · refine ⟨_, rfl, _, _, rfl, rfl, (by show (0 : Int) < 1000000009; decide), _, _, rfl, rfl, zlh (by decide), _, rfl, _, _, rfl, rfl, zlh (by decide), _, _, rfl, rfl, _, _, rfl, rfl, _, _, rfl, rfl, (by show (0 : Int) < 1999999973; decide), ?_⟩;have m1 := dc (c % 1000000009 * 75353 + p * 4099 + 17) (show (1999999973 : Int) ≠ 0 by decide);have m2 := di (c % 1000000009 * 75353 + p * 4099 + 17) (show (0 : Int) < 1999999973 by decide);generalize (c % 1000000009 * 75353 + p * 4099 + 17) % 1999999973 = x1 at m1 m2 ⊢;refine ⟨_, rfl, _, rfl, _, _, rfl, rfl, zid (by omega), _, rfl, _, _, rfl, rfl, zid (by decide), _, _, rfl, rfl, _, rfl, _, _, rfl, rfl, zid (by decide), _, _, rfl, rfl, _, _, rfl, rfl, _, _, rfl, rfl, (by show (0 : Int) < 2147483549; decide), ?_⟩;have m3 := dc (x1 * x1 + 8191 * x1 + 3 * p + 1) (show (2147483549 : Int) ≠ 0 by decide);have m4 := di (x1 * x1 + 8191 * x1 + 3 * p + 1) (show (0 : Int) < 2147483549 by decide);generalize (x1 * x1 + 8191 * x1 + 3 * p + 1) % 2147483549 = x2 at m3 m4 ⊢;refine ⟨_, rfl, _, rfl, _, _, rfl, rfl, zid (by omega), _, rfl, _, _, rfl, rfl, zid (by decide), _, _, rfl, rfl, _, rfl, _, _, rfl, rfl, _, _, rfl, rfl, (by show (0 : Int) < 2147483497; decide), ?_⟩;have m5 := dc (x2 * x2 + 127 * p + x1) (show (2147483497 : Int) ≠ 0 by decide);generalize (x2 * x2 + 127 * p + x1) % 2147483497 = x3 at m5 ⊢;exact ⟨_, rfl, _, _, rfl, rfl, zlh (by decide), _, rfl, _, _, rfl, rfl, k _ (by omega)⟩
theorem zfr : FnScope ["deck", "many", "place", "cell", "picked"] ["deck", "many"] (zi zeh) := .of
theorem zms (D : Def K mg "_law_e_pick" zeh) (T : Txt K mg) (o1 : Ok P w K mg base "_law_e_mixed" 1 ["cell", "place"] zqo) : Ok P w K mg base "_law_e_pick" 2 ["deck", "many"] (zi8 K) := by
 refine vp D zfr (fun vs H Q E ⟨_, _, _, _, e, _⟩ => by rw [e]; rfl) fun f cdv A outer sh H vs Q E hr h => ?_;obtain ⟨a, s, ns, many, rfl, hT, hm0, hm1, k⟩ := h;obtain ⟨p, r, ha, hp0, hr0⟩ := hT.at';have nd := zfr.nd;refine ⟨_, ze (yh (zu zch (zp yi (pv 0) zg (fun _ _ => rfl)) (pv 1) (ye _))
   (ze (zr (i := 2) nd rfl (Or.inl rfl) (zp yi (pv 0) zg (fun _ _ => rfl)))
   (ze (zr (i := 3) nd rfl (Or.inl rfl) (yc kf zg (pv 2)))
   (ze (yh (zu zch (pv 2) (yf yg (by rfl) T.len xp (zc (zp yi (pv 0) zg (fun _ _ => rfl)) zd)) (ye _))
    (zh (zr (i := 3) nd rfl (Or.inl rfl) (zp yi (zp yi (pv 0) zg (fun _ _ => rfl)) (pv 2) (fun _ _ => rfl))))
    (zh (yh (zu zci (yf yg (by rfl) T.len xp (zc (zp yi (pv 0) zg (fun _ _ => rfl)) zd)) zg (ye _))
     (zh (zr (i := 3) nd rfl (Or.inl rfl) (yc vo (yc Xo (zp yi (zp yi (pv 0) zg (fun _ _ => rfl)) (yc Xo (yc kf (pv 2) zg) (yf yg (by rfl) T.len xp (zc (zp yi (pv 0) zg (fun _ _ => rfl)) zd))) (fun _ _ => rfl)) zg) (yc kf (pv 2) zg)))) zx)))
   (ze (zaw (yc vo (pv 2) zg) (zel (pv 0) zg Qw))
   (zh (zaw (ya o1 hr (zc (pv 3) (zc (pv 2) zd))) (zel (pv 0) zg Qw))))))) zx)
  (ze (zr (i := 4) nd rfl (Or.inl rfl) (yc Xo (zp yi (pv 0) zg (fun _ _ => rfl)) (pv 1)))
  (ze (zaw (yc zj1 (zp yi (pv 0) zg (fun _ _ => rfl)) (pv 1)) (zel (pv 0) zg Qw))
  (zh (zn (pv 4))))), ?_⟩
 refine ⟨_, rfl, a, _, _, _, rfl, rfl, SqL.of ha, rfl, _, rfl, _, _, rfl, rfl, _, rfl, ?_⟩;refine vm (fun _ => ?_) (fun _ => ?_)
 · have hl : (ns.map V.int).length = ns.length := ae _;refine ⟨_, rfl, a, _, _, _, rfl, rfl, SqL.of ha, rfl, _, rfl, _, _, rfl, rfl, zid (by decide), ?_⟩;refine ⟨_, rfl, _, rfl, a, _, _, _, rfl, rfl, SqL.of ha, rfl, s, _, rfl, .inl hT.seq, _, _, rfl, rfl, _, rfl, ?_⟩;refine vm (fun c1 => ?_) (fun c1 => ?_)
   · have c1 := cb c1;rw [hl] at c1;have hi : p.toNat < ns.length := by omega
     have ep : p = ((p.toNat : Nat) : Int) := by omega
     have hat : atI (ns.map V.int) p = some (.int ns[p.toNat]) := by
      have q : atI (ns.map V.int) ((p.toNat : Nat) : Int) = some (.int ns[p.toNat]) := we (by rw [ay, be hi]; rfl);rw [← ep] at q;exact q
     refine ⟨_, rfl, a, _, _, _, rfl, rfl, SqL.of ha, rfl, _, rfl, s, _, _, _, rfl, rfl, hT.seq, hat, ?_⟩;refine ⟨_, rfl, _, _, rfl, rfl, _, rfl, a, _, _, _, rfl, rfl, ha, rfl, ?_⟩;refine ⟨_, rfl, _, rfl, _, p, rfl, hp0, fun r2 hr2 => ⟨_, rfl, a, _, _, _, rfl, rfl, zf, rfl, ?_⟩⟩;have e2 : (upd (upd H a (.lst (([.ref s, .int p, .int r] : List V).set 1 (.int (p + 1))))) a (.lst ((([.ref s, .int p, .int r] : List V).set 1 (.int (p + 1))).set 2 (.int r2)))) a = some (.lst [.ref s, .int (p + 1), .int r2]) := zf;refine ⟨_, rfl, a, _, _, _, rfl, rfl, SqL.of e2, rfl, _, rfl, _, _, rfl, rfl, hm0, ?_⟩;refine ⟨_, rfl, a, _, _, _, rfl, rfl, SqL.of e2, rfl, _, rfl, _, _, rfl, rfl, ⟨hm0, hm1⟩, _, rfl, a, _, _, _, rfl, rfl, e2, rfl, ?_⟩;refine ⟨_, rfl, k _ _ (dc _ (by omega)) (di _ hm0) ((But.refl a H).trans (But.upd.trans (But.upd.trans But.upd))) ⟨⟨_, _, zf, (by omega), Int.ediv_nonneg hr2 (by omega)⟩, But.seq ((But.refl a H).trans (But.upd.trans (But.upd.trans But.upd))) hT.ne hT.seq, hT.ne, hT.len⟩⟩
   · refine ⟨_, rfl, a, _, _, _, rfl, rfl, SqL.of ha, rfl, s, _, rfl, .inl hT.seq, _, _, rfl, rfl, _, rfl, ?_⟩;refine vm (fun c2 => ?_) (fun c2 => ?_)
     · have c2 := cb c2;rw [hl] at c2;have hpos : (0 : Int) < (ns.length : Int) := c2;have hj1 := dc (p * 11) (show (ns.length : Int) ≠ 0 by omega);have hj2 := di (p * 11) hpos;have hi : (p * 11 % (ns.length : Int)).toNat < ns.length := by omega
       have ep : p * 11 % (ns.length : Int) = (((p * 11 % (ns.length : Int)).toNat : Nat) : Int) := by omega
       have hat : atI (ns.map V.int) (p * 11 % (ns.length : Int)) = some (.int ns[(p * 11 % (ns.length : Int)).toNat]) := by
        have q : atI (ns.map V.int) (((p * 11 % (ns.length : Int)).toNat : Nat) : Int) = some (.int ns[(p * 11 % (ns.length : Int)).toNat]) := we (by rw [ay, be hi]; rfl);rw [← ep] at q;exact q
       refine ⟨_, rfl, a, _, _, _, rfl, rfl, SqL.of ha, rfl, _, rfl, _, _, rfl, rfl, zlh (by decide), _, rfl, a, _, _, _, rfl, rfl, SqL.of ha, rfl, s, _, rfl, .inl hT.seq, _, _, rfl, rfl, ?_, s, _, _, _, rfl, rfl, hT.seq, (by rw [hl]; exact hat), _, _, rfl, rfl, (by show (0 : Int) < 999999937; decide), _, rfl, _, _, rfl, rfl, zlh (by decide), _, _, rfl, rfl, ?_⟩
       · show (0 : Int) < (((ns.map V.int).length : Nat) : Int);rw [hl]; exact hpos
       refine ⟨_, rfl, _, _, rfl, rfl, _, rfl, a, _, _, _, rfl, rfl, ha, rfl, ?_⟩;refine ⟨_, rfl, _, rfl, _, p, rfl, hp0, fun r2 hr2 => ⟨_, rfl, a, _, _, _, rfl, rfl, zf, rfl, ?_⟩⟩;have e2 : (upd (upd H a (.lst (([.ref s, .int p, .int r] : List V).set 1 (.int (p + 1))))) a (.lst ((([.ref s, .int p, .int r] : List V).set 1 (.int (p + 1))).set 2 (.int r2)))) a = some (.lst [.ref s, .int (p + 1), .int r2]) := zf;refine ⟨_, rfl, a, _, _, _, rfl, rfl, SqL.of e2, rfl, _, rfl, _, _, rfl, rfl, hm0, ?_⟩;refine ⟨_, rfl, a, _, _, _, rfl, rfl, SqL.of e2, rfl, _, rfl, _, _, rfl, rfl, ⟨hm0, hm1⟩, _, rfl, a, _, _, _, rfl, rfl, e2, rfl, ?_⟩;refine ⟨_, rfl, k _ _ (dc _ (by omega)) (di _ hm0) ((But.refl a H).trans (But.upd.trans (But.upd.trans But.upd))) ⟨⟨_, _, zf, (by omega), Int.ediv_nonneg hr2 (by omega)⟩, But.seq ((But.refl a H).trans (But.upd.trans (But.upd.trans But.upd))) hT.ne hT.seq, hT.ne, hT.len⟩⟩
     · skip
       refine ⟨_, rfl, _, _, rfl, rfl, _, rfl, a, _, _, _, rfl, rfl, ha, rfl, ?_⟩;refine ⟨_, rfl, _, rfl, _, p, rfl, hp0, fun r2 hr2 => ⟨_, rfl, a, _, _, _, rfl, rfl, zf, rfl, ?_⟩⟩;have e2 : (upd (upd H a (.lst (([.ref s, .int p, .int r] : List V).set 1 (.int (p + 1))))) a (.lst ((([.ref s, .int p, .int r] : List V).set 1 (.int (p + 1))).set 2 (.int r2)))) a = some (.lst [.ref s, .int (p + 1), .int r2]) := zf;refine ⟨_, rfl, a, _, _, _, rfl, rfl, SqL.of e2, rfl, _, rfl, _, _, rfl, rfl, hm0, ?_⟩;refine ⟨_, rfl, a, _, _, _, rfl, rfl, SqL.of e2, rfl, _, rfl, _, _, rfl, rfl, ⟨hm0, hm1⟩, _, rfl, a, _, _, _, rfl, rfl, e2, rfl, ?_⟩;refine ⟨_, rfl, k _ _ (dc _ (by omega)) (di _ hm0) ((But.refl a H).trans (But.upd.trans (But.upd.trans But.upd))) ⟨⟨_, _, zf, (by omega), Int.ediv_nonneg hr2 (by omega)⟩, But.seq ((But.refl a H).trans (But.upd.trans (But.upd.trans But.upd))) hT.ne hT.seq, hT.ne, hT.len⟩⟩
 · refine ⟨_, rfl, a, _, _, _, rfl, rfl, SqL.of ha, rfl, _, rfl, _, _, rfl, rfl, hm0, ?_⟩;refine ⟨_, rfl, a, _, _, _, rfl, rfl, SqL.of ha, rfl, _, rfl, _, _, rfl, rfl, ⟨hm0, hm1⟩, _, rfl, a, _, _, _, rfl, rfl, ha, rfl, ?_⟩;refine ⟨_, rfl, k _ _ (dc _ (by omega)) (di _ hm0) But.upd ⟨⟨_, _, zf, hp0, Int.ediv_nonneg hr0 (by omega)⟩, But.seq But.upd hT.ne hT.seq, hT.ne, hT.len⟩⟩
theorem Tape.at2 (t : Tape K H a s ns) (b : But a H H') (h : ∃ p r : Int, H' a = some (.lst [.ref s, .int p, .int r]) ∧ 0 ≤ p ∧ 0 ≤ r) : Tape K H' a s ns := ⟨h, b.seq t.ne t.seq, t.ne, t.len⟩
noncomputable def Y9 (H : Hp) (a s : Addr) : Prop := ∃ p r : Int, H a = some (.lst [.ref s, .int p, .int r]) ∧ 0 ≤ p ∧ 0 ≤ r
end
end My
namespace My
open PySem
variable {n : Int} {ps : List Str} {c m : Nat}
noncomputable def jn (c : Nat) : List (List Nat) → List Nat
 | [] => []
 | [x] => x
 | x :: y :: r => x ++ c :: jn c (y :: r)
theorem zld {c : Nat} : ∀ {p q a b : List Nat}, c ∉ p → c ∉ q → p ++ c :: a = q ++ c :: b → p = q ∧ a = b
 | [], [], a, b, _, _, h => by
   simp at h;exact ⟨rfl, h⟩
 | [], x :: q, a, b, _, hq, h => by
   simp at h;exact absurd h.1 (fun z => hq (by rw [z]; exact ao))
 | x :: p, [], a, b, hp, _, h => by
   simp at h;exact absurd h.1.symm (fun z => hp (by rw [z]; exact ao))
 | x :: p, y :: q, a, b, hp, hq, h => by
   simp only [List.cons_append, List.cons.injEq] at h;obtain ⟨h1, h2⟩ := zld (fun z => hp (aq _ z)) (fun z => hq (aq _ z)) h.2;exact ⟨by rw [h.1, h1], h2⟩
theorem zkq {c : Nat} : ∀ {ps qs : List (List Nat)}, ps ≠ [] → qs ≠ [] → (∀ p ∈ ps, c ∉ p) → (∀ q ∈ qs, c ∉ q) → jn c ps = jn c qs → ps = qs
 | [], _, h, _, _, _, _ => absurd rfl h
 | _, [], _, h, _, _, _ => absurd rfl h
 | [p], [q], _, _, _, _, h => by
   have h : p = q := h;rw [h]
 | [p], q :: q2 :: r, _, _, hp, _, h => by
   have h : p = q ++ c :: jn c (q2 :: r) := h;exact absurd (by rw [h]; exact ck _ ao) (hp p ao)
 | p :: p2 :: r, [q], _, _, _, hq, h => by
   have h : p ++ c :: jn c (p2 :: r) = q := h;exact absurd (by rw [← h]; exact ck _ ao) (hq q ao)
 | p :: p2 :: r, q :: q2 :: r', _, _, hp, hq, h => by
   have h : p ++ c :: jn c (p2 :: r) = q ++ c :: jn c (q2 :: r') := h;obtain ⟨h1, h2⟩ := zld (hp p ao) (hq q ao) h;rw [h1, zkq (by simp) (by simp) (fun x hx => hp x (aq _ hx)) (fun x hx => hq x (aq _ hx)) h2]
noncomputable def one (c : Nat) : Str := ⟨#[c]⟩
theorem zbg (c : Nat) : ∀ ps : List Str, ((one c).join ps).cps.toList = jn c (ps.map fun p => p.cps.toList)
 | [] => rfl
 | [p] => rfl
 | p :: q :: r => by
   have ih := zbg c (q :: r);have e : (one c).join (p :: q :: r) = p ++ one c ++ (one c).join (q :: r) := rfl;rw [e];show ((p ++ one c) ++ (one c).join (q :: r)).cps.toList = _;have e2 : ∀ a b : Str, (a ++ b).cps.toList = a.cps.toList ++ b.cps.toList := fun a b => by
    show (a.cps ++ b.cps).toList = _;simp
   rw [e2, e2, ih];show p.cps.toList ++ [c] ++ jn c _ = p.cps.toList ++ c :: jn c _;simp
theorem zi5 (x : Str) (c : Nat) : Txt.split x (one c) ≠ [] := by
 unfold Txt.split;split
 · simp
 · split
   · simp
   · intro h;unfold Builtin.Str.partsBetween at h;have := congrArg List.length h;simp at this
theorem toList_inj {a b : Str} (h : a.cps.toList = b.cps.toList) : a = b := Str.ext' (Array.toList_inj.mp h)
theorem Qu (h : ps ≠ []) (hf : ∀ p ∈ ps, c ∉ p.cps.toList) : Txt.split (Txt.join (one c) ps) (one c) = ps := by
 have e0 : Txt.join (one c) ps = (one c).join ps := StrLaws.glued_eq_join _ _;rw [e0];have h1 := StrLaws.join_split ((one c).join ps) (one c);have h2 := congrArg (fun s : Str => s.cps.toList) h1;rw [zbg, zbg] at h2;have h3 := zkq (by intro z; exact zi5 _ c (List.map_eq_nil_iff.mp z)) (by intro z; exact h (List.map_eq_nil_iff.mp z)) (fun p hp => by
  obtain ⟨q, hq, rfl⟩ := ax.mp hp;exact StrLaws.split_free _ c q hq) (fun p hp => by
  obtain ⟨q, hq, rfl⟩ := ax.mp hp;exact hf q hq) h2
 exact (List.map_inj_right fun a b h => toList_inj h).mp h3
noncomputable def nS (n : Int) : Str := Str.ofString (toString n)
noncomputable def Qb (m : Nat) : List Nat := (Nat.toDigits 10 m).map Char.toNat
theorem Wk (m : Nat) : (nS (m : Int)).cps.toList = Qb m := PySem.W.KIN.signs_num m
theorem Wz (h : m < 10) : Qb m = [48 + m] := by
 have : ∀ m, m < 10 → Qb m = [48 + m] := by decide +kernel
 exact this m h
theorem K6 (h : ¬ m < 10) : Qb m = Qb (m / 10) ++ [48 + m % 10] := by
 have hm : m % 10 < 10 := Nat.mod_lt m (by decide);have t : Nat.toDigits 10 (m / 10) ++ Nat.toDigits 10 (m % 10) = Nat.toDigits 10 (10 * (m / 10) + m % 10) := Nat.toDigits_append_toDigits (by decide) (by omega) hm;rw [Nat.div_add_mod] at t;unfold Qb;rw [← t, az];congr 1;exact Wz hm
theorem zbo (m : Nat) : (∀ c ∈ Qb m, 48 ≤ c ∧ c ≤ 57) ∧ 1 ≤ (Qb m).length ∧ (0 < m → (Qb m).head? ≠ some 48) := by
 induction m using Nat.strongRecOn with
 | _ m ih =>
   by_cases h : m < 10
   · rw [Wz h];refine ⟨fun c hc => by rw [av.mp hc]; omega, by simp, fun hp => by simp; omega⟩
   · rw [K6 h];obtain ⟨h1, h2, h3⟩ := ih (m / 10) (by omega);refine ⟨fun c hc => ?_, by rw [ar]; omega, fun _ => ?_⟩
     · rcases ba.mp hc with hc | hc
       · exact h1 c hc
       · rw [av.mp hc]; omega
     · have hp := h3 (by omega);cases e : Qb (m / 10) with
       | nil => rw [e] at h2; exact absurd h2 (by decide)
       | cons x r => rw [e] at hp; exact hp
theorem zk8 (k : Nat) : ∀ m, m < 10 ^ (k + 1) → (Qb m).length ≤ k + 1 := by
 induction k with
 | zero => intro m h; rw [Wz (by simpa using h)]; simp
 | succ k ih =>
   intro m h;by_cases h10 : m < 10
   · rw [Wz h10]; simp
   · rw [K6 h10, ar];have := ih (m / 10) (by rw [Nat.div_lt_iff_lt_mul (by decide)]; rw [Nat.pow_succ] at h; exact h);simp only [ce];omega
theorem zka (h0 : 0 ≤ n) (h1 : n < 1000000000000000000000000000000) (hc : c < 48 ∨ 57 < c) : c ∉ (nS n).cps.toList := by
 obtain ⟨m, rfl⟩ := Int.eq_ofNat_of_zero_le h0;rw [Wk];intro hm;have := (zbo m).1 c hm;omega
theorem va (h0 : 0 ≤ n) (h1 : n < 1000000000000000000000000000000) : 1 ≤ (nS n).length ∧ (nS n).length ≤ 30 := by
 obtain ⟨m, rfl⟩ := Int.eq_ofNat_of_zero_le h0;have e : (nS (m : Int)).length = (Qb m).length := by rw [← Wk]; rfl
 rw [e];have hp : (10 : Nat) ^ (29 + 1) = 1000000000000000000000000000000 := by decide
 exact ⟨(zbo m).2.1, zk8 29 m (by rw [hp]; omega)⟩
theorem za8 (h0 : 0 ≤ n) (h1 : n < 1000000000000000000000000000000) (hc : c ∈ (nS n).cps.toList) : 48 ≤ c ∧ c ≤ 57 := by
 by_cases z : 48 ≤ c ∧ c ≤ 57
 · exact z
 · exact absurd hc (zka h0 h1 (by omega))
theorem zj9 (h0 : 0 ≤ n) (h1 : n < 1000000000000000000000000000000) : (nS n).cps.toList.head? ≠ some 48 ∨ nS n = one 48 := by
 obtain ⟨m, rfl⟩ := Int.eq_ofNat_of_zero_le h0;rw [Wk];by_cases hm : 0 < m
 · exact .inl ((zbo m).2.2 hm)
 · have : m = 0 := by omega
   subst this;exact .inr (toList_inj (by rw [Wk, Wz (by decide)]; rfl))
noncomputable def vv (x : Str) : Nat := PySem.NumText.digitsVal x.cps.toList
theorem zn8 (m : Nat) : vv (nS (m : Int)) = m := by
 unfold vv;rw [Wk];exact PySem.W.KIN.val_back m
end My
namespace My
open PySem PySem.Spec PyProof.Rows L2
variable {a cH cT l p s : Addr} {osl : Array (Option Value)} {X : Cx} {D : Ends} {dL fd0 : FuncData} {o : HO} {base h : Heap} {H H' H2 : Hp} {b j lo w : Int} {σ : L2.St} {ps : List Addr} {es : List Expr} {ns : List Int} {ls r w0 ws xs : List Str} {ts : List T} {us ys : List V} {i n : Nat} {pos : Pos} {P q : Program} {K : PySem.W.Frag} {st : Stmt} {sep x y z : Str} {mg : Str → Option Value} {t : T} {te : TE} {tb : TS} {t1 : TT} {v : V} {Q : VK}
noncomputable def sp : Str := one 32
noncomputable def nl : Str := one 10
noncomputable def Z5 (m : Mem) : Str := nS m.1 ++ ":" ++ m.2
noncomputable def cW (x : Str) (c : zm) : List Str := x :: nS c.1 :: c.2.map Z5
noncomputable def dW : Deed → List Str
 | .rai b k => ["raise", nS b, nS k]
 | .awa b m => ["await", nS b, nS m]
 | .com w => ["come", nS w]
 | .goo w => ["go", nS w]
 | .lea w => ["leave", nS w]
 | .beg s ms => cW "begin" (s, ms)
 | .wor d => ["work", nS d]
 | .say x => ["say", x]
noncomputable def jp (h : House) : List Str := ["BOXES", nS h.b, "WALLS", nS h.w]
noncomputable def wm (ss : List yb) : List (List Str) := ss.flatMap fun s => ["SCRIPT"] :: s.map dW
noncomputable def zy (h : House) : List (List Str) := jp h :: (wm h.ss ++ h.fs.map (cW "FIRST"))
noncomputable def zq (ws : List Str) : Str := PySem.Txt.join sp ws
noncomputable def wq (h : House) : Str := PySem.Txt.join nl ((zy h).map zq)
noncomputable def Num (n : Int) : Prop := 0 ≤ n ∧ n < 1000000000000000000000000000000
noncomputable def Qc (m : Mem) : Prop := Num m.1 ∧ (m.2 = "both" ∨ m.2 = "come" ∨ m.2 = "go")
noncomputable def Qd (c : zm) : Prop := (c.1 : Int) < 10000 ∧ c.2.length ≤ 10 ∧ ∀ m ∈ c.2, Qc m
noncomputable def Yx : Deed → Prop
 | .rai b k => Num b ∧ Num k
 | .awa b m => Num b ∧ Num m
 | .com w => Num w
 | .goo w => Num w
 | .lea w => Num w
 | .beg s ms => Qd (s, ms)
 | .wor d => Num d
 | .say x => x = "a" ∨ x = "come" ∨ x = "go" ∨ x = "zzzzzzzz" ∨ x = "abcdefghi"
structure HouT (h : House) : Prop where
 b : Num h.b
 w : Num h.w
 fn : h.fs.length ≤ 10
 f : ∀ c ∈ h.fs, Qd c
 sn : h.ss.length ≤ 10
 s : ∀ s ∈ h.ss, s.length ≤ 10 ∧ ∀ d ∈ s, Yx d
theorem xq (a b : Str) : (a ++ b).length = a.length + b.length := Str.length_append a b
theorem zdk (k B : Nat) : ∀ (xs : List Str) (a : Nat), (∀ x ∈ xs, x.length + k ≤ B) → xs.foldl (fun a x => a + x.length + k) a ≤ a + xs.length * B
 | [], a, _ => by simp
 | x :: r, a, h => by
   have h1 := zdk k B r (a + x.length + k) fun y hy => h y (aq _ hy);have h2 := h x ao;rw [List.foldl_cons, bi, Nat.succ_mul];omega
theorem zbh (B : Nat) (h : ∀ x ∈ xs, x.length + sep.length ≤ B) (hb : xs.length * B ≤ sizeLine) : JoinOk sep xs = true := by
 unfold JoinOk Builtin.Str.tooLong;rw [List.foldl_toArray];have := zdk sep.length B xs 0 h;rw [Bool.not_eq_true', decide_eq_false_iff_not];omega
theorem Kz (k B : Nat) (acc : Array Nat) : ∀ (xs : List Str) (a : Array Nat) (g : Array Nat), g.size = k → (∀ x ∈ xs, x.length + k ≤ B) → (xs.foldl (fun acc p => acc ++ g ++ p.cps) a).size ≤ a.size + xs.length * B
 | [], a, _, _, _ => by simp
 | x :: r, a, g, hg, h => by
   have h1 := Kz k B acc r (a ++ g ++ x.cps) g hg fun y hy => h y (aq _ hy);have h2 := h x ao;have h3 : x.length = x.cps.size := rfl;rw [List.foldl_cons, bi, Nat.succ_mul];rw [Array.size_append, Array.size_append, hg] at h1;omega
theorem Zp (B : Nat) (h : ∀ x ∈ xs, x.length + sep.length ≤ B) : (PySem.Txt.join sep xs).length ≤ xs.length * B := by
 cases xs with
 | nil =>
   show (Str.empty).length ≤ _;exact bd _
 | cons x r =>
   have h2 := h x ao;have h1 := Kz sep.length B #[] r x.cps sep.cps rfl fun y hy => h y (aq _ hy);show (List.foldl (fun acc p => acc ++ sep.cps ++ p.cps) x.cps r).size ≤ _;have h3 : x.length = x.cps.size := rfl;rw [bi, Nat.succ_mul];omega
theorem zc1 {m : Mem} (h : Qc m) : (Z5 m).length ≤ 40 := by
 unfold Z5;rw [xq, xq];have h1 := (va h.1.1 h.1.2).2;have h2 : m.2.length ≤ 4 := by rcases h.2 with e | e | e <;> rw [e] <;> decide
 have h3 : (":" : Str).length = 1 := rfl;omega
theorem zlm {c : zm} (hx : x.length ≤ 10) (h : Qd c) : (cW x c).length ≤ 12 ∧ ∀ t ∈ cW x c, t.length ≤ 40 := by
 unfold cW;refine ⟨by simp only [bi, ae]; have := h.2.1; omega, fun t ht => ?_⟩;rcases ag.mp ht with rfl | ht
 · omega
 rcases ag.mp ht with rfl | ht
 · have := (va (n := (c.1 : Int)) (by omega) (by have := h.1; omega)).2; omega
 obtain ⟨m, hm, rfl⟩ := ax.mp ht;exact zc1 (h.2.2 m hm)
theorem wl2 {a : Str} (h1 : a.length ≤ 40) (h2 : x.length ≤ 40) : ([a, x] : List Str).length ≤ 12 ∧ ∀ t ∈ [a, x], t.length ≤ 40 := by
 refine ⟨by show 2 ≤ 12; decide, fun t ht => ?_⟩;simp only [ag, aw, or_false] at ht;rcases ht with rfl | rfl
 · exact h1
 · exact h2
theorem wl3 {a : Str} (h1 : a.length ≤ 40) (h2 : x.length ≤ 40) (h3 : y.length ≤ 40) : ([a, x, y] : List Str).length ≤ 12 ∧ ∀ t ∈ [a, x, y], t.length ≤ 40 := by
 refine ⟨by show 3 ≤ 12; decide, fun t ht => ?_⟩;simp only [ag, aw, or_false] at ht;rcases ht with rfl | rfl | rfl
 · exact h1
 · exact h2
 · exact h3
theorem zpu {d : Deed} (h : Yx d) : (dW d).length ≤ 12 ∧ ∀ t ∈ dW d, t.length ≤ 40 := by
 have n : ∀ {i : Int}, Num i → (nS i).length ≤ 40 := fun h => by have := (va h.1 h.2).2; omega
 cases d with
 | rai b k => exact wl3 (by decide) (n h.1) (n h.2)
 | awa b k => exact wl3 (by decide) (n h.1) (n h.2)
 | com w => exact wl2 (by decide) (n h)
 | goo w => exact wl2 (by decide) (n h)
 | lea w => exact wl2 (by decide) (n h)
 | wor w => exact wl2 (by decide) (n h)
 | beg s ms => exact zlm (by decide) h
 | say x => exact wl2 (by decide) (by rcases h with e | e | e | e | e <;> rw [e] <;> decide)
abbrev Yl : Stmt := top 48
theorem qg : Zu X (.type "str") (fun xs H Q => (∃ i : Int, xs = [.int i] ∧ i.natAbs.log2 < 1920 ∧ Q (.str (nS i)) H) ∨ ∃ x, xs = [.str x] ∧ Q (.str x) H) := by
 intro pins s σ H xs us Q I r h;rcases h with ⟨i, rfl, hz, q⟩ | ⟨x, rfl, q⟩
 · obtain ⟨u, rfl, t, rfl⟩ := j6 r;exact PySem.P.str_of_int hz ⟨.str _, H, I.tok _, ⟨_, rfl⟩, q⟩
 · obtain ⟨u, rfl, t, rfl⟩ := j6 r;exact PySem.P.str_of_str ⟨.str x, H, I, ⟨_, rfl⟩, q⟩
theorem Zc {n : Int} (h : Num n) : n.natAbs.log2 < 1920 := by
 obtain ⟨h0, h1⟩ := h;by_cases z : n.natAbs = 0
 · rw [z]; decide
 · have : n.natAbs.log2 < 100 := (Nat.log2_lt z).mpr (by omega);omega
theorem jy {c : zm} (h : Qd c) : Num (c.1 : Int) := ⟨by omega, by have := h.1; omega⟩
noncomputable def zqr : Sp := fun vs H Q _ => ∃ d v, vs = [v] ∧ Yx d ∧ Is H (eD d) v ∧ ∀ H', Same H H' → Q (.str (zq (dW d))) H'
theorem zcz {m : Mem} (h : Is H (Y8 m) v) : ∃ b, v = .ref b ∧ H b = some (.tup [.int m.1, .str m.2]) := by
 obtain ⟨a, ys, rfl, ha, v1, r1, rfl, hv1, v2, r2, rfl, hv2, hr2⟩ := h;cases (show r2 = [] from hr2);cases (show v1 = .int m.1 from hv1);cases (show v2 = .str m.2 from hv2);exact ⟨a, rfl, ha⟩
theorem zdw {c : zm} (h : Is H (eC c) v) : ∃ b bm xs, v = .ref b ∧ H b = some (.tup [.int (c.1 : Int), .ref bm]) ∧ H bm = some (.tup xs) ∧ IsL H (c.2.map Y8) xs := by
 obtain ⟨a, ys, rfl, ha, v1, r1, rfl, hv1, v2, r2, rfl, hv2, hr2⟩ := h;cases (show r2 = [] from hr2);cases (show v1 = .int (c.1 : Int) from hv1);obtain ⟨bm, xs, rfl, hbm, hl⟩ := hv2;exact ⟨a, bm, xs, rfl, ha, hbm, hl⟩
theorem at0 {x : V} {r : List V} : atI (x :: r) 0 = some x := (show atI (x :: r) ((0 : Nat) : Int) = _ from we rfl)
theorem at1 {x y : V} {r : List V} : atI (x :: y :: r) 1 = some y := (show atI (x :: y :: r) ((1 : Nat) : Int) = _ from we rfl)
section
variable {w : World}
abbrev Yk : Stmt := top 59
noncomputable def dv : Deed → List V
 | .rai b k => [.str "raise", .int b, .int k]
 | .awa b m => [.str "await", .int b, .int m]
 | .com w => [.str "come", .int w]
 | .goo w => [.str "go", .int w]
 | .lea w => [.str "leave", .int w]
 | .beg _ _ => []
 | .wor d => [.str "work", .int d]
 | .say x => [.str "say", .str x]
noncomputable def zm7 : Deed → Bool
 | .beg _ _ => true
 | _ => false
theorem Zj {x y : V} {X : Str} (hx : x = .str X) (h : Is H (.tup [.str X, t]) v) (ht : ∀ u, Is H t u → u = y) : ∃ a, v = .ref a ∧ H a = some (.tup [x, y]) := by
 obtain ⟨a, ys, rfl, ha, v1, r1, rfl, e1, v2, r2, rfl, e2, e3⟩ := h;cases (show r2 = [] from e3);cases (show v1 = .str X from e1);exact ⟨a, rfl, by rw [ha, ht _ e2, hx]⟩
theorem Qs {i : Int} {X : Str} (h : Is H (.tup [.str X, .int i, .int j]) v) : ∃ a, v = .ref a ∧ H a = some (.tup [.str X, .int i, .int j]) := by
 obtain ⟨a, ys, rfl, ha, v1, r1, rfl, e1, v2, r2, rfl, e2, v3, r3, rfl, e3, e4⟩ := h;cases (show r3 = [] from e4);cases (show v1 = .str X from e1);cases (show v2 = .int i from e2);cases (show v3 = .int j from e3);exact ⟨a, rfl, ha⟩
theorem zh6 {d : Deed} (hb : zm7 d = false) (h : Is H (eD d) v) : ∃ a, v = .ref a ∧ H a = some (.tup (dv d)) := by
 cases d with
 | beg => cases hb
 | rai b k => exact Qs h
 | awa b k => exact Qs h
 | com w => exact Zj rfl h fun u hu => hu
 | goo w => exact Zj rfl h fun u hu => hu
 | lea w => exact Zj rfl h fun u hu => hu
 | wor w => exact Zj rfl h fun u hu => hu
 | say x => exact Zj rfl h fun u hu => hu
theorem zhy (h : House) : zq (jp h) = "BOXES " ++ nS h.b ++ " WALLS " ++ nS h.w := by
 have e0 : ("BOXES " : Str) = ("BOXES" : Str) ++ sp := by decide
 have e1 : (" WALLS " : Str) = sp ++ ("WALLS" : Str) ++ sp := by decide
 rw [e0, e1];show (⟨(((("BOXES" : Str).cps ++ sp.cps ++ (nS h.b).cps) ++ sp.cps ++ ("WALLS" : Str).cps) ++ sp.cps ++ (nS h.w).cps)⟩ : Str) = _;apply Str.ext';show _ = (((("BOXES" : Str).cps ++ sp.cps) ++ (nS h.b).cps) ++ ((sp.cps ++ ("WALLS" : Str).cps) ++ sp.cps)) ++ (nS h.w).cps;simp only [Array.append_assoc]
structure HouO (H : Hp) (h : House) (a bf bs : Addr) (xf xs : List V) : Prop where
 at' : H a = some (.tup [.int h.b, .int h.w, .ref bf, .ref bs])
 f : H bf = some (.tup xf)
 fl : L2.IsL H (h.fs.map eC) xf
 s : H bs = some (.tup xs)
 sl : L2.IsL H (h.ss.map eS) xs
theorem zdf {h : House} (i : Is H (eH h) v) : ∃ a bf bs xf xs, v = .ref a ∧ HouO H h a bf bs xf xs := by
 obtain ⟨a, ys, rfl, ha, v1, r1, rfl, e1, v2, r2, rfl, e2, v3, r3, rfl, e3, v4, r4, rfl, e4, e5⟩ := i;cases (show r4 = [] from e5);cases (show v1 = .int h.b from e1);cases (show v2 = .int h.w from e2);obtain ⟨bf, xf, rfl, hf, lf⟩ := e3;obtain ⟨bs, xs, rfl, hs, ls⟩ := e4;exact ⟨a, bf, bs, xf, xs, rfl, ha, hf, lf, hs, ls⟩
theorem zdj (cs : List zm) : jd (cs.map eC) := jd.all.mpr fun t ht => by
 obtain ⟨c, _, rfl⟩ := ax.mp ht;exact ⟨trivial, jd.all.mpr fun u hu => by obtain ⟨m, _, rfl⟩ := ax.mp hu; exact ⟨trivial, trivial, trivial⟩, trivial⟩
theorem zgf (ms : List Mem) : Fro (eMs ms) := jd.all.mpr fun u hu => by obtain ⟨m, _, rfl⟩ := ax.mp hu; exact ⟨trivial, trivial, trivial⟩
theorem zsa (d : Deed) : Fro (eD d) := by
 cases d with
 | beg j ms =>
   show jd [.str "begin", .int j, eMs ms];exact ⟨trivial, trivial, zgf ms, trivial⟩
 | _ => first | exact ⟨trivial, trivial, trivial⟩ | exact ⟨trivial, trivial, trivial, trivial⟩
theorem Yf (ds : List Deed) : jd (ds.map eD) := jd.all.mpr fun t ht => by obtain ⟨m, _, rfl⟩ := ax.mp ht; exact zsa m
theorem zbk (ss : List yb) : jd (ss.map eS) := jd.all.mpr fun t ht => by obtain ⟨m, _, rfl⟩ := ax.mp ht; exact Yf m
theorem HouO.tups {H H' : Hp} {h : House} {a bf bs : Addr} {xf xs : List V} (o : HouO H h a bf bs xf xs) (t : xk H H') : HouO H' h a bf bs xf xs := ⟨t _ _ o.at', t _ _ o.f, o.fl.tups t (zdj _), t _ _ o.s, o.sl.tups t (zbk _)⟩
theorem at2 {x y z : V} {r : List V} : atI (x :: y :: z :: r) 2 = some z := (show atI (x :: y :: z :: r) ((2 : Nat) : Int) = _ from we rfl)
theorem at3 {x y z u : V} {r : List V} : atI (x :: y :: z :: u :: r) 3 = some u := (show atI (x :: y :: z :: u :: r) ((3 : Nat) : Int) = _ from we rfl)
theorem zg7 {ss : List yb} {s : yb} (e : ss[i]? = some s) : wm (ss.take (i + 1)) = wm (ss.take i) ++ ([("SCRIPT" : Str)] :: s.map dW) := by
 unfold wm;rw [cm, e, List.flatMap_append];show _ = _ ++ _;simp
theorem Kn : ∀ (l : List yb), (∀ s ∈ l, s.length ≤ 10 ∧ ∀ d ∈ s, Yx d) → (wm l).length ≤ l.length * 11
 | [], _ => bd _
 | s :: r, hl => by
   have h1 := Kn r fun x hx => hl x (aq _ hx);have h2 := (hl s ao).1;have e : wm (s :: r) = ([("SCRIPT" : Str)] :: s.map dW) ++ wm r := rfl;rw [e, ar, bi, ae, bi, Nat.succ_mul];omega
theorem Vf {ss : List yb} (hn : ss.length ≤ 10) (h : ∀ s ∈ ss, s.length ≤ 10 ∧ ∀ d ∈ s, Yx d) : (wm ss).length ≤ 110 ∧ ∀ ws ∈ wm ss, ws.length ≤ 12 ∧ ∀ t ∈ ws, t.length ≤ 40 := by
 refine ⟨by have := Kn ss h; omega, fun ws hw => ?_⟩;obtain ⟨s, hs, hm⟩ := List.mem_flatMap.mp hw;rcases ag.mp hm with rfl | hm
 · exact ⟨by decide, fun t ht => by rw [av.mp ht]; decide⟩
 · obtain ⟨d, hd, rfl⟩ := ax.mp hm;exact zpu ((h s hs).2 d hd)
theorem zc6 (h : ws.length ≤ 12 ∧ ∀ t ∈ ws, t.length ≤ 40) : (zq ws).length ≤ 492 := by
 have h1 := Zp (sep := sp) (xs := ws) 41 fun t ht => by
  have := h.2 t ht;show t.length + 1 ≤ 41;omega
 have h2 : ws.length * 41 ≤ 12 * 41 := Nat.mul_le_mul_right _ h.1;exact bp h1 (by omega)
theorem xa {h : House} (hh : HouT h) : (zy h).length ≤ 121 ∧ ∀ ws ∈ zy h, ws.length ≤ 12 ∧ ∀ t ∈ ws, t.length ≤ 40 := by
 obtain ⟨h1, h2⟩ := Vf hh.sn hh.s;have hf := hh.fn;refine ⟨by unfold zy; rw [bi, ar, ae]; omega, fun ws hw => ?_⟩;rcases ag.mp hw with rfl | hw
 · refine ⟨by show 4 ≤ 12; decide, fun t ht => ?_⟩;simp only [jp, ag, aw, or_false] at ht;rcases ht with rfl | rfl | rfl | rfl
   · decide
   · have := (va hh.b.1 hh.b.2).2; omega
   · decide
   · have := (va hh.w.1 hh.w.2).2; omega
 rcases ba.mp hw with hw | hw
 · exact h2 ws hw
 · obtain ⟨c, hc, rfl⟩ := ax.mp hw;exact zlm (by decide) (hh.f c hc)
theorem zn9 {h : House} (hh : HouT h) : JoinOk nl ((zy h).map zq) = true := by
 obtain ⟨h1, h2⟩ := xa hh;refine zbh 500 (fun x hx => ?_) ?_
 · obtain ⟨ws, hw, rfl⟩ := ax.mp hx;have := zc6 (h2 ws hw);show _ + 1 ≤ 500;omega
 · rw [ae];have : (zy h).length * 500 ≤ 121 * 500 := Nat.mul_le_mul_right _ h1;exact bp this (by decide)
abbrev Y1 : Stmt := top 73
abbrev Xl : Stmt := top 74
abbrev Va : Stmt := top 75
theorem Wx (g : Array Nat) : ∀ (l : List Str) (a : Array Nat), (l.foldl (fun acc p => acc ++ g ++ p.cps) a).toList = a.toList ++ l.flatMap (fun p => g.toList ++ p.cps.toList)
 | [], a => by simp
 | x :: r, a => by
   show (r.foldl _ (a ++ g ++ x.cps)).toList = _;rw [Wx g r];simp
noncomputable def zbb (m : Mem) : Str := " " ++ nS m.1 ++ ":" ++ m.2
noncomputable def mtx (ms : List Mem) : Str := PySem.Txt.join "" (ms.map zbb)
theorem zrz : ∀ l : List Str, (PySem.Txt.join "" l).cps.toList = l.flatMap (fun p => p.cps.toList)
 | [] => rfl
 | x :: r => by
   have := Wx ("" : Str).cps r x.cps;exact this
theorem Ks (m : Mem) : (zbb m).cps.toList = 32 :: (Z5 m).cps.toList := by
 show ((((" " : Str).cps ++ (nS m.1).cps) ++ (":" : Str).cps) ++ m.2.cps).toList = 32 :: (((nS m.1).cps ++ (":" : Str).cps) ++ m.2.cps).toList;simp only [Array.toList_append, List.append_assoc];rfl
theorem Zo (x : Str) (l : List Str) : (zq (x :: l)).cps.toList = x.cps.toList ++ l.flatMap (fun p => 32 :: p.cps.toList) := Wx sp.cps l x.cps
theorem K9 (x : Str) (c : zm) : x ++ " " ++ nS c.1 ++ mtx c.2 = zq (cW x c) := by
 apply toList_inj;rw [cW, Zo];show (((x.cps ++ (" " : Str).cps) ++ (nS c.1).cps) ++ (mtx c.2).cps).toList = _;simp only [Array.toList_append, List.flatMap_cons, List.append_assoc];have e : (mtx c.2).cps.toList = (c.2.map Z5).flatMap (fun p => 32 :: p.cps.toList) := by
  rw [mtx, zrz];induction c.2 with
  | nil => rfl
  | cons m r ih =>
    simp only [bh, List.flatMap_cons, Ks] at ih ⊢;rw [ih]
 rw [e];rfl
theorem zc0 {m : Mem} (h : Qc m) : (zbb m).length ≤ 41 := by
 have h1 := zc1 h;have h2 : (zbb m).cps.toList.length = (Z5 m).cps.toList.length + 1 := by rw [Ks]; rfl
 have h3 : (zbb m).cps.toList.length = (zbb m).length := by simp; rfl
 have h4 : (Z5 m).cps.toList.length = (Z5 m).length := by simp; rfl
 omega
theorem zf3 {ms : List Mem} (hl : ms.length ≤ 10) (h : ∀ m ∈ ms, Qc m) : (mtx ms).length ≤ 410 := by
 have h1 := Zp (sep := "") (xs := ms.map zbb) 41 fun t ht => by
  obtain ⟨m, hm, rfl⟩ := ax.mp ht;exact zc0 (h m hm)
 rw [ae] at h1;exact bp h1 (by omega)
noncomputable def zol : Sp := fun vs H Q _ => ∃ ms v, vs = [v] ∧ ms.length ≤ 10 ∧ (∀ m ∈ ms, Qc m) ∧ Is H (eMs ms) v ∧ ∀ H', Same H H' → Q (.str (mtx ms)) H'
theorem zkf {m : Mem} (h : Qc m) : m.2.length ≤ 4 := by rcases h.2 with e | e | e <;> rw [e] <;> decide
theorem zee : FnScope ["called"] ["called"] (zi Y1) := .of
theorem zeo (D : Def K mg "_law_e_members_text" Y1) (T : Txt K mg) : Ok P w K mg base "_law_e_members_text" 1 ["called"] zol := by
 refine vp D zee (fun vs H Q E ⟨_, _, e, _⟩ => by rw [e]; rfl) fun f cdv A outer s H vs Q E hr h => ?_;obtain ⟨ms, v, rfl, h10, hm, hv, kk⟩ := h;have ndc : (["place", "mode"] : List Str).Nodup := by decide +kernel
 refine ⟨_, zh (zn (wn PySem.F.plainAttrs_str PySem.F.slot_str_join PySem.F.type_str_join Wm zl (zc (Yd (own := ["place", "mode"]) (cap := []) (g := znb K 2 (Jk (Ye 0) (Jk (Ye 1) znc))) rfl (xr (zi Y1) rfl rfl (by decide +kernel) (by decide +kernel) (by decide +kernel) trivial) (ql (pv 0))
  (fun _ _ _ _ => Xn rfl (xi (yd (i := 0) ndc rfl (Or.inl rfl)) (xi (yd (i := 1) ndc rfl (Or.inl rfl)) Z2))) (fun _ _ _ _ => wa)
  (fun _ _ _ _ => yc ym (yc ym (yc ym zl (yo qg rfl T.str js (zc (pv 0) zd))) zl) (pv 1))) zd))), ?_⟩
 obtain ⟨bm, xs, rfl, hbm, hl⟩ := hv;have hxl := hl.length;rw [ae] at hxl;refine ⟨rfl, _, rfl, bm, rfl, ⟨_, SqT.of hbm⟩, ?_⟩;refine Xt (xs := xs) (fun i ys H' => H' = H ∧ ys = ((ms.take i).map zbb).map V.str) ⟨rfl, rfl⟩ (fun i ys H' hi ⟨s', e⟩ => ⟨by rw [s']; exact SqT.of hbm, by rw [e, ae, ae, cg]; exact zw (by omega)⟩) ?_ ?_
 · rintro i y ys H1 hy ⟨rfl, rfl⟩;obtain ⟨t, ht, it⟩ := hl.get' hy;rw [ay] at ht;cases em : ms[i]? with
   | none => rw [em] at ht; cases ht
   | some m =>
   rw [em] at ht;cases ht;obtain ⟨bb, rfl, hbb⟩ := zcz it;have hm1 := hm m (bz em);have hnl := (va hm1.1.1 hm1.1.2).2;have l2 : (":" : Str).length = 1 := rfl;have l4 : (" " : Str).length = 1 := rfl;have l3 := zkf hm1;refine ⟨bb, _, rfl, SqT.of hbb, rfl, _, _, rfl, _, _, rfl, rfl, ?_⟩;refine if0 ?_;refine ⟨_, rfl, .inl ⟨m.1, rfl, Zc hm1.1, " ", nS m.1, rfl, rfl, zw (by omega), _, _, rfl, rfl, ?_, _, rfl, _, _, rfl, rfl, ?_, rfl, ?_⟩⟩
   · rw [xq]; exact zw (by omega)
   · rw [xq, xq]; exact zw (by omega)
   · rw [cm, em, az, az];rfl
 rintro ys H1 ⟨rfl, rfl⟩ p hp;rw [hxl, ci];refine ⟨"", p, ms.map zbb, rfl, rfl, zf, zbh 41 (fun t ht => ?_) ?_, kk _ (Same.new hp _)⟩
 · obtain ⟨m, hm2, rfl⟩ := ax.mp ht;exact zc0 (hm m hm2)
 · rw [ae];have : ms.length * 41 ≤ 10 * 41 := Nat.mul_le_mul_right _ h10;exact bp this (by decide)
theorem zfp : (" " : Str) = sp := by decide
theorem zls (c : zm) : ("begin " : Str) ++ nS c.1 ++ mtx c.2 = zq (cW "begin" c) := by
 rw [← K9, show ("begin " : Str) = "begin" ++ " " by decide]
theorem zjg (x : Str) : ("say " : Str) ++ x = zq ["say", x] := by
 rw [show ("say " : Str) = "say" ++ sp by decide];rfl
theorem ze8 (c : zm) : ("FIRST " : Str) ++ nS c.1 ++ mtx c.2 = zq (cW "FIRST" c) := by
 rw [← K9, show ("FIRST " : Str) = "FIRST" ++ " " by decide]
theorem zrx (x y : Str) : x ++ " " ++ y = zq [x, y] := by rw [zfp]; rfl
theorem zrw (x y z : Str) : x ++ " " ++ y ++ " " ++ z = zq [x, y, z] := by rw [zfp]; rfl
theorem zh7 {d : Deed} (h : Yx d) : (∃ n ms, d = .beg n ms) ∨ (zm7 d = false ∧ ((∃ x : Str, dv d = [.str "say", .str x] ∧ dW d = [("say" : Str), x] ∧ x.length ≤ 9) ∨ (∃ (x : Str) (i j : Int), dv d = [.str x, .int i, .int j] ∧ dW d = [x, nS i, nS j] ∧ Num i ∧ Num j ∧ x.length ≤ 10 ∧ x ≠ "begin" ∧ x ≠ "say") ∨ ∃ (x : Str) (i : Int), dv d = [.str x, .int i] ∧ dW d = [x, nS i] ∧ Num i ∧ x.length ≤ 10 ∧ x ≠ "begin" ∧ x ≠ "say")) := by
 cases d with
 | beg n ms => exact .inl ⟨n, ms, rfl⟩
 | say x => exact .inr ⟨rfl, .inl ⟨x, rfl, rfl, by rcases h with e | e | e | e | e <;> rw [e] <;> decide⟩⟩
 | rai b k => exact .inr ⟨rfl, .inr (.inl ⟨_, _, _, rfl, rfl, h.1, h.2, by decide, by decide, by decide⟩)⟩
 | awa b k => exact .inr ⟨rfl, .inr (.inl ⟨_, _, _, rfl, rfl, h.1, h.2, by decide, by decide, by decide⟩)⟩
 | com b => exact .inr ⟨rfl, .inr (.inr ⟨_, _, rfl, rfl, h, by decide, by decide, by decide⟩)⟩
 | goo b => exact .inr ⟨rfl, .inr (.inr ⟨_, _, rfl, rfl, h, by decide, by decide, by decide⟩)⟩
 | lea b => exact .inr ⟨rfl, .inr (.inr ⟨_, _, rfl, rfl, h, by decide, by decide, by decide⟩)⟩
 | wor b => exact .inr ⟨rfl, .inr (.inr ⟨_, _, rfl, rfl, h, by decide, by decide, by decide⟩)⟩
theorem X4 (h : x ≠ y) : decide (V.str x = V.str y) = false := bn fun e => h (by injection e)
theorem zb7 : FnScope ["deed"] ["deed"] (zi Xl) := .of
theorem zcs (D : Def K mg "_law_e_deed_text" Xl) (T : Txt K mg) (o1 : Ok P w K mg base "_law_e_members_text" 1 ["called"] zol) : Ok P w K mg base "_law_e_deed_text" 2 ["deed"] zqr := by
 refine vp D zb7 (fun vs H Q E ⟨_, _, e, _⟩ => by rw [e]; rfl) fun f cdv A outer s H vs Q E hr h => ?_;obtain ⟨d, v, rfl, hd, hv, kk⟩ := h;refine ⟨_, ze (yh (zu wo (zp zt (pv 0) zg (fun _ _ => rfl)) zl (ye _)) (zh (zn (yc ym (yc ym zl (yo qg rfl T.str js (zc (zp zt (pv 0) zg (fun _ _ => rfl)) zd))) (ya o1 hr (zc (zp zt (pv 0) zg (fun _ _ => rfl)) zd))))) zx)
  (ze (yh (zu wo (zp zt (pv 0) zg (fun _ _ => rfl)) zl (ye _)) (zh (zn (yc ym zl (zp zt (pv 0) zg (fun _ _ => rfl))))) zx)
  (ze (yh (zu wo (yf yg rfl T.len xp (zc (pv 0) zd)) zg (ye _)) (zh (zn (yc ym (yc ym (yc ym (yc ym (zp zt (pv 0) zg (fun _ _ => rfl)) zl) (yo qg rfl T.str js (zc (zp zt (pv 0) zg (fun _ _ => rfl)) zd))) zl) (yo qg rfl T.str js (zc (zp zt (pv 0) zg (fun _ _ => rfl)) zd))))) zx)
  (zh (zn (yc ym (yc ym (zp zt (pv 0) zg (fun _ _ => rfl)) zl) (yo qg rfl T.str js (zc (zp zt (pv 0) zg (fun _ _ => rfl)) zd))))))), ?_⟩
 have l1 : (" " : Str).length = 1 := rfl;rcases zh7 hd with ⟨n, ms, rfl⟩ | ⟨hb, hk⟩
 · obtain ⟨a, ys, rfl, ha, v1, r1, rfl, e1, v2, r2, rfl, e2, v3, r3, rfl, e3, e4⟩ := hv;cases (show r3 = [] from e4);cases (show v1 = .str "begin" from e1);cases (show v2 = .int (n : Int) from e2);have hn : (nS (n : Int)).length ≤ 30 := (va (jy hd).1 (jy hd).2).2;have hm : (mtx ms).length ≤ 410 := zf3 hd.2.1 hd.2.2;have lb : ("begin " : Str).length = 6 := rfl;refine ⟨_, rfl, a, _, _, _, rfl, rfl, SqT.of ha, at0, rfl, _, rfl, ?_⟩;rw [au rfl];refine yp ⟨_, rfl, a, _, _, _, rfl, rfl, SqT.of ha, at1, .inl ⟨_, rfl, Zc (jy hd), _, _, rfl, rfl, zw (by omega), ?_⟩⟩;refine ⟨_, rfl, a, _, _, _, rfl, rfl, SqT.of ha, at2, ms, v3, rfl, hd.2.1, hd.2.2, e3, fun H1 s1 => ⟨_, _, rfl, rfl, ?_, ?_⟩⟩
   · rw [xq]; exact zw (by omega)
   · rw [zls (n, ms)];exact kk H1 s1
 obtain ⟨a, rfl, ha⟩ := zh6 hb hv;rcases hk with ⟨x, e1, e2, hx⟩ | ⟨x, i, j, e1, e2, hi, hj, hx, n1, n2⟩ | ⟨x, i, e1, e2, hi, hx, n1, n2⟩
 · rw [e1] at ha;refine ⟨_, rfl, a, _, _, _, rfl, rfl, SqT.of ha, at0, rfl, _, rfl, ?_⟩;rw [X4 (by decide)];refine yl ⟨_, rfl, a, _, _, _, rfl, rfl, SqT.of ha, at0, rfl, _, rfl, ?_⟩;rw [au rfl];refine yp ⟨_, rfl, a, _, _, _, rfl, rfl, SqT.of ha, at1, _, _, rfl, rfl, zw (by show 4 + _ ≤ 1000; omega), ?_⟩;rw [zjg, ← e2];exact kk H (Same.refl H)
 · rw [e1] at ha;have li := (va hi.1 hi.2).2;have lj := (va hj.1 hj.2).2;refine ⟨_, rfl, a, _, _, _, rfl, rfl, SqT.of ha, at0, rfl, _, rfl, ?_⟩;rw [X4 n1];refine yl ⟨_, rfl, a, _, _, _, rfl, rfl, SqT.of ha, at0, rfl, _, rfl, ?_⟩;rw [X4 n2];refine yl ⟨_, rfl, a, _, rfl, .inr (SqT.of ha), rfl, _, rfl, ?_⟩;refine yp ⟨_, rfl, a, _, _, _, rfl, rfl, SqT.of ha, at0, _, _, rfl, rfl, zw (by omega), ?_⟩;refine ⟨_, rfl, a, _, _, _, rfl, rfl, SqT.of ha, at1, .inl ⟨_, rfl, Zc hi, _, _, rfl, rfl, ?_, _, _, rfl, rfl, ?_, ?_⟩⟩
   · rw [xq]; exact zw (by omega)
   · rw [xq, xq]; exact zw (by omega)
   refine ⟨_, rfl, a, _, _, _, rfl, rfl, SqT.of ha, at2, .inl ⟨_, rfl, Zc hj, _, _, rfl, rfl, ?_, ?_⟩⟩
   · rw [xq, xq, xq]; exact zw (by omega)
   rw [zrw, ← e2];exact kk H (Same.refl H)
 · rw [e1] at ha;have li := (va hi.1 hi.2).2;refine ⟨_, rfl, a, _, _, _, rfl, rfl, SqT.of ha, at0, rfl, _, rfl, ?_⟩;rw [X4 n1];refine yl ⟨_, rfl, a, _, _, _, rfl, rfl, SqT.of ha, at0, rfl, _, rfl, ?_⟩;rw [X4 n2];refine yl ⟨_, rfl, a, _, rfl, .inr (SqT.of ha), rfl, _, rfl, ?_⟩;refine yl ⟨_, rfl, a, _, _, _, rfl, rfl, SqT.of ha, at0, _, _, rfl, rfl, zw (by omega), ?_⟩;refine ⟨_, rfl, a, _, _, _, rfl, rfl, SqT.of ha, at1, .inl ⟨_, rfl, Zc hi, _, _, rfl, rfl, ?_, ?_⟩⟩
   · rw [xq]; exact zw (by omega)
   rw [zrx, ← e2];exact kk H (Same.refl H)
noncomputable def zqz : Sp := fun vs H Q _ => ∃ h v, vs = [v] ∧ Is H (eH h) v ∧ HouT h ∧ ∀ H', Same H H' → Q (.str (wq h)) H'
theorem zrc (b : List Str) (x : Str) : b.map V.str ++ [.str x] = (b ++ [x]).map V.str := by rw [az]; rfl
theorem Qy : FnScope ["house", "lines", "script", "deed", "at", "called"] ["house"] (zi Va) := .of
theorem zeq (D : Def K mg "_law_e_text" Va) (T : Txt K mg) (o1 : Ok P w K mg base "_law_e_members_text" 1 ["called"] zol) (o2 : Ok P w K mg base "_law_e_deed_text" 2 ["deed"] zqr) : Ok P w K mg base "_law_e_text" 3 ["house"] zqz := by
 refine vp D Qy (fun vs H Q E ⟨_, _, e, _⟩ => by rw [e]; rfl) fun f cdv A outer s H vs Q E hr h => ?_;obtain ⟨h, v, rfl, hv, hh, kk⟩ := h;have nd := Qy.nd;have r1 := hr.mono (show 1 ≤ 2 by decide);refine ⟨_, ze (zr (i := 1) nd rfl (Or.inl rfl) (yr (zc (yc ym (yc ym (yc ym zl (yo qg rfl T.str js (zc (zp zt (pv 0) zg (fun _ _ => rfl)) zd))) zl) (yo qg rfl T.str js (zc (zp zt (pv 0) zg (fun _ _ => rfl)) zd))) zd)))
  (ze (wr PassesOwn.never rfl (ql (zp zt (pv 0) zg (fun _ _ => rfl))) (yd (i := 2) nd rfl (Or.inl rfl))
   (ze (yy (wn PySem.F.plainAttrs_list PySem.F.slot_list_append PySem.F.type_list_append xb (pv 1) (zc zl zd)))
   (zh (wr PassesOwn.never rfl (ql (pv 2)) (yd (i := 3) nd rfl (Or.inl rfl)) (zh (yy (wn PySem.F.plainAttrs_list PySem.F.slot_list_append PySem.F.type_list_append xb (pv 1) (zc (ya o2 hr (zc (pv 3) zd)) zd))))))))
  (ze (wr PassesOwn.never rfl (ql (zp zt (pv 0) zg (fun _ _ => rfl))) (Xn rfl (xi (yd (i := 4) nd rfl (Or.inl rfl)) (xi (yd (i := 5) nd rfl (Or.inl rfl)) Z2)))
   (zh (yy (wn PySem.F.plainAttrs_list PySem.F.slot_list_append PySem.F.type_list_append xb (pv 1) (zc (yc ym (yc ym zl (yo qg rfl T.str js (zc (pv 4) zd))) (ya o1 r1 (zc (pv 5) zd))) zd)))))
  (zh (zn (wn PySem.F.plainAttrs_str PySem.F.slot_str_join PySem.F.type_str_join Wm zl (zc (pv 1) zd)))))), ?_⟩
 obtain ⟨a, bf, bs, xf, xs, rfl, O1⟩ := zdf hv;have hbl := (va hh.b.1 hh.b.2).2;have hwl := (va hh.w.1 hh.w.2).2;have l1 : ("BOXES " : Str).length = 6 := rfl;have l2 : (" WALLS " : Str).length = 7 := rfl;refine ⟨_, rfl, a, _, _, _, rfl, rfl, SqT.of O1.at', at0, .inl ⟨_, rfl, Zc hh.b, _, _, rfl, rfl, zw (by omega), _, _, rfl, rfl, ?_, ?_⟩⟩
 · rw [xq]; exact zw (by omega)
 refine ⟨_, rfl, a, _, _, _, rfl, rfl, SqT.of O1.at', at1, .inl ⟨_, rfl, Zc hh.w, _, _, rfl, rfl, ?_, by show 1 ≤ sizeLine; decide, fun l hl => ?_⟩⟩
 · rw [xq, xq]; exact zw (by omega)
 rw [← zhy];have s2 := Same.new hl (.lst [.str (zq (jp h))]);have g2 : upd H l (.lst [.str (zq (jp h))]) l = some (.lst ([zq (jp h)].map V.str)) := zf;have O2 := O1.tups fun b ys e => s2 _ _ e;generalize upd H l (.lst [.str (zq (jp h))]) = H2 at s2 g2 O2 ⊢;have hrl := Vf hh.sn hh.s;have hsl := O2.sl.length;rw [ae] at hsl;have hsn := hh.sn;have push : ∀ {H3 : Hp} {b : List Str} (x : Str), Same H H3 → HouO H3 h a bf bs xf xs → H3 l = some (.lst (b.map V.str)) → Same H (upd H3 l (.lst (b.map V.str ++ [.str x]))) ∧ HouO (upd H3 l (.lst (b.map V.str ++ [.str x]))) h a bf bs xf xs ∧ upd H3 l (.lst (b.map V.str ++ [.str x])) l = some (.lst ((b ++ [x]).map V.str)) ∧ xk H3 (upd H3 l (.lst (b.map V.str ++ [.str x]))) := by
  intro H3 b x s3 O3 g3;have tp : xk H3 (upd H3 l (.lst (b.map V.str ++ [.str x]))) := xk.upd g3 (fun zs z => by cases z);exact ⟨fun b o e => by rw [zk (zj e hl)]; exact s3 _ _ e, O3.tups tp, by rw [zf, zrc], tp⟩
 refine ⟨_, rfl, a, _, _, _, rfl, rfl, SqT.of O2.at', at3, bs, rfl, ⟨_, SqT.of O2.s⟩, ?_⟩;refine Z6 (xs := xs) (fun i σ H' => Same H H' ∧ HouO H' h a bf bs xf xs ∧ H' l = some (.lst ((zq (jp h) :: (wm (h.ss.take i)).map zq).map V.str)) ∧ ∃ x2 x3, σ = [some (.ref a), some (.ref l), x2, x3, none, none]) ⟨s2, O2, g2, none, none, rfl⟩ (fun i σ H' _ ⟨_, o, _⟩ => SqT.of o.s) ?_ ?_
 · rintro i x σ H3 hx ⟨s3, O3, g3, x2, x3, rfl⟩;obtain ⟨t, ht, it⟩ := O3.sl.get' hx;rw [ay] at ht;cases es : h.ss[i]? with
   | none => rw [es] at ht; cases ht
   | some sc =>
   rw [es] at ht;cases ht;obtain ⟨asx, ys, rfl, has, hys⟩ := it;have hyl := hys.length;rw [ae] at hyl;have hsc := hh.s sc (bz es);have hsc10 := hsc.1;have hi : (wm (h.ss.take i)).length ≤ 110 := (Vf (by rw [cg]; omega) fun s hs => hh.s s (List.mem_of_mem_take hs)).1;have hbn : (zq (jp h) :: (wm (h.ss.take i)).map zq).length ≤ 111 := by rw [bi, ae]; omega
   rw [zg7 es, az, ← List.cons_append, bh];generalize (zq (jp h) :: (wm (h.ss.take i)).map zq) = b at g3 hbn ⊢;refine ⟨_, rfl, .inl ⟨rfl, _, SqL.of g3⟩, l, _, _, rfl, rfl, g3, ?_, ?_⟩
   · rw [ae]; exact y7 (by omega)
   obtain ⟨s4, O4, g4, tp4⟩ := push "SCRIPT" s3 O3 g3;have has4 := tp4 _ _ has;have hys4 := hys.tups tp4 (Yf sc);generalize upd H3 l (.lst (b.map V.str ++ [.str "SCRIPT"])) = H4 at tp4 g4 s4 O4 has4 hys4 ⊢;refine ⟨_, rfl, asx, rfl, ⟨_, SqT.of has4⟩, ?_⟩;refine Z6 (xs := ys) (fun j σ H' => Same H H' ∧ HouO H' h a bf bs xf xs ∧ H' asx = some (.tup ys) ∧ L2.IsL H' (sc.map eD) ys ∧ H' l = some (.lst ((b ++ zq [("SCRIPT" : Str)] :: ((sc.take j).map dW).map zq).map V.str)) ∧ ∃ x3, σ = [some (.ref a), some (.ref l), some (.ref asx), x3, none, none]) ⟨s4, O4, has4, hys4, g4, x3, rfl⟩ (fun i σ H' _ ⟨_, _, o, _⟩ => SqT.of o) ?_ ?_
   · rintro j y σ H5 hy ⟨s5, O5, has5, hys5, g5, x3, rfl⟩;obtain ⟨t, ht, it⟩ := hys5.get' hy;rw [ay] at ht;cases ed : sc[j]? with
     | none => rw [ed] at ht; cases ht
     | some d =>
     rw [ed] at ht;cases ht;have hjl : j ≤ 10 := by
      have := (c9.mp ed).1;omega
     refine ⟨_, rfl, .inl ⟨rfl, _, SqL.of g5⟩, _, rfl, d, y, rfl, hsc.2 d (bz ed), it, fun H6 s6 => ⟨l, _, _, rfl, rfl, s6 _ _ g5, ?_, ?_⟩⟩
     · simp only [ae, ar, bi, cg];exact y7 (by omega)
     obtain ⟨s7, O7, g7, tp7⟩ := push (zq (dW d)) (s5.trans s6) (O5.tups fun b ys e => s6 _ _ e) (s6 _ _ g5);refine ⟨s7, O7, tp7 _ _ (s6 _ _ has5), (hys5.mono s6).tups tp7 (Yf sc), ?_, _, rfl⟩;rw [g7, cm, ed];simp only [az, bh, List.append_assoc, List.cons_append];rfl
   rintro σ H5 ⟨s5, O5, has5, hys5, g5, x3, rfl⟩;rw [hyl, ci] at g5;exact ⟨s5, O5, g5, _, _, rfl⟩
 rintro σ H3 ⟨s3, O3, g3, x2, x3, rfl⟩;rw [hsl, ci] at g3;have hfl := O3.fl.length;rw [ae] at hfl;have hfn := hh.fn;have hr110 := hrl.1;refine ⟨_, rfl, a, _, _, _, rfl, rfl, SqT.of O3.at', at2, bf, rfl, ⟨_, SqT.of O3.f⟩, ?_⟩;refine Z6 (xs := xf) (fun j σ H' => Same H H' ∧ HouO H' h a bf bs xf xs ∧ H' l = some (.lst ((zq (jp h) :: (wm h.ss).map zq ++ ((h.fs.take j).map (cW "FIRST")).map zq).map V.str)) ∧ ∃ x4 x5, σ = [some (.ref a), some (.ref l), x2, x3, x4, x5]) ⟨s3, O3, by rw [g3]; simp, none, none, rfl⟩ (fun i σ H' _ ⟨_, o, _⟩ => SqT.of o.f) ?_ ?_
 · rintro j y σ H5 hy ⟨s5, O5, g5, x4, x5, rfl⟩;obtain ⟨t, ht, it⟩ := O5.fl.get' hy;rw [ay] at ht;cases ec : h.fs[j]? with
   | none => rw [ec] at ht; cases ht
   | some c =>
   rw [ec] at ht;cases ht;have hjl : j ≤ 10 := by
    have := (c9.mp ec).1;omega
   obtain ⟨bc, bm, ms, rfl, hbc, hbm, hms⟩ := zdw it;have hc := hh.f c (bz ec);have hn : (nS (c.1 : Int)).length ≤ 30 := (va (jy hc).1 (jy hc).2).2;have hm : (mtx c.2).length ≤ 410 := zf3 hc.2.1 hc.2.2;have lb : ("FIRST " : Str).length = 6 := rfl;refine ⟨bc, _, rfl, SqT.of hbc, rfl, _, _, rfl, _, _, rfl, rfl, ?_⟩;refine ⟨_, rfl, .inl ⟨rfl, _, SqL.of g5⟩, _, rfl, .inl ⟨_, rfl, Zc (jy hc), _, _, rfl, rfl, zw (by omega), ?_⟩⟩;refine ⟨_, rfl, c.2, _, rfl, hc.2.1, hc.2.2, ⟨bm, ms, rfl, hbm, hms⟩, fun H6 s6 => ⟨_, _, rfl, rfl, ?_, l, _, _, rfl, rfl, s6 _ _ g5, ?_, ?_⟩⟩
   · rw [xq]; exact zw (by omega)
   · simp only [ae, ar, bi, cg];exact y7 (by omega)
   rw [ze8];obtain ⟨s7, O7, g7, tp7⟩ := push (zq (cW "FIRST" c)) (s5.trans s6) (O5.tups fun b ys e => s6 _ _ e) (s6 _ _ g5);refine ⟨s7, O7, ?_, _, _, rfl⟩;rw [g7, cm, ec];simp only [az, bh, List.append_assoc, List.cons_append];rfl
 rintro σ H5 ⟨s5, O5, g5, x4, x5, rfl⟩;rw [hfl, ci] at g5;refine ⟨rfl, _, rfl, nl, l, (zy h).map zq, rfl, rfl, ?_, zn9 hh, kk _ s5⟩;rw [g5, zy];simp only [az, bh, List.append_assoc, List.cons_append]
noncomputable def Low (m : Mem) : Prop := m.1 = 0 ∨ m.1 = 1 ∨ m.1 = 2 ∨ m.1 = 3
noncomputable def zbt : Deed → Prop
 | .beg _ ms => ∀ m ∈ ms, Low m
 | _ => True
structure LowH (h : House) : Prop where
 f : ∀ c ∈ h.fs, ∀ m ∈ c.2, Low m
 s : ∀ s ∈ h.ss, ∀ d ∈ s, zbt d
noncomputable def zqa (x : Str) : Prop := x = "a" ∨ x = "come" ∨ x = "go" ∨ x = "zzzzzzzz"
noncomputable def X2 (m : Str) : Prop := m = "both" ∨ m = "come" ∨ m = "go"
structure MemsOk (w : Int) (ms : List Mem) : Prop where
 each : ∀ m ∈ ms, 0 ≤ m.1 ∧ m.1 < w ∧ X2 m.2
 rise : (ms.map (·.1)).Pairwise (· < ·)
noncomputable def DrD (b : Int) (had : List Mem) (cs : List zm) : Deed → Prop
 | .rai x k => 0 ≤ x ∧ x < b ∧ 1 ≤ k ∧ k ≤ 99
 | .awa x m => 0 ≤ x ∧ x < b ∧ 1 ≤ m ∧ m ≤ 9999
 | .com x => ∃ m, (x, m) ∈ had ∧ m ≠ "go"
 | .goo x => ∃ m, (x, m) ∈ had ∧ m ≠ "come"
 | .lea x => ∃ m, (x, m) ∈ had
 | .beg j ms => (j, ms) ∈ cs
 | .wor d => 0 ≤ d ∧ d ≤ 999
 | .say x => zqa x
theorem Yv {had : List Mem} (hn : (had.map (·.1)).Nodup) {m : Mem} (h : m ∈ had) : kx had m.1 = some m.2 := by
 induction had with
 | nil => cases h
 | cons x r ih =>
   rw [bh, cr] at hn;rcases ag.mp h with rfl | h
   · simp [kx, List.find?_cons]
   · have ne : x.1 ≠ m.1 := fun z => hn.1 (by rw [z]; exact List.mem_map_of_mem h);have := ih hn.2 h;simp only [kx, List.find?_cons] at this ⊢;rw [bn ne];exact this
noncomputable def Yu (had : List Mem) (m : Mem) : Bool := match kx had m.1 with
 | some x => inV (.str x) [.str m.2, .str "both"]
 | none => false
noncomputable def Wp (had ms : List Mem) : Bool := ms.all (Yu had)
noncomputable def vx (had : List Mem) : Deed → List Mem
 | .lea w => za7 had w
 | _ => had
noncomputable def goA : List Deed → List Mem → Bool
 | [], _ => true
 | d :: r, had => jo d had && goA r (vx had d)
noncomputable def jz : List Deed → List zm
 | [] => []
 | .beg j ms :: r => (j, ms) :: jz r
 | _ :: r => jz r
theorem zdi (d : Deed) : ∀ (ds : List Deed) (had : List Mem), goA (ds ++ [d]) had = (goA ds had && jo d (ds.foldl vx had))
 | [], had => by simp [goA]
 | e :: r, had => by simp only [List.cons_append, goA, List.foldl_cons]; rw [zdi d r, Bool.and_assoc]
theorem Vt (d : Deed) : ∀ ds : List Deed, jz (ds ++ [d]) = jz ds ++ jz [d]
 | [] => rfl
 | e :: r => by
   have ih := Vt d r;cases e with
   | beg j ms => simp only [List.cons_append, jz] at ih ⊢; rw [ih]
   | _ => simpa only [List.cons_append, jz] using ih
theorem W2 : ∀ (ds : List Deed) (c : zm), c ∈ jz ds → Deed.beg c.1 c.2 ∈ ds
 | [], _, h => by cases h
 | d :: r, c, h => by
   cases d with
   | beg j ms =>
     rcases ag.mp h with rfl | h
     · exact ao
     · exact aq _ (W2 r c h)
   | _ => exact aq _ (W2 r c h)
theorem zgd : ∀ (ds : List Deed) (had : List Mem), ∀ m ∈ ds.foldl vx had, m ∈ had
 | [], _, _, h => h
 | d :: r, had, m, h => by
   have := zgd r (vx had d) m h;cases d with
   | lea w => exact (dr.mp this).1
   | _ => exact this
theorem Y5 : ∀ (ds : List Deed) (had : List Mem), (had.map (·.1)).Nodup → ((ds.foldl vx had).map (·.1)).Nodup
 | [], _, h => h
 | d :: r, had, h => by
   refine Y5 r (vx had d) ?_;cases d with
   | lea w => exact List.Nodup.sublist (List.Sublist.map _ List.filter_sublist) h
   | _ => exact h
theorem zge : ∀ (ds : List Deed) (had : List Mem), (ds.foldl vx had).length ≤ had.length
 | [], _ => ai _
 | d :: r, had => by
   refine bp (zge r (vx had d)) ?_;cases d with
   | lea w => exact List.length_filter_le _ _
   | _ => exact ai _
theorem zev {had : List Mem} {w : Int} {m md : Str} (h : kx had w = some m) (hm : m = "both" ∨ m = md) : okM had w md = true := by
 unfold okM;rw [h];show inV (.str m) [.str "both", .str md] = true;rcases hm with rfl | rfl <;> simp [inV, eqV]
theorem Kc {had : List Mem} {cs : List zm} {d : Deed} (hn : (had.map (·.1)).Nodup) (hm : ∀ m ∈ had, X2 m.2) (hc : ∀ c ∈ cs, Wp had c.2 = true) (h : DrD b had cs d) : jo d had = true := by
 cases d with
 | com x =>
   obtain ⟨m, h1, h2⟩ := h;refine zev (Yv hn h1) ?_;rcases hm _ h1 with e | e | e
   · exact .inl e
   · exact .inr e
   · exact absurd e h2
 | goo x =>
   obtain ⟨m, h1, h2⟩ := h;refine zev (Yv hn h1) ?_;rcases hm _ h1 with e | e | e
   · exact .inl e
   · exact absurd e h2
   · exact .inr e
 | lea x =>
   obtain ⟨m, h1⟩ := h;show (kx had x).isSome = true;rw [Yv hn h1];rfl
 | beg j ms =>
   have q := hc _ h;show (ms.all fun m => okM had m.1 m.2) = true;unfold Wp at q;rw [cq] at q ⊢;intro m hmm;have z := q m hmm;unfold Yu at z;cases e : kx had m.1 with
   | none => rw [e] at z; cases z
   | some x =>
     rw [e] at z;refine zev e ?_;have z : inV (.str x) [.str m.2, .str "both"] = true := z;simp [inV, eqV] at z;rcases z with z | z
     · exact .inr z.symm
     · exact .inl z.symm
 | _ => rfl
theorem DrD.mono {had had' : List Mem} {cs cs' : List zm} {d : Deed} (h1 : ∀ m ∈ had, m ∈ had') (h2 : ∀ c ∈ cs, c ∈ cs') (h : DrD b had cs d) : DrD b had' cs' d := by
 cases d with
 | com x => obtain ⟨m, a, c⟩ := h; exact ⟨m, h1 _ a, c⟩
 | goo x => obtain ⟨m, a, c⟩ := h; exact ⟨m, h1 _ a, c⟩
 | lea x => obtain ⟨m, a⟩ := h; exact ⟨m, h1 _ a⟩
 | beg j ms => exact h2 _ h
 | _ => exact h
theorem zky {w : Int} : ∀ (ms : List Mem) (last : Int), (∀ m ∈ ms, 0 ≤ m.1 ∧ m.1 < w ∧ X2 m.2) → (ms.map (·.1)).Pairwise (· < ·) → (∀ m ∈ ms, last < m.1) → goM w last (ms.map Y8) = true
 | [], _, _, _, _ => rfl
 | m :: r, last, h1, h2, h3 => by
   obtain ⟨a1, a2, a3⟩ := h1 m ao;rw [bh, List.pairwise_cons] at h2;have hm : qb (Y8 m) w = true := by
    show (zo (.int m.1) 0 (w - 1) && zc3 (.str m.2)) = true;have e1 : zo (.int m.1) 0 (w - 1) = true := by
     show (decide ((0 : Int) ≤ m.1) && decide (m.1 ≤ w - 1)) = true;rw [au a1, au (by omega)];rfl
    have e2 : zc3 (.str m.2) = true := by
     rcases a3 with e | e | e <;> rw [e] <;> rfl
    rw [e1, e2];rfl
   rw [bh];show goM w last (.tup [.int m.1, .str m.2] :: r.map Y8) = true;rw [zdh hm, au (h3 m ao), bj];exact zky r m.1 (fun x hx => h1 x (aq _ hx)) h2.2 fun x hx => h2.1 _ (List.mem_map_of_mem hx)
theorem zex {w : Int} {ms : List Mem} (h : MemsOk w ms) : kj (eMs ms) w = true := zky ms (-1) h.each h.rise fun m hm => by have := (h.each m hm).1; omega
theorem Z3 {w : Int} {ms : List Mem} (h : MemsOk w ms) (hl : ms.length ≤ 6) : znr ms := ⟨h.rise.imp fun hab => Int.ne_of_lt hab, by omega⟩
theorem wf {x hi : Int} (h1 : lo ≤ x) (h2 : x ≤ hi) : zo (.int x) lo hi = true := by
 show (decide (lo ≤ x) && decide (x ≤ hi)) = true;rw [au h1, au h2];rfl
theorem Jv {w : Int} {j : Nat} {ms : List Mem} {least : Int} (h1 : least ≤ (j : Int)) (h2 : j < n) (h : MemsOk w ms) : xj (.tup [.int (j : Int), eMs ms]) least n w = true := by
 show (zo (.int (j : Int)) least ((n : Int) - 1) && kj (eMs ms) w) = true;rw [wf h1 (by omega), zex h];rfl
theorem zkx {b w : Int} {n : Nat} : ∀ (ss : List T) (i : Nat), (∀ (j : Nat) t, ss[j]? = some t → ji t ((i + j : Nat) : Int) b w n = true) → goS b w n (i : Int) ss = true
 | [], _, _ => rfl
 | s :: r, i, h => by
   show (ji s (i : Int) b w n && goS b w n ((i : Int) + 1) r) = true;have e : ((i : Int) + 1) = ((i + 1 : Nat) : Int) := by omega
   have h0 : ji s (i : Int) b w n = true := h 0 s rfl;rw [h0, e, zkx r (i + 1) fun j t hj => by rw [show i + 1 + j = i + (j + 1) by omega]; exact h (j + 1) t hj];rfl
noncomputable def zak (b : Int) (ms : List Mem) (i : Nat) (kn : List (List Mem)) (d : Deed) : Prop := ∃ cs, DrD b ms cs d ∧ ∀ c ∈ cs, i < c.1 ∧ kn[c.1]? = some c.2
structure FitK (h : House) (kn : List (List Mem)) : Prop where
 len : kn.length = h.ss.length
 ms : ∀ ms ∈ kn, MemsOk h.w ms ∧ ms.length ≤ 6
 sc : ∀ (i : Nat) s ms, h.ss[i]? = some s → kn[i]? = some ms → s.length ≤ 6 ∧ goA s ms = true ∧ (jz s).length ≤ 2 ∧ ∀ d ∈ s, zak h.b ms i kn d
 fs : ∀ c ∈ h.fs, kn[c.1]? = some c.2
structure Fit (h : House) : Prop where
 b0 : 0 ≤ h.b
 b3 : h.b ≤ 99
 w0 : 0 ≤ h.w
 w3 : h.w ≤ 3
 n1 : 1 ≤ h.ss.length
 n3 : h.ss.length ≤ 3
 f1 : 1 ≤ h.fs.length
 f4 : h.fs.length ≤ 4
 kn : ∃ kn, FitK h kn
section
variable {h : House} {kn : List (List Mem)}
theorem FitK.at (F : FitK h kn) {s : yb} (e : h.ss[i]? = some s) : ∃ ms, kn[i]? = some ms ∧ MemsOk h.w ms ∧ ms.length ≤ 6 ∧ s.length ≤ 6 ∧ goA s ms = true ∧ (jz s).length ≤ 2 ∧ ∀ d ∈ s, zak h.b ms i kn d := by
 have hi := (c9.mp e).1;have hik : i < kn.length := by rw [F.len]; exact hi
 have hk : kn[i]? = some kn[i] := be hik;obtain ⟨a, b⟩ := F.ms _ (bz hk);obtain ⟨c, d, e', f⟩ := F.sc i s _ e hk;exact ⟨_, hk, a, b, c, d, e', f⟩
theorem FitK.lt (F : FitK h kn) {j : Nat} {ms : List Mem} (e : kn[j]? = some ms) : j < h.ss.length ∧ MemsOk h.w ms ∧ ms.length ≤ 6 := by
 have hj := (c9.mp e).1;exact ⟨by rw [← F.len]; exact hj, F.ms _ (bz e)⟩
theorem FitK.beg (F : FitK h kn) {i : Nat} {s : yb} (e : h.ss[i]? = some s) {j : Nat} {ms : List Mem} (hb : Deed.beg j ms ∈ s) : i < j ∧ kn[j]? = some ms := by
 obtain ⟨_, _, _, _, _, _, _, q⟩ := F.at e;obtain ⟨cs, h1, h2⟩ := q _ hb;exact h2 _ h1
theorem K0 (F : FitK h kn) : zah h.ss := fun i s hs j ms hm => by
 obtain ⟨h1, h2⟩ := F.beg hs hm;exact ⟨h1, (F.lt h2).1⟩
theorem zh0 (F : FitK h kn) : zl0 h.ss := fun s hs j ms hm => by
 obtain ⟨i, hi, rfl⟩ := List.mem_iff_getElem.mp hs;obtain ⟨_, h2⟩ := F.beg (be hi) hm;obtain ⟨_, h3, h4⟩ := F.lt h2;exact Z3 h3 h4
theorem zla (F : FitK h kn) {ms : List Mem} (hm : MemsOk h.w ms) {d : Deed} (hd : zak h.b ms i kn d) : vy (eD d) (i : Int) h.b h.w h.ss.length = true := by
 obtain ⟨cs, hD, hc⟩ := hd;cases d with
 | rai x k =>
   obtain ⟨h1, h2, h3, h4⟩ := hD;show (zo (.int x) 0 (h.b - 1) && zo (.int k) 1 99) = true;rw [wf h1 (by omega), wf h3 h4];rfl
 | awa x m =>
   obtain ⟨h1, h2, h3, h4⟩ := hD;show (zo (.int x) 0 (h.b - 1) && zo (.int m) 1 9999) = true;rw [wf h1 (by omega), wf h3 h4];rfl
 | com x => obtain ⟨m, h1, _⟩ := hD; obtain ⟨a, b, _⟩ := hm.each _ h1; exact wf (hi := h.w - 1) a (by have : x < h.w := b; omega)
 | goo x => obtain ⟨m, h1, _⟩ := hD; obtain ⟨a, b, _⟩ := hm.each _ h1; exact wf (hi := h.w - 1) a (by have : x < h.w := b; omega)
 | lea x => obtain ⟨m, h1⟩ := hD; obtain ⟨a, b, _⟩ := hm.each _ h1; exact wf (hi := h.w - 1) a (by have : x < h.w := b; omega)
 | beg j ms' =>
   obtain ⟨h1, h2⟩ := hc _ hD;obtain ⟨h3, h4, _⟩ := F.lt h2;exact Jv (least := (i : Int) + 1) (by have : i < j := h1; omega) h3 h4
 | wor x => obtain ⟨h1, h2⟩ := hD; exact wf h1 h2
 | say x => rcases hD with rfl | rfl | rfl | rfl <;> rfl
theorem zpl (F : Fit h) : mWf (eH h) = true := by
 obtain ⟨b0, b3, w0, w3, n1, n3, f1, f4, kn, FK⟩ := F;have fr : jc (eH h) = true := by
  show (zo (.int h.b) 0 99 && (zo (.int h.w) 0 6 && (xl (.tup (h.fs.map eC)) 1 40 && xl (.tup (h.ss.map eS)) 1 20))) = true;have e3 : xl (.tup (h.fs.map eC)) 1 40 = true := by
   show (decide ((1 : Int) ≤ ((h.fs.map eC).length : Int)) && decide (((h.fs.map eC).length : Int) ≤ 40)) = true;rw [ae, au (by omega), au (by omega)]; rfl
  have e4 : xl (.tup (h.ss.map eS)) 1 20 = true := by
   show (decide ((1 : Int) ≤ ((h.ss.map eS).length : Int)) && decide (((h.ss.map eS).length : Int) ≤ 20)) = true;rw [ae, au (by omega), au (by omega)]; rfl
  rw [wf (by omega) (by omega), wf (by omega) (by omega), e3, e4];rfl
 show (jc (eH h) && (goS h.b h.w (h.ss.map eS).length 0 (h.ss.map eS) && (h.fs.map eC).all fun c => xj c 0 (h.ss.map eS).length h.w)) = true;rw [fr, ae, bj];have e1 : goS h.b h.w h.ss.length 0 (h.ss.map eS) = true := by
  refine zkx (h.ss.map eS) 0 fun j t ht => ?_;rw [ay] at ht;cases e : h.ss[j]? with
  | none => rw [e] at ht; cases ht
  | some s =>
    rw [e] at ht;have ht : eS s = t := Option.some.inj ht;subst ht;obtain ⟨ms, hk, hm, _, s6, _, _, sd⟩ := FK.at e;show (xl (.tup (s.map eD)) 0 80 && ((s.map eD).all fun d => vy d ((0 + j : Nat) : Int) h.b h.w h.ss.length)) = true;have e3 : xl (.tup (s.map eD)) 0 80 = true := by
     show (decide ((0 : Int) ≤ ((s.map eD).length : Int)) && decide (((s.map eD).length : Int) ≤ 80)) = true;rw [ae, au (by omega), au (by omega)]; rfl
    rw [e3, bj, List.all_map, cq];intro d hd;show vy (eD d) ((0 + j : Nat) : Int) h.b h.w h.ss.length = true;rw [Nat.zero_add];exact zla FK hm (sd d hd)
 rw [e1, bj, List.all_map, cq];intro c hc;obtain ⟨c1, c2, c3⟩ := FK.lt (FK.fs c hc);exact Jv (n := h.ss.length) (least := 0) (j := c.1) (by omega) c1 c2
noncomputable def tot (ss : List yb) (st : List zm) : Nat := (st.map fun c => (cnt ss c.1).1).sum
theorem Jl (ss : List yb) (N : Nat) : ∀ (ds : List Deed) (a : Nat × Nat), (∀ c ∈ jz ds, (cnt ss c.1).1 ≤ N ∧ (cnt ss c.1).2 ≤ 6 * (cnt ss c.1).1) →
  (ds.foldl (stp (cnt ss)) a).1 ≤ a.1 + N * (jz ds).length ∧ (ds.foldl (stp (cnt ss)) a).2 + 6 * a.1 ≤ a.2 + 6 * (ds.foldl (stp (cnt ss)) a).1 ∧ a.1 ≤ (ds.foldl (stp (cnt ss)) a).1
 | [], a, _ => by simp [jz]
 | d :: r, a, h => by
   rw [List.foldl_cons];cases d with
   | beg j ms =>
     have hj := h (j, ms) ao;obtain ⟨q1, q2, q3⟩ := Jl ss N r (stp (cnt ss) a (.beg j ms)) (fun c hc => h c (aq _ hc));have e1 : (stp (cnt ss) a (.beg j ms)).1 = a.1 + (cnt ss j).1 := rfl;have e2 : (stp (cnt ss) a (.beg j ms)).2 = a.2 + (cnt ss j).2 := rfl;have e3 : (jz (Deed.beg j ms :: r)).length = (jz r).length + 1 := rfl;have hj1 : (cnt ss j).1 ≤ N := hj.1;have hj2 : (cnt ss j).2 ≤ 6 * (cnt ss j).1 := hj.2;rw [e1] at q1 q2 q3;rw [e2] at q2;rw [e3, Nat.mul_add];refine ⟨by omega, by omega, by omega⟩
   | _ => exact Jl ss N r a h
theorem znd (F : FitK h kn) : ∀ (m i : Nat), h.ss.length - i = m → i < h.ss.length → (cnt h.ss i).2 ≤ 6 * (cnt h.ss i).1 ∧ (cnt h.ss i).1 + 1 ≤ 2 ^ m := by
 intro m;induction m using Nat.strongRecOn with
 | ind m ih =>
   intro i hm hi;have hs : h.ss[i]? = some h.ss[i] := be hi;obtain ⟨ms, hk, _, _, s6, _, s2, sd⟩ := F.at hs;rw [zlg (K0 F) hs];obtain ⟨k, rfl⟩ : ∃ k, m = k + 1 := ⟨m - 1, by omega⟩
   have hpow : 2 ^ (k + 1) = 2 * 2 ^ k := by rw [Nat.pow_succ, Nat.mul_comm]
   have hp : 1 ≤ 2 ^ k := Nat.pos_of_ne_zero (fun z => by have := Nat.pow_eq_zero.mp z; omega);obtain ⟨q1, q2, q3⟩ := Jl h.ss (2 ^ k - 1) h.ss[i] (1, h.ss[i].length) fun c hc => by
    obtain ⟨h1, h2⟩ := F.beg hs (W2 _ c hc);obtain ⟨h3, _⟩ := F.lt h2;obtain ⟨g1, g2⟩ := ih (h.ss.length - c.1) (by omega) c.1 rfl h3;have := Nat.pow_le_pow_right (show 0 < 2 by decide) (show h.ss.length - c.1 ≤ k by omega);exact ⟨by omega, g1⟩
   have q1 : _ ≤ 1 + (2 ^ k - 1) * (jz h.ss[i]).length := q1;have hmul : (2 ^ k - 1) * (jz h.ss[i]).length ≤ (2 ^ k - 1) * 2 := Nat.mul_le_mul_left _ s2;have q2 : _ + 6 * 1 ≤ h.ss[i].length + 6 * _ := q2;refine ⟨by omega, ?_⟩;rw [hpow];omega
theorem zeb {f : zm → Int} {N : Int} : ∀ (fs : List zm), (∀ c ∈ fs, 0 ≤ f c ∧ f c ≤ N) → (fs.map f).sum ≤ N * fs.length ∧ 0 ≤ (fs.map f).sum
 | [], _ => by simp
 | c :: r, h => by
   obtain ⟨q1, q2⟩ := zeb r fun c' hc' => h c' (aq _ hc');obtain ⟨g1, g2⟩ := h c ao;rw [bh, List.sum_cons, bi];have : N * ((r.length + 1 : Nat) : Int) = N * r.length + N := by rw [Int.natCast_add, Int.mul_add]; simp
   omega
theorem zdm (F : Fit h) : ze6 h ≤ 28 ∧ zh3 h ≤ 168 := by
 obtain ⟨b0, b3, w0, w3, n1, n3, f1, f4, kn, FK⟩ := F;have each : ∀ c ∈ h.fs, (cnt h.ss c.1).1 ≤ 7 ∧ (cnt h.ss c.1).2 ≤ 42 := fun c hc => by
  obtain ⟨c1, _⟩ := FK.lt (FK.fs c hc);obtain ⟨g1, g2⟩ := znd FK (h.ss.length - c.1) c.1 rfl c1;have := Nat.pow_le_pow_right (show 0 < 2 by decide) (show h.ss.length - c.1 ≤ 3 by omega);omega
 have e1 := (zeb (f := fun c => ((cnt h.ss c.1).1 : Int)) (N := 7) h.fs fun c hc => by have := each c hc; omega).1;have e2 := (zeb (f := fun c => ((cnt h.ss c.1).2 : Int)) (N := 42) h.fs fun c hc => by have := each c hc; omega).1;unfold ze6 zh3;omega
theorem zk2 (F : Fit h) : Good h := by
 obtain ⟨e1, e2⟩ := zdm F;obtain ⟨b0, b3, w0, w3, n1, n3, f1, f4, kn, FK⟩ := F;refine ⟨⟨K0 FK, by omega, by omega, fun c hc => (FK.lt (FK.fs c hc)).1, by omega, by omega⟩, zh0 FK, fun c hc => ?_⟩;obtain ⟨_, c2, c3⟩ := FK.lt (FK.fs c hc);exact Z3 c2 c3
theorem zbj (rc : Nat → List Mem → Bool) : ∀ (ds : List Deed) (had : List Mem), goA ds had = true → (∀ c ∈ jz ds, rc c.1 c.2 = true) → goF rc ds had = true
 | [], _, _, _ => rfl
 | d :: r, had, h, hc => by
   unfold goA at h;rw [bu] at h;unfold goF;rw [h.1, bj];cases d with
   | lea w => exact zbj rc r _ h.2 hc
   | beg j ms =>
     have e : rc j ms = true := hc (j, ms) ao;dsimp only;rw [e, bj];exact zbj rc r had h.2 fun c hm => hc c (aq _ hm)
   | _ => exact zbj rc r had h.2 hc
theorem zdn (F : FitK h kn) : ∀ (f i : Nat) (ms : List Mem), kn[i]? = some ms → xv h.ss f i ms = true
 | 0, _, _, _ => rfl
 | f + 1, i, ms, hk => by
   obtain ⟨hi, _⟩ := F.lt hk;have hs : h.ss[i]? = some h.ss[i] := be hi;obtain ⟨_, hg, _, _⟩ := F.sc i _ ms hs hk;show goF (xv h.ss f) (h.ss.getD i []) ms = true;have hgd : h.ss.getD i [] = h.ss[i] := by rw [cu, hs]; rfl
   rw [hgd];exact zbj _ _ _ hg fun c hc => zdn F f c.1 c.2 (F.beg hs (W2 _ c hc)).2
theorem zhz (F : Fit h) : mHs h = true := by
 obtain ⟨e1, e2⟩ := zdm F;have hw := zpl F;obtain ⟨kn, FK⟩ := F.kn;have hs : Vl h = true := by
  unfold Vl;rw [au (by omega), au (by omega)];rfl
 have hf : (h.fs.all fun c => xv h.ss 20 c.1 c.2) = true := by
  rw [cq];intro c hc;exact zdn FK 20 c.1 c.2 (FK.fs c hc)
 unfold mHs;rw [hw, hs, hf];rfl
end
theorem zcy {w : Int} (hw : w ≤ 3) {ms : List Mem} (h : MemsOk w ms) : ∀ m ∈ ms, Qc m ∧ Low m := fun m hm => by
 obtain ⟨h0, h1, h2⟩ := h.each m hm;exact ⟨⟨⟨h0, by omega⟩, h2⟩, by unfold Low; omega⟩
section
variable {h : House} {kn : List (List Mem)}
theorem FitK.cal (F : FitK h kn) (hw : h.w ≤ 3) (hn : h.ss.length ≤ 3) {c : zm} (e : kn[c.1]? = some c.2) : Qd c ∧ ∀ m ∈ c.2, Low m := by
 obtain ⟨h1, h2, h3⟩ := F.lt e;exact ⟨⟨by omega, by omega, fun m hm => (zcy hw h2 m hm).1⟩, fun m hm => (zcy hw h2 m hm).2⟩
theorem FitK.ded (F : FitK h kn) (hb : h.b ≤ 99) (hw : h.w ≤ 3) (hn : h.ss.length ≤ 3) {ms : List Mem} (hm : MemsOk h.w ms) {d : Deed} (hd : zak h.b ms i kn d) : Yx d ∧ zbt d := by
 obtain ⟨cs, hD, hc⟩ := hd;cases d with
 | rai x k => obtain ⟨h1, h2, h3, h4⟩ := hD; exact ⟨⟨⟨h1, by omega⟩, ⟨by omega, by omega⟩⟩, trivial⟩
 | awa x m => obtain ⟨h1, h2, h3, h4⟩ := hD; exact ⟨⟨⟨h1, by omega⟩, ⟨by omega, by omega⟩⟩, trivial⟩
 | com x => obtain ⟨m, h1, _⟩ := hD; exact ⟨(zcy hw hm _ h1).1.1, trivial⟩
 | goo x => obtain ⟨m, h1, _⟩ := hD; exact ⟨(zcy hw hm _ h1).1.1, trivial⟩
 | lea x => obtain ⟨m, h1⟩ := hD; exact ⟨(zcy hw hm _ h1).1.1, trivial⟩
 | beg j ms' => exact F.cal hw hn (c := (j, ms')) (hc _ hD).2
 | wor x => obtain ⟨h1, h2⟩ := hD; exact ⟨⟨h1, by omega⟩, trivial⟩
 | say x => exact ⟨(show zqa x from hD).imp_right fun z => z.imp_right fun z => z.imp_right .inl, trivial⟩
end
theorem zn0 {h : House} (F : Fit h) : HouT h ∧ LowH h := by
 obtain ⟨kn, FK⟩ := F.kn;have each : ∀ s ∈ h.ss, s.length ≤ 10 ∧ ∀ d ∈ s, Yx d ∧ zbt d := fun s hs => by
  obtain ⟨i, hi⟩ := List.mem_iff_getElem?.mp hs;obtain ⟨ms, _, hm, _, hl, _, _, hd⟩ := FK.at hi;exact ⟨by omega, fun d hdd => FK.ded F.b3 F.w3 F.n3 hm (hd d hdd)⟩
 have h1 := F.b0; have h2 := F.b3; have h3 := F.w0; have h4 := F.w3; have h5 := F.n1; have h6 := F.n3; have h7 := F.f1; have h8 := F.f4;exact ⟨⟨⟨h1, by omega⟩, ⟨h3, by omega⟩, by omega, fun c hc => (FK.cal F.w3 F.n3 (FK.fs c hc)).1, by omega, fun s hs => ⟨(each s hs).1, fun d hd => ((each s hs).2 d hd).1⟩⟩, ⟨fun c hc => (FK.cal F.w3 F.n3 (FK.fs c hc)).2, fun s hs d hd => ((each s hs).2 d hd).2⟩⟩
noncomputable def V8 (c : Nat) : Bool := !decide ((⟨#[c]⟩ : Str).cps.toList < ("0" : Str).cps.toList) && !decide (("9" : Str).cps.toList < (⟨#[c]⟩ : Str).cps.toList)
theorem zne : ∀ c, c < 58 → 48 ≤ c → V8 c = true := by decide +kernel
noncomputable def wx (x : Str) : Bool := decide ((1 : Int) ≤ (x.length : Int)) && decide ((x.length : Int) ≤ 30) && !(PySem.Txt.startswith x "0" && decide (x ≠ "0")) && x.cps.toList.all V8
noncomputable def Ko (x : Str) : Bool := decide (x = "both") || (decide (x = "come") || decide (x = "go"))
noncomputable def jl (x : Str) : Option Mem := if Ko (qe x ":").2.2 && wx (qe x ":").1 then some ((vv (qe x ":").1 : Int), (qe x ":").2.2) else none
noncomputable def vd : List Str → Option (List Mem)
 | [] => some []
 | x :: r => match jl x with
   | none => none
   | some m => match vd r with
     | none => none
     | some ms => some (m :: ms)
noncomputable def qk : List Str → Option zm
 | [] => none
 | x :: r => if wx x then (match vd r with
   | none => none
   | some ms => some (vv x, ms)) else none
noncomputable def yx (f x : Str) : V := if f = "number" then (if wx x then .int (vv x : Int) else .non) else (if jm (.str x) then .str x else .non)
noncomputable def isN : V → Bool
 | .non => true
 | _ => false
noncomputable def vc (fs xs : List Str) : Option (List V) := if fs.length = xs.length then (if (List.zipWith yx fs xs).any isN then none else some (List.zipWith yx fs xs)) else none
noncomputable def qp (w : Str) : Option (List Str) :=
 if w = "raise" then some ["number", "number"] else if w = "await" then some ["number", "number"] else if w = "come" then some ["number"] else if w = "go" then some ["number"] else if w = "leave" then some ["number"]
 else if w = "work" then some ["number"] else if w = "say" then some ["letters"] else none
noncomputable def qw (w : Str) : List V → Option Deed
 | [.int a, .int b] => if w = "raise" then some (.rai a b) else some (.awa a b)
 | [.int a] => if w = "come" then some (.com a) else if w = "go" then some (.goo a) else if w = "leave" then some (.lea a) else some (.wor a)
 | [.str x] => some (.say x)
 | _ => none
noncomputable def qy : List Str → Option Deed
 | [] => none
 | w :: r => if w = "begin" then (match qk r with
   | none => none
   | some c => some (.beg c.1 c.2)) else match qp w with
   | none => none
   | some fs => match vc fs r with
     | none => none
     | some vs => qw w vs
noncomputable def W3 (ss : List yb) (d : Deed) : List yb := ss.dropLast ++ [ss.getLastD [] ++ [d]]
theorem zd0 (a : List yb) (s : yb) (d : Deed) : W3 (a ++ [s]) d = a ++ [s ++ [d]] := by
 unfold W3;simp
noncomputable def wz (ss : List yb) (cs : List zm) (ws : List Str) : Option (List yb × List zm) :=
 if ws.head? = some "FIRST" then (match qk ws.tail with
  | none => none
  | some c => some (ss, cs ++ [c]))
 else if cs.isEmpty = false then none
 else if ws = [("SCRIPT" : Str)] then some (ss ++ [[]], cs)
 else if ss.isEmpty then none
 else match qy ws with
  | none => none
  | some d => some (W3 ss d, cs)
noncomputable def yk : List yb → List zm → List (List Str) → Option (List yb × List zm)
 | ss, cs, [] => some (ss, cs)
 | ss, cs, ws :: r => match wz ss cs ws with
   | none => none
   | some st => yk st.1 st.2 r
noncomputable def xw : List Str → Option (Nat × Nat)
 | [a, x, b, y] => if (decide (a = "BOXES") && decide (b = "WALLS")) && (wx x && wx y) then some (vv x, vv y) else none
 | _ => none
noncomputable def w4 : List (List Str) → Option House
 | [] => none
 | w0 :: r => match xw w0 with
   | none => none
   | some p => match yk [] [] r with
     | none => none
     | some st => some ⟨p.1, p.2, st.2, st.1⟩
theorem zb1 (h : PySem.Txt.startswith x "0" = true) : x.cps.toList.head? = some 48 := by
 unfold PySem.Txt.startswith at h;rw [bu] at h;have e : ("0" : Str) = ⟨#[48]⟩ := by decide
 rw [e] at h;have h1 := cb h.1;rw [List.head?_eq_getElem?];exact (StrLaws.subAt_one x 48 0).mp ⟨h1, h.2⟩
theorem Wj {n : Int} (h : Num n) : wx (nS n) = true := by
 have hl := va h.1 h.2;unfold wx;rw [au (by omega), au (by omega), bj, bj, bu];refine ⟨?_, cq.mpr fun c hc => zne c (by have := (za8 h.1 h.2 hc).2; omega) (za8 h.1 h.2 hc).1⟩;cases hs : PySem.Txt.startswith (nS n) "0" with
 | false => rfl
 | true =>
   rcases zj9 h.1 h.2 with c | c
   · exact absurd (zb1 hs) c
   · rw [c]; decide
theorem Qg {n : Int} (h : Num n) : (vv (nS n) : Int) = n := by
 obtain ⟨m, rfl⟩ := Int.eq_ofNat_of_zero_le h.1;rw [zn8]
theorem zo7 {m : Mem} (h : Qc m) (l : Low m) : jl (Z5 m) = some m := by
 obtain ⟨n, x⟩ := m;rcases l with e | e | e | e <;> cases (show n = _ from e) <;> rcases h.2 with e | e | e <;> cases (show x = _ from e) <;> decide +kernel
theorem zf4 : ∀ {ms : List Mem}, (∀ m ∈ ms, Qc m) → (∀ m ∈ ms, Low m) → vd (ms.map Z5) = some ms
 | [], _, _ => rfl
 | m :: r, h, l => by
   rw [bh];unfold vd;rw [zo7 (h m ao) (l m ao), zf4 (fun x hx => h x (aq _ hx)) (fun x hx => l x (aq _ hx))]
theorem zll {c : zm} (h : Qd c) (l : ∀ m ∈ c.2, Low m) : qk (nS c.1 :: c.2.map Z5) = some c := by
 show (if wx (nS c.1) = true then (match vd (c.2.map Z5) with | none => none | some ms => some (vv (nS c.1), ms)) else none) = some c;rw [Wj (jy h), zf4 h.2.2 l];have := Qg (jy h);show some (vv (nS (c.1 : Int)), c.2) = some c;have e : vv (nS (c.1 : Int)) = c.1 := by omega
 rw [e]
theorem ztn (h : x = "a" ∨ x = "come" ∨ x = "go" ∨ x = "zzzzzzzz" ∨ x = "abcdefghi") : jm (.str x) = true := by
 rcases h with rfl | rfl | rfl | rfl | rfl <;> decide +kernel
theorem zd5 {n : Int} (h : Num n) : yx "number" (nS n) = .int n := by
 unfold yx;rw [if_pos rfl, Wj h, Qg h];rfl
theorem ws1 {n : Int} (h : Num n) : vc ["number"] [nS n] = some [.int n] := by
 unfold vc;rw [if_pos (show [("number" : Str)].length = [nS n].length from rfl)];show (if ([yx "number" (nS n)].any isN) = true then none else some [yx "number" (nS n)]) = _;rw [zd5 h];rfl
theorem ws2 {n m : Int} (h : Num n) (h' : Num m) : vc ["number", "number"] [nS n, nS m] = some [.int n, .int m] := by
 unfold vc;rw [if_pos (show [("number" : Str), "number"].length = [nS n, nS m].length from rfl)];show (if ([yx "number" (nS n), yx "number" (nS m)].any isN) = true then none else some [yx "number" (nS n), yx "number" (nS m)]) = _;rw [zd5 h, zd5 h'];rfl
theorem wsl (h : jm (.str x) = true) : vc ["letters"] [x] = some [.str x] := by
 have e : yx "letters" x = .str x := by
  unfold yx;rw [if_neg (by decide), h];rfl
 unfold vc;rw [if_pos (show [("letters" : Str)].length = [x].length from rfl)];show (if ([yx "letters" x].any isN) = true then none else some [yx "letters" x]) = _;rw [e];rfl
theorem znf {d : Deed} (h : Yx d) (l : zbt d) : qy (dW d) = some d := by
 cases d with
 | rai b k => show (match vc ["number", "number"] [nS b, nS k] with | none => none | some vs => qw "raise" vs) = _; rw [ws2 h.1 h.2]; rfl
 | awa b k => show (match vc ["number", "number"] [nS b, nS k] with | none => none | some vs => qw "await" vs) = _; rw [ws2 h.1 h.2]; rfl
 | com b => show (match vc ["number"] [nS b] with | none => none | some vs => qw "come" vs) = _; rw [ws1 h]; rfl
 | goo b => show (match vc ["number"] [nS b] with | none => none | some vs => qw "go" vs) = _; rw [ws1 h]; rfl
 | lea b => show (match vc ["number"] [nS b] with | none => none | some vs => qw "leave" vs) = _; rw [ws1 h]; rfl
 | wor b => show (match vc ["number"] [nS b] with | none => none | some vs => qw "work" vs) = _; rw [ws1 h]; rfl
 | say x => show (match vc ["letters"] [x] with | none => none | some vs => qw "say" vs) = _; rw [wsl (ztn h)]; rfl
 | beg n ms => show (match qk (nS n :: ms.map Z5) with | none => none | some c => some (Deed.beg c.1 c.2)) = _; rw [zll (c := (n, ms)) h l]
theorem zb0 (ss : List yb) : wz ss [] [("SCRIPT" : Str)] = some (ss ++ [[]], []) := by
 unfold wz;rw [if_neg (by decide), if_neg (by simp), if_pos rfl]
theorem qx (ss : List yb) (cs : List zm) (w : List Str) (r : List (List Str)) : yk ss cs (w :: r) = match wz ss cs w with | none => none | some st => yk st.1 st.2 r := rfl
theorem zi2 {ss : List yb} {cs : List zm} {c : zm} (h : Qd c) (l : ∀ m ∈ c.2, Low m) : wz ss cs (cW "FIRST" c) = some (ss, cs ++ [c]) := by
 show (match qk (nS c.1 :: c.2.map Z5) with | none => none | some c => some (ss, cs ++ [c])) = _;rw [zll h l]
theorem zds {d : Deed} : ∃ r, dW d = dw d :: r ∧ dw d ≠ "FIRST" ∧ dw d ≠ "SCRIPT" := by
 cases d <;> first | exact ⟨_, rfl, (by decide : ("raise" : Str) ≠ "FIRST"), (by decide : ("raise" : Str) ≠ "SCRIPT")⟩ | exact ⟨_, rfl, (by decide : ("await" : Str) ≠ "FIRST"), (by decide : ("await" : Str) ≠ "SCRIPT")⟩ | exact ⟨_, rfl, (by decide : ("come" : Str) ≠ "FIRST"), (by decide : ("come" : Str) ≠ "SCRIPT")⟩ | exact ⟨_, rfl, (by decide : ("go" : Str) ≠ "FIRST"), (by decide : ("go" : Str) ≠ "SCRIPT")⟩ | exact ⟨_, rfl, (by decide : ("leave" : Str) ≠ "FIRST"), (by decide : ("leave" : Str) ≠ "SCRIPT")⟩ | exact ⟨_, rfl, (by decide : ("begin" : Str) ≠ "FIRST"), (by decide : ("begin" : Str) ≠ "SCRIPT")⟩ | exact ⟨_, rfl, (by decide : ("work" : Str) ≠ "FIRST"), (by decide : ("work" : Str) ≠ "SCRIPT")⟩ | exact ⟨_, rfl, (by decide : ("say" : Str) ≠ "FIRST"), (by decide : ("say" : Str) ≠ "SCRIPT")⟩
theorem zi3 {a : List yb} {s : yb} {d : Deed} (h : Yx d) (l : zbt d) : wz (a ++ [s]) [] (dW d) = some (a ++ [s ++ [d]], []) := by
 obtain ⟨r, er, n1, n2⟩ := zds (d := d);unfold wz;rw [znf h l, er];rw [if_neg (by simpa using n1), if_neg (by simp), if_neg (by simpa using fun z _ => n2 z), if_neg (by simp)];exact congrArg (fun z => some (z, [])) (zd0 a s d)
theorem Yo : ∀ (r1 r2 : List (List Str)) (ss : List yb) (cs : List zm), yk ss cs (r1 ++ r2) = match yk ss cs r1 with | none => none | some st => yk st.1 st.2 r2
 | [], r2, ss, cs => rfl
 | w :: r1, r2, ss, cs => by
   rw [List.cons_append, qx, qx];cases wz ss cs w with
   | none => rfl
   | some st => exact Yo r1 r2 st.1 st.2
theorem zca {a : List yb} : ∀ (ds : List Deed) (s : yb), (∀ d ∈ ds, Yx d) → (∀ d ∈ ds, zbt d) → yk (a ++ [s]) [] (ds.map dW) = some (a ++ [s ++ ds], [])
 | [], s, _, _ => by simp [yk]
 | d :: r, s, h, l => by
   show (match wz (a ++ [s]) [] (dW d) with | none => none | some st => yk st.1 st.2 (r.map dW)) = _;rw [zi3 (h d ao) (l d ao)];show yk (a ++ [s ++ [d]]) [] (r.map dW) = _;rw [zca r (s ++ [d]) (fun x hx => h x (aq _ hx)) (fun x hx => l x (aq _ hx)), List.append_assoc];rfl
theorem zb8 : ∀ (l a : List yb), (∀ s ∈ l, ∀ d ∈ s, Yx d ∧ zbt d) → yk a [] (wm l) = some (a ++ l, [])
 | [], a, _ => by simp [wm, yk]
 | s :: l, a, h => by
   have e : wm (s :: l) = ([("SCRIPT" : Str)] :: s.map dW) ++ wm l := rfl;rw [e, Yo, qx, zb0];show (match yk (a ++ [[]]) [] (s.map dW) with | none => none | some st => yk st.1 st.2 (wm l)) = _;rw [zca s [] (fun d hd => (h s ao d hd).1) (fun d hd => (h s ao d hd).2)];show yk (a ++ [[] ++ s]) [] (wm l) = _;rw [zb8 l _ fun x hx => h x (aq _ hx), List.append_assoc];rfl
theorem zb9 {ss : List yb} : ∀ (r cs : List zm), (∀ c ∈ r, Qd c ∧ ∀ m ∈ c.2, Low m) → yk ss cs (r.map (cW "FIRST")) = some (ss, cs ++ r)
 | [], cs, _ => by simp [yk]
 | c :: r, cs, h => by
   show (match wz ss cs (cW "FIRST" c) with | none => none | some st => yk st.1 st.2 (r.map (cW "FIRST"))) = _;rw [zi2 (h c ao).1 (h c ao).2];show yk ss (cs ++ [c]) (r.map (cW "FIRST")) = _;rw [zb9 r _ fun x hx => h x (aq _ hx), List.append_assoc];rfl
theorem zm9 {h : House} (hh : HouT h) : xw (jp h) = some (h.b.toNat, h.w.toNat) := by
 show (if (decide (("BOXES" : Str) = "BOXES") && decide (("WALLS" : Str) = "WALLS")) && (wx (nS h.b) && wx (nS h.w)) then some (vv (nS h.b), vv (nS h.w)) else none) = _;rw [Wj hh.b, Wj hh.w];have e1 := Qg hh.b;have e2 := Qg hh.w;have f1 : vv (nS h.b) = h.b.toNat := by omega
 have f2 : vv (nS h.w) = h.w.toNat := by omega
 rw [f1, f2];rfl
theorem zgs {h : House} (hh : HouT h) (hl : LowH h) : yk [] [] (wm h.ss ++ h.fs.map (cW "FIRST")) = some (h.ss, h.fs) := by
 rw [Yo, zb8 h.ss [] fun s hs d hd => ⟨(hh.s s hs).2 d hd, hl.s s hs d hd⟩];show yk ([] ++ h.ss) [] (h.fs.map (cW "FIRST")) = _;rw [zb9 h.fs [] fun c hc => ⟨hh.f c hc, hl.f c hc⟩];rfl
theorem zde {h : House} (hh : HouT h) (hl : LowH h) : w4 (zy h) = some h := by
 show (match xw (jp h) with | none => none | some p => match yk [] [] (wm h.ss ++ h.fs.map (cW "FIRST")) with | none => none | some st => some (House.mk p.1 p.2 st.2 st.1)) = _;rw [zm9 hh, zgs hh hl];have e1 := Int.toNat_of_nonneg hh.b.1;have e2 := Int.toNat_of_nonneg hh.w.1;show some (House.mk (h.b.toNat : Int) (h.w.toNat : Int) h.fs h.ss) = some h;rw [e1, e2]
abbrev Z0 : Stmt := top 51
abbrev Xf : Stmt := top 53
abbrev ky : Stmt := top 54
abbrev Xi : Stmt := top 60
noncomputable def zq1 : Sp := fun vs H Q _ => ∃ x : Str, vs = [.str x] ∧ x.length ≤ 1000 ∧ ∀ H', Same H H' → Q (.bl (wx x)) H'
theorem zh4 {c : Nat} (h : V8 c = true) : 48 ≤ c ∧ c ≤ 57 := by
 unfold V8 at h;rw [bu, Bool.not_eq_true', Bool.not_eq_true', decide_eq_false_iff_not, decide_eq_false_iff_not] at h;have e0 : ("0" : Str).cps.toList = [48] := by decide
 have e9 : ("9" : Str).cps.toList = [57] := by decide
 rw [e0, e9] at h;have e : (⟨#[c]⟩ : Str).cps.toList = [c] := rfl;rw [e] at h;obtain ⟨h1, h2⟩ := h;refine ⟨Nat.le_of_not_lt fun z => h1 (List.cons_lt_cons_iff.mpr (.inl z)), Nat.le_of_not_lt fun z => h2 (List.cons_lt_cons_iff.mpr (.inl z))⟩
theorem zmv (h : wx x = true) : PySem.intText? x = some (vv x : Int) ∧ x.length ≤ 30 := by
 unfold wx at h;simp only [bu] at h;obtain ⟨⟨⟨h1, h2⟩, _⟩, h4⟩ := h;have h1 := cb h1;have h2 := cb h2;have hd : PySem.NumText.AllDigits x.cps.toList := fun c hc => zh4 (cq.mp h4 c hc);have hne : x.cps.toList ≠ [] := fun z => by
  have : x.length = x.cps.toList.length := by rw [Array.length_toList]; rfl
  rw [z] at this;rw [this] at h1;exact absurd h1 (by decide)
 exact ⟨PySem.intText_digits hd hne (by omega), by omega⟩
theorem zig : Zu X (.type "int") (fun xs H Q => ∃ x : Str, xs = [.str x] ∧ wx x = true ∧ Q (.int (vv x : Int)) H) := by
 intro pins s σ H xs us Q I r h;obtain ⟨x, rfl, hn, q⟩ := h;obtain ⟨u, rfl, t, rfl⟩ := j6 r;obtain ⟨h1, h2⟩ := zmv hn;exact PySem.W.KIN.call_text h1 (by omega) ⟨.int _, H, I.tok _, ⟨_, rfl⟩, q⟩
theorem zb6 : FnScope ["word"] ["word"] (zi Z0) := .of
theorem zcr (D : Def K mg "is_number" Z0) (T : Txt K mg) : Ok P w K mg base "is_number" 1 ["word"] zq1 := by
 refine vp D zb6 (fun vs H Q E ⟨_, e, _⟩ => by rw [e]; rfl) fun f cdv A outer s H vs Q E hr h => ?_;obtain ⟨x, rfl, hl, k⟩ := h;refine ⟨_, ze (yh (PW.pt (Yr (xt (zjp Xc Xc zg (yf Z8 (by rfl) T.len xp (zc (pv 0) zd)) (y4 T.MOST_FIGURES))) (j9 (PW.pt (Xm (yz (wn PySem.F.plainAttrs_str PySem.F.slot_str_startswith PySem.F.type_str_startswith zhg (pv 0) (zc zl zd))) (Z1 (zu Xb (pv 0) zl (ye _)))))))) (zh (zn xx)) zx)
  (zh (zn (yf (Zr rfl) rfl T.all Vs (zc (Yd (own := ["sign"]) (cap := []) rfl (xr (zi Z0) rfl rfl (by decide +kernel) (by decide +kernel) (by decide +kernel) trivial) (zju (pv 0)) (fun _ _ _ _ => yd (i := 0) (by show (["sign"] : List Str).Nodup; decide +kernel) rfl (Or.inl rfl))
   (fun _ _ _ _ => wa) (fun _ _ _ _ => Wg Y3 Y3 zl (pv 0) zl)) zd)))), ?_⟩
 have hz : x.length ≤ sizeLine := zw hl;have fls : wx x = false → Q (.bl false) H := fun e => by have := k H (Same.refl H); rw [e] at this; exact this
 refine ⟨_, rfl, x, rfl, hz, 1, _, rfl, rfl, _, rfl, ?_⟩;cases i1 : decide ((1 : Int) ≤ (x.length : Int)) with
 | false =>
   exact yl ⟨_, rfl, yp (yp (fls (by unfold wx; rw [i1]; rfl)))⟩
 | true =>
 refine yp ⟨_, 30, rfl, rfl, _, rfl, ?_⟩;cases i2 : decide ((x.length : Int) ≤ 30) with
 | false =>
   exact yp (yp (fls (by unfold wx; rw [i2, Bool.and_false]; rfl)))
 | true =>
 refine yl ⟨_, rfl, rfl, x, "0", rfl, rfl, _, rfl, ?_⟩;cases hs : PySem.Txt.startswith x "0"
 case' true =>
  refine yp ⟨_, rfl, rfl, _, rfl, ?_⟩;cases hx : decide (V.str x = V.str "0")
  case' false =>
   have hne : x ≠ "0" := fun z => of_decide_eq_false hx (congrArg V.str z);refine yp ?_;exact fls (by unfold wx; rw [hs, au hne]; simp)
  case' true =>
   have e0 : x = "0" := by injection (cb hx)
   refine yl ?_;have hc : (!(PySem.Txt.startswith x "0" && decide (x ≠ "0"))) = true := by rw [hs, bn (fun z => z e0)]; rfl
 case' false =>
  refine yl (yl ?_);have hc : (!(PySem.Txt.startswith x "0" && decide (x ≠ "0"))) = true := by rw [hs]; rfl
 all_goals
  refine ⟨_, rfl, x, rfl, ?_⟩;have hsz : x.cps.size ≤ sizeLine := hz;refine zki (x := x) (fun i ys H' => H' = H ∧ ys = (x.cps.toList.take i).map fun c => V.bl (V8 c)) ⟨rfl, rfl⟩ (fun i ys H' hi ⟨_, e⟩ => by rw [e, ae, cg]; omega) ?_ ?_
  · rintro i c ys H' hc' ⟨rfl, rfl⟩;refine Vq ?_;have hnext : (x.cps.toList.take (i + 1)).map (fun c => V.bl (V8 c)) = (x.cps.toList.take i).map (fun c => V.bl (V8 c)) ++ [V.bl (V8 c)] := by
     have : x.cps.toList[i]? = some c := by rw [Array.getElem?_toList]; exact hc'
     rw [cm, this, az];rfl
    refine ⟨_, rfl, "0", _, rfl, rfl, _, rfl, ?_⟩;refine vm (fun d => ?_) (fun d => ?_)
    · refine ⟨_, "9", rfl, rfl, rfl, ?_⟩;rw [hnext];congr 3;unfold V8;rw [d, bj]
    · refine ⟨rfl, ?_⟩;rw [hnext];congr 3;unfold V8;rw [Bool.eq_false_iff.mpr d, c7]
  · rintro ys H' ⟨rfl, rfl⟩ p hp;refine ⟨p, x.cps.toList.map V8, rfl, SqL.of ?_, ?_⟩
    · rw [zf, cp];have e : x.cps.toList.take x.cps.size = x.cps.toList := by
       rw [← Array.length_toList, ci]
      rw [e];rfl
    · have e : (x.cps.toList.map V8).all id = wx x := by
       unfold wx;rw [i1, i2, hc, bj, bj, bj, List.all_map];rfl
      rw [e];exact k _ (Same.new hp _)
theorem zi4 {xs : List V} (h : SqT K H a xs) (s : Same H H') : SqT K H' a xs := by
 rcases h with h | h
 · rcases h with h | ⟨o, h⟩
   · exact .inl (.inl (s _ _ h))
   · exact .inl (.inr ⟨o, s _ _ h⟩)
 · exact .inr h
noncomputable def zmc : Sp := fun vs H Q _ => ∃ f x : Str, vs = [.str f, .str x] ∧ (f = "number" ∨ f = "letters") ∧ x.length ≤ 1000 ∧ ∀ H', Same H H' → Q (yx f x) H'
structure Rws (K : PySem.W.Frag) (H : Hp) (a b : Addr) (fs xs : List Str) : Prop where
 forms : ∀ f ∈ fs, f = "number" ∨ f = "letters"
 each : ∀ x ∈ xs, x.length ≤ 1000
 few : fs.length ≤ 10
 few' : xs.length ≤ 20
 fa : SqT K H a (fs.map V.str)
 fb : H b = some (.lst (xs.map V.str))
noncomputable def zi7 (K : PySem.W.Frag) : Sp := fun vs H Q _ => ∃ a b fs xs, vs = [.ref a, .ref b] ∧ Rws K H a b fs xs ∧ (vc fs xs = none → ∀ H', Same H H' → Q .non H') ∧ ∀ us l H', vc fs xs = some us → Same H H' → H' l = some (.lst us) → Q (.ref l) H'
noncomputable def zi9 (cT : Addr) : Sp := fun vs H Q E => ∃ v, vs = [v] ∧ (v = .non → E (.ref cT) none H) ∧ (v ≠ .non → Q v H)
theorem zmg (f x : Str) : Zq (yx f x) = true ∧ eqV (yx f x) .non = isN (yx f x) := by
 unfold yx;split
 · split <;> exact ⟨rfl, rfl⟩
 · split <;> exact ⟨rfl, rfl⟩
theorem zlv : ∀ {l : List V}, (∀ v ∈ l, eqV v .non = isN v) → inV .non l = l.any isN
 | [], _ => rfl
 | x :: r, h => by
   have ih := zlv (l := r) fun v hv => h v (aq _ hv);unfold inV at ih ⊢;rw [List.any_cons, List.any_cons, h x ao, ih]
theorem Wn {N ps : List Str} {k : Nat} {sp : Sp} (D : Def K mg x st) (S : FnScope N ps (zi st))
  (len : ∀ vs H Q E, sp vs H Q E → vs.length = ps.length)
  (hbody : ∀ (f : Addr) (cdv : Value) (A : Around) (outer : List Env) (s : Shared) (H : Hp) (vs : List V) (Q : VK) (E : XK), Room k (A.deeper (envOfC x (zi st) s.heap.objs.size f cdv)) → sp vs H Q E →
   ∃ t, PSs (vn (CXo P w) P w K mg base N x (zi st) f cdv A outer s H E) (xg st) t ∧ t { nx := fun _ H' => Q .non H', rt := Q } (start N vs) H)
  (hb : ∀ (kV doc pm : Value) (an : Option Addr) (cdv ct : Value) (us : List Value), us.length = ps.length → bindArgs (PySem.W.fnOf x x (jx st) (xg st) (zi st) .none kV doc pm an cdv ct) ⟨us, []⟩ = pure (ps.zip us) := by first | exact fun _ _ _ _ _ _ us hl => (match us, hl with | [_], _ => rfl) | exact fun _ _ _ _ _ _ us hl => (match us, hl with | [_, _], _ => rfl) | exact fun _ _ _ _ _ _ us hl => (match us, hl with | [_, _, _], _ => rfl) | exact fun _ _ _ _ _ _ us hl => (match us, hl with | [_, _, _, _], _ => rfl)) : OkX P w K mg base x (k + 1) ps sp := by
 obtain ⟨f, fd, F, hm⟩ := D;exact ⟨f, fd, F.okX S len (fun cdv A outer s H vs Q E hr h => hbody f cdv A outer s H vs Q E hr h), F.binds hb, F.kp, hm⟩
theorem zb3 : FnScope ["value"] ["value"] (zi Xi) := .of
theorem zcm (D : Def K mg "need_read" Xi) (O : OwnErr K mg base "NoText" cT) : OkX P w K mg base "need_read" 1 ["value"] (zi9 cT) := by
 refine Wn D zb3 (fun vs H Q E ⟨_, e, _⟩ => by rw [e]; rfl) fun f cdv A outer s H vs Q E hr h => ?_;obtain ⟨v, rfl, k1, k2⟩ := h;refine ⟨_, ze (yh (zu zj0 (pv 0) jr (ye _)) (zh (We O rfl)) zx) (zh (zn (pv 0))), ?_⟩;refine ⟨_, rfl, rfl, _, rfl, ?_⟩;refine vm (fun z => k1 (cb z)) (fun z => ⟨_, rfl, k2 fun e => z (au e)⟩)
theorem Vv : FnScope ["form", "word", "fits"] ["form", "word"] (zi Xf) := .of
theorem vs_ne' (h : x ≠ y) : decide (V.str x = V.str y) = false := bn fun e => h (by injection e)
theorem zcj (D : Def K mg "read_word" Xf) (T : Txt K mg) (o1 : Ok P w K mg base "is_number" 1 ["word"] zq1) (o2 : Ok P w K mg base "is_word" 2 ["thing"] (V7 Wl zc2)) (o3 : Ok P w K mg base "is_letters" 1 ["thing"] (V7 Wl jm)) : Ok P w K mg base "read_word" 3 ["form", "word"] zmc := by
 refine vp D Vv (fun vs H Q E ⟨_, _, e, _⟩ => by rw [e]; rfl) fun f cdv A outer s H vs Q E hr h => ?_;obtain ⟨f, x, rfl, hf, hl, k⟩ := h;have nd := Vv.nd;have r1 := hr.mono (show 1 ≤ 2 by decide);refine ⟨_, ze (yh (zu wo (pv 0) zl (ye _)) (zh (zn (ke (yz (ya o1 r1 (zc (pv 1) zd))) (yo zig rfl T.int zlo (zc (pv 1) zd)) jr))) zx)
  (ze (yh (zu wo (pv 0) zl (ye _)) (zh zcc) zx)
  (ze (zr (i := 2) nd rfl (Or.inl rfl) (ke (zu wo (pv 0) zl (ye _)) (ya o2 hr (zc (pv 1) zd)) (ya o3 r1 (zc (pv 1) zd))))
  (zh (zn (ke (yz (pv 2)) (pv 1) jr))))), ?_⟩
 rcases hf with rfl | rfl
 · refine ⟨_, rfl, rfl, _, rfl, ?_⟩;rw [au rfl];refine yp ⟨_, rfl, x, rfl, hl, fun H1 s1 => ⟨_, rfl, ?_⟩⟩;have hk := k H1 s1;unfold yx at hk;rw [if_pos rfl] at hk;refine vm (fun z => ⟨_, rfl, x, rfl, z, ?_⟩) (fun z => ?_)
   · rw [if_pos z] at hk; exact hk
   · rw [if_neg z] at hk; exact hk
 · refine ⟨_, rfl, rfl, _, rfl, ?_⟩;rw [vs_ne' (by decide)];refine yl ⟨_, rfl, rfl, _, rfl, ?_⟩;rw [vs_ne' (by decide)];refine yl ⟨_, rfl, rfl, _, rfl, ?_⟩;rw [vs_ne' (by decide)];refine yl ⟨_, rfl, .str x, _, rfl, rfl, fun y e => by cases e; exact zw hl, fun H1 s1 => ?_⟩;have hk := k H1 s1;unfold yx at hk;rw [if_neg (by decide)] at hk;refine ⟨_, rfl, _, rfl, vm (fun z => ⟨_, rfl, ?_⟩) (fun z => ?_)⟩
   · rw [if_pos z] at hk; exact hk
   · rw [if_neg z] at hk; exact hk
theorem X8 : FnScope ["forms", "words", "values"] ["forms", "words"] (zi ky) := .of
theorem za0 (D : Def K mg "read_words" ky) (T : Txt K mg) (o1 : Ok P w K mg base "read_word" 3 ["form", "word"] zmc) : Ok P w K mg base "read_words" 4 ["forms", "words"] (zi7 K) := by
 refine vp D X8 (fun vs H Q E ⟨_, _, _, _, e, _⟩ => by rw [e]; rfl) fun f cdv A outer s H vs Q E hr h => ?_;obtain ⟨a, b, fs, xs, rfl, R, kn, k⟩ := h;have nd := X8.nd;have ndc : (["form", "word"] : List Str).Nodup := by decide +kernel
 refine ⟨_, ze (yh (zu Xb (yf yg rfl T.len xp (zc (pv 0) zd)) (yf yg rfl T.len xp (zc (pv 1) zd)) (ye _)) (zh (zn jr)) zx)
  (ze (zcd (i := 2) (own := ["form", "word"]) (cap := []) (g := znb K 2 (Jk (Ye 0) (Jk (Ye 1) znc))) rfl (xr (zi ky) rfl rfl (by decide +kernel) (by decide +kernel) (by decide +kernel) trivial)
   (zmk rfl T.zip (zc (pv 0) (zc (pv 1) zd)))
   (fun _ _ _ _ => Xn rfl (xi (yd (i := 0) ndc rfl (Or.inl rfl)) (xi (yd (i := 1) ndc rfl (Or.inl rfl)) Z2))) (fun _ _ _ _ => wa)
   (fun _ _ _ _ => ya o1 hr (zc (pv 0) (zc (pv 1) zd))) nd rfl rfl (by with_unfolding_all rfl))
  (zh (zn (ke (zu jb jr (pv 2) rfl) jr (pv 2))))), ?_⟩
 have hl := R.few;have hl' := R.few';refine ⟨_, rfl, a, _, rfl, .inr R.fa, _, rfl, b, _, rfl, .inl (SqL.of R.fb), rfl, _, rfl, ?_⟩;rw [ae, ae];refine vm (fun z => ?_) (fun z => ?_)
 · have hne : fs.length ≠ xs.length := fun e => by rw [e, au rfl] at z; cases z
   exact kn (by unfold vc; rw [if_neg hne]) H (Same.refl H)
 have heq : fs.length = xs.length := by
  by_cases e : fs.length = xs.length
  · exact e
  · exact absurd (by rw [bn (fun y => e (by injection y with y; exact Int.ofNat.inj y))]; rfl) z
 refine ⟨_, rfl, _, rfl, a, b, _, _, rfl, R.fa, R.fb, ?_⟩;refine zm3 (by rw [ae, ae]; exact heq) (fun i ys H' => Same H H' ∧ ys = (List.zipWith yx fs xs).take i) ⟨Same.refl H, rfl⟩ (fun i ys H' hi ⟨s', e⟩ => ⟨zi4 R.fa s', s' _ _ R.fb, by rw [e, cg, List.length_zipWith]; exact zw (by omega)⟩) ?_ ?_
 · rintro i x1 z1 ys H' r hx hz ⟨s', rfl⟩ hr';rw [ay] at hx hz;cases ef : fs[i]? with
   | none => rw [ef] at hx; cases hx
   | some f1 =>
   cases ex : xs[i]? with
   | none => rw [ex] at hz; cases hz
   | some x2 =>
   rw [ef] at hx;rw [ex] at hz;cases hx;cases hz;have sr := Same.new hr' (.tup [.str f1, .str x2]);have gr : upd H' r (.tup [.str f1, .str x2]) r = some (.tup [.str f1, .str x2]) := zf;generalize upd H' r (.tup [.str f1, .str x2]) = H11 at sr gr ⊢;refine ⟨r, _, rfl, SqT.of gr, rfl, _, _, rfl, _, _, rfl, rfl, ?_⟩;refine if0 ?_;refine ⟨_, rfl, _, rfl, _, _, rfl, R.forms f1 (bz ef), R.each x2 (bz ex), fun H12 s12 => ⟨s'.trans (sr.trans s12), ?_⟩⟩;rw [cm, List.getElem?_zipWith, ef, ex];rfl
 rintro ys H1 ⟨s1, rfl⟩ l hl1;have eT : (List.zipWith yx fs xs).take (fs.map V.str).length = List.zipWith yx fs xs := List.take_of_length_le (by rw [List.length_zipWith, ae]; omega);rw [eT];have s2 := Same.new hl1 (.lst (List.zipWith yx fs xs));have g2 : upd H1 l (.lst (List.zipWith yx fs xs)) l = some (.lst (List.zipWith yx fs xs)) := zf;generalize upd H1 l (.lst (List.zipWith yx fs xs)) = H2 at s2 g2 ⊢;have each : ∀ v ∈ List.zipWith yx fs xs, Zq v = true ∧ eqV v .non = isN v := fun v hv => by
  obtain ⟨i, hi⟩ := List.mem_iff_getElem?.mp hv;rw [List.getElem?_zipWith] at hi;cases ef : fs[i]? with
  | none => rw [ef] at hi; cases hi
  | some f1 =>
  cases ex : xs[i]? with
  | none => rw [ef, ex] at hi; cases hi
  | some x2 =>
    rw [ef, ex] at hi;cases hi;exact zmg f1 x2
 have hf : (List.zipWith yx fs xs).all Zq = true := cq.mpr fun v hv => (each v hv).1;refine ⟨_, rfl, l, _, rfl, .inl (SqL.of g2), rfl, hf, _, rfl, ?_⟩;have hi : inV .non (List.zipWith yx fs xs) = (List.zipWith yx fs xs).any isN := zlv fun v hv => (each v hv).2;rw [if_neg c8, hi];refine vm (fun z => ?_) (fun z => ⟨_, rfl, ?_⟩)
 · exact kn (by unfold vc; rw [if_pos heq, if_pos z]) H2 (s1.trans s2)
 · exact k _ l H2 (by unfold vc; rw [if_pos heq, if_neg z]) (s1.trans s2) g2
abbrev Zx : Stmt := top 62
abbrev jf : Stmt := top 63
theorem zma (a : Str) (i j : Nat) : (Builtin.Str.strSub a i j).length ≤ a.length := by
 show (Builtin.Str.strSub a i j).cps.size ≤ a.cps.size;unfold Builtin.Str.strSub;simp only [Array.size_extract];omega
theorem zjy (x y : Str) : (qe x y).1.length ≤ x.length := by
 unfold qe;split
 · exact zma x _ _
 · exact ai _
theorem Yw (x : V) (l : List V) : Z7 (x :: l) (some 1) none = l := by
 have e1 : HT.sIx (x :: l).length 0 (some 1) = 1 := by
  unfold HT.sIx;simp
 have e2 : HT.sIx (x :: l).length (x :: l).length none = (x :: l).length := by
  unfold HT.sIx;rfl
 unfold Z7;rw [e1, e2, List.drop_one, List.tail_cons, bi, Nat.add_sub_cancel, ci]
noncomputable def zqu (cT : Addr) : Sp := fun vs H Q E => ∃ x : Str, vs = [.str x] ∧ x.length ≤ 1000 ∧ (jl x = none → ∀ H', Same H H' → E (.ref cT) none H') ∧ ∀ m v H', jl x = some m → Same H H' → Is H' (Y8 m) v → Q v H'
noncomputable def zoi (cT : Addr) : Sp := fun vs H Q E => ∃ b ws, vs = [.ref b] ∧ ws.length ≤ 20 ∧ (∀ x ∈ ws, x.length ≤ 1000) ∧ H b = some (.lst (ws.map V.str)) ∧ (qk ws = none → ∀ H', Same H H' → E (.ref cT) none H') ∧ ∀ c v H', qk ws = some c → Same H H' → Is H' (eC c) v → Q v H'
theorem Vk {x : Str} : ∀ {l : List Str}, x ∈ l → jl x = none → vd l = none
 | [], h, _ => by cases h
 | y :: r, h, hx => by
   show (match jl y with | none => none | some m => match vd r with | none => none | some ms => some (m :: ms)) = none;rcases ag.mp h with rfl | h
   · rw [hx]
   · rw [Vk h hx];cases jl y <;> rfl
theorem Kr {x : Str} {m : Mem} (hx : jl x = some m) : ∀ {l : List Str} {ms : List Mem}, vd l = some ms → vd (l ++ [x]) = some (ms ++ [m])
 | [], ms, h => by
   cases (show some [] = some ms from h);show (match jl x with | none => none | some m => match vd [] with | none => none | some ms => some (m :: ms)) = _;rw [hx];rfl
 | y :: r, ms, h => by
   have h : (match jl y with | none => none | some m => match vd r with | none => none | some ms => some (m :: ms)) = some ms := h;show (match jl y with | none => none | some m => match vd (r ++ [x]) with | none => none | some ms => some (m :: ms)) = _;cases ey : jl y with
   | none => rw [ey] at h; cases h
   | some m1 =>
     rw [ey] at h;cases er : vd r with
     | none => rw [er] at h; cases h
     | some ms1 =>
       rw [er] at h;rw [Kr hx er];cases h;rfl
theorem zmy (x : Str) : inV (.str x) [.str "both", .str "come", .str "go"] = Ko x := by
 show ((("both" : Str) == x) || ((("come" : Str) == x) || ((("go" : Str) == x) || false))) = _;unfold Ko;have e : ∀ y : Str, (y == x) = decide (x = y) := fun y => by
  by_cases h : x = y
  · subst h; simp
  · rw [bn h]; simpa using fun z => h z.symm
 rw [e, e, e, Bool.or_false]
theorem Xa : FnScope ["word", "parts", "mode"] ["word"] (zi Zx) := .of
theorem J6 (D : Def K mg "read_member" Zx) (T : Txt K mg) (o1 : Ok P w K mg base "read_word" 3 ["form", "word"] zmc) (o2 : OkX P w K mg base "need_read" 1 ["value"] (zi9 cT)) : OkX P w K mg base "read_member" 4 ["word"] (zqu cT) := by
 refine Wn D Xa (fun vs H Q E ⟨_, e, _⟩ => by rw [e]; rfl) fun f cdv A outer s H vs Q E hr h => ?_;obtain ⟨x, rfl, hl, kn, k⟩ := h;have nd := Xa.nd;have r1 := hr.mono (show 1 ≤ 3 by decide);obtain ⟨am, hmm, hM⟩ := T.MODES;refine ⟨_, ze (zr (i := 1) nd rfl (Or.inl rfl) (wn PySem.F.plainAttrs_str PySem.F.slot_str_partition PySem.F.type_str_partition zkd (pv 0) (zc zl zd)))
  (ze (zr (i := 2) nd rfl (Or.inl rfl) (ke (zu jb (zp zt (pv 1) zg (fun _ _ => rfl)) (Wf (v := .ref am) rfl hmm rfl) rfl) (zp zt (pv 1) zg (fun _ _ => rfl)) jr))
  (zh (zn (xu (zc (vg o2 wk r1 (zc (ya o1 hr (zc zl (zc (zp zt (pv 1) zg (fun _ _ => rfl)) zd))) zd)) (zc (vg o2 wk r1 (zc (pv 2) zd)) zd)))))), ?_⟩
 have hpl := zjy x ":";refine ⟨_, rfl, rfl, x, ":", rfl, rfl, rfl, zw hl, fun p H1 s1 hp g1 => ?_⟩;have kn' : (Ko (qe x ":").2.2 && wx (qe x ":").1) = false → ∀ H', Same H H' → E (.ref cT) none H' := fun z => kn (by unfold jl; rw [z]; rfl);have k' : (Ko (qe x ":").2.2 && wx (qe x ":").1) = true → ∀ v H', Same H H' → Is H' (Y8 ((vv (qe x ":").1 : Int), (qe x ":").2.2)) v → Q v H' := fun z v H' => k _ v H' (by unfold jl; rw [z]; rfl);generalize qe x ":" = pp at *;refine ⟨_, rfl, p, _, _, _, rfl, rfl, SqT.of g1, at2, am, _, rfl, .inr (hM H1), rfl, rfl, _, rfl, ?_⟩;rw [if_neg c8, zmy];cases hmo : Ko pp.2.2 with
 | false =>
   refine yl ⟨_, rfl, p, _, _, _, rfl, rfl, SqT.of g1, at0, "number", pp.1, rfl, .inl rfl, by omega, fun H2 s2 => ⟨_, rfl, fun _ => ?_, fun _ => ⟨_, rfl, _, rfl, fun _ => ?_, fun z => absurd rfl z⟩⟩⟩
   · exact kn' (by rw [hmo]; rfl) _ (s1.trans s2)
   · exact kn' (by rw [hmo]; rfl) _ (s1.trans s2)
 | true =>
   refine yp ⟨_, rfl, p, _, _, _, rfl, rfl, SqT.of g1, at2, ?_⟩;refine ⟨_, rfl, p, _, _, _, rfl, rfl, SqT.of g1, at0, "number", pp.1, rfl, .inl rfl, by omega, fun H2 s2 => ⟨_, rfl, fun z => ?_, fun z => ⟨_, rfl, _, rfl, fun z => (by cases z), fun _ => ⟨by show 2 ≤ sizeLine; decide, fun q hq => ?_⟩⟩⟩⟩
   · cases hn : wx pp.1 with
     | false => exact kn' (by rw [hmo, hn]; rfl) _ (s1.trans s2)
     | true =>
       unfold yx at z;rw [if_pos rfl, hn] at z;cases z
   · cases hn : wx pp.1 with
     | false =>
       refine absurd ?_ z;unfold yx;rw [if_pos rfl, hn];rfl
     | true =>
       have e : yx "number" pp.1 = .int (vv pp.1 : Int) := by
        unfold yx;rw [if_pos rfl, hn];rfl
       rw [e];exact k' (by rw [hmo, hn]; rfl) _ _ (s1.trans (s2.trans (Same.new hq _))) ⟨q, _, rfl, zf, IsL.two rfl rfl⟩
theorem Yj : FnScope ["words", "number"] ["words"] (zi jf) := .of
theorem Q5 (D : Def K mg "read_calling" jf) (T : Txt K mg) (o1 : Ok P w K mg base "read_word" 3 ["form", "word"] zmc) (o2 : OkX P w K mg base "need_read" 1 ["value"] (zi9 cT)) (o3 : OkX P w K mg base "read_member" 4 ["word"] (zqu cT)) : OkX P w K mg base "read_calling" 5 ["words"] (zoi cT) := by
 refine Wn D Yj (fun vs H Q E ⟨_, _, e, _⟩ => by rw [e]; rfl) fun f cdv A outer s H vs Q E hr h => ?_;obtain ⟨b, ws, rfl, hwl, hwe, hb, kn, k⟩ := h;have nd := Yj.nd;have r1 := hr.mono (show 1 ≤ 4 by decide);have r3 := hr.mono (show 3 ≤ 4 by decide);refine ⟨_, ze (zr (i := 1) nd rfl (Or.inl rfl) (ke (Q3 (pv 0) (fun _ => rfl)) (ya o1 r3 (zc zl (zc (zp yi (pv 0) zg (fun _ _ => rfl)) zd))) jr))
  (zh (zn (xu (zc (vg o2 wk r1 (zc (pv 1) zd)) (zc (yo yv rfl T.tuple wy (zc (zo1 (own := ["word"]) (cap := []) (xr (zi jf) rfl rfl (by decide +kernel) (by decide +kernel) (by decide +kernel) trivial) (jg (wg je (pv 0) (w5 zg) w6))
   (fun _ _ _ _ => yd (i := 0) (by show (["word"] : List Str).Nodup; decide +kernel) rfl (Or.inl rfl)) (fun _ _ _ _ => wa) (fun _ _ _ _ => vg o3 (Xx (Z := fun _ _ => True)) hr (zc (pv 0) zd))) zd)) zd))))), ?_⟩
 cases ws with
 | nil =>
   refine ⟨_, rfl, false, .inl ⟨_, SqL.of hb, rfl⟩, yl ?_⟩;exact ⟨_, rfl, _, rfl, fun _ => kn rfl _ (Same.refl H), fun z => absurd rfl z⟩
 | cons x ms =>
 have hb : H b = some (.lst (.str x :: ms.map V.str)) := hb;have hml : ms.length ≤ 20 := by rw [bi] at hwl; omega
 refine ⟨_, rfl, true, .inl ⟨_, SqL.of hb, rfl⟩, yp ⟨_, rfl, b, _, _, _, rfl, rfl, SqL.of hb, at0, "number", x, rfl, .inl rfl, hwe x ao, fun H1 s1 => ?_⟩⟩;cases hn : wx x with
 | false =>
   have e : yx "number" x = .non := by
    unfold yx;rw [if_pos rfl, hn];rfl
   rw [e];exact ⟨_, rfl, _, rfl, fun _ => kn (by unfold qk; simp only [hn]; rfl) _ s1, fun z => absurd rfl z⟩
 | true =>
 have e : yx "number" x = .int (vv x : Int) := by
  unfold yx;rw [if_pos rfl, hn];rfl
 rw [e];have kn' : vd ms = none → ∀ H', Same H H' → E (.ref cT) none H' := fun z => kn (by unfold qk; simp only [hn, z]; rfl);have k' : ∀ l v H', vd ms = some l → Same H H' → Is H' (eC (vv x, l)) v → Q v H' := fun l v H' z => k (vv x, l) v H' (by unfold qk; simp only [hn, z]; rfl);refine ⟨_, rfl, _, rfl, fun z => (by cases z), fun _ => ⟨_, rfl, _, rfl, b, _, rfl, SqL.of (s1 _ _ hb), fun p hp => ?_⟩⟩;rw [Yw];have s2 := Same.new hp (.lst (ms.map V.str));have g2 : upd H1 p (.lst (ms.map V.str)) p = some (.lst (ms.map V.str)) := zf;generalize upd H1 p (.lst (ms.map V.str)) = H2 at s2 g2 ⊢;refine ⟨p, rfl, ⟨_, SqL.of g2⟩, ?_⟩;refine Y4 (xs := ms.map V.str) (fun i ys H' => Same H2 H' ∧ ∃ l, vd (ms.take i) = some l ∧ L2.IsL H' (l.map Y8) ys ∧ ys.length = i) ⟨Same.refl H2, [], rfl, rfl, rfl⟩ (fun i ys H' hi ⟨s', l, _, _, e⟩ => ⟨SqL.of (s' _ _ g2), by rw [e]; rw [ae] at hi; exact zw (by omega)⟩) ?_ ?_
 · rintro i y ys H' hy ⟨s', l, el, il, eyl⟩;refine Vq ?_;rw [ay] at hy;cases em : ms[i]? with
   | none => rw [em] at hy; cases hy
   | some m =>
   rw [em] at hy;cases hy;have hmm := bz em;refine ⟨_, rfl, m, rfl, hwe m (aq _ hmm), fun z H3 s3 => kn' (Vk hmm z) _ (s1.trans (s2.trans (s'.trans s3))), fun mm v H3 z s3 iv => ⟨s'.trans s3, l ++ [mm], ?_, ?_, by rw [ar, eyl]; rfl⟩⟩
   · rw [cm, em];exact Kr z el
   · rw [az];exact IsL.append (il.mono s3) (IsL.one iv)
 rintro ys H3 ⟨s3, l, el, il, _⟩ lq hl;rw [ae, ci] at el;have s4 := Same.new hl (.lst ys);have g4 : upd H3 lq (.lst ys) lq = some (.lst ys) := zf;generalize upd H3 lq (.lst ys) = H4 at s4 g4 ⊢;refine ⟨lq, ys, rfl, .inl ⟨SqL.of g4, fun q hq => ?_⟩⟩;have s5 := Same.new hq (.tup ys);have g5 : upd H4 q (.tup ys) q = some (.tup ys) := zf;generalize upd H4 q (.tup ys) = H5 at s5 g5 ⊢;refine ⟨by show 2 ≤ sizeLine; decide, fun z hz => ?_⟩;have s6 := Same.new hz (.tup [.int (vv x : Int), .ref q]);exact k' l _ _ el (s1.trans (s2.trans (s3.trans (s4.trans (s5.trans s6))))) ⟨z, _, rfl, zf, IsL.two rfl ⟨q, ys, rfl, s6 _ _ g5, ((il.mono s4).mono s5).mono s6⟩⟩
abbrev Xg : Stmt := top 61
noncomputable def Cln (x : Str) : Prop := ∀ c ∈ x.cps.toList, c ≠ 10 ∧ c ≠ 32 ∧ c < 1114112
noncomputable def V6 (ws : List Str) : T := .lst (ws.map T.str)
theorem zi1 (h : Cln x) : (PyData.str x).canLay0 = true := by
 show x.cps.all (· < 0x110000) = true;rw [← Array.all_toList];exact cq.mpr fun c hc => au (h c hc).2.2
theorem zda : ∀ {ws : List Str}, (∀ t ∈ ws, Cln t) → PyData.canLayAll0 (kt (ws.map T.str)) = true
 | [], _ => rfl
 | x :: r, h => by
   rw [bh];unfold kt toD PyData.canLayAll0;rw [bu];exact ⟨zi1 (h x ao), zda fun t ht => h t (aq _ ht)⟩
theorem Wt (h : ∀ t ∈ ws, Cln t) : (toD (V6 ws)).canLay0 = true := by
 unfold V6 toD PyData.canLay0;exact zda h
theorem Jq : ∀ ws : List Str, PyData.depthAll (kt (ws.map T.str)) = 0
 | [] => rfl
 | x :: r => by
   rw [bh];unfold kt toD PyData.depthAll;rw [Jq r];rfl
theorem Jr (ws : List Str) : (toD (V6 ws)).depth ≤ 20 := by
 unfold V6 toD PyData.depth;rw [Jq];decide
theorem zgi : ∀ a b : List Str, PyData.eqvAll (kt (a.map T.str)) (kt (b.map T.str)) = decide (a = b)
 | [], [] => by simp [kt, PyData.eqvAll]
 | [], y :: r => by simp [kt, PyData.eqvAll]
 | x :: r, [] => by simp [kt, PyData.eqvAll]
 | x :: r, y :: q => by
   have ih := zgi r q;simp only [bh, kt, toD, PyData.eqvAll, PyData.eqv];rw [ih];by_cases h : x = y
   · subst h;simp
   · rw [bn (p := x :: r = y :: q) (fun z => h (List.cons.inj z).1)];simp [h]
theorem zdo (a b : List Str) : PyData.eqv (toD (V6 a)) (toD (V6 b)) = decide (a = b) := by
 unfold V6 toD PyData.eqv;exact zgi a b
theorem zga {H : Hp} : ∀ ws : List Str, L2.IsL H (ws.map T.str) (ws.map V.str)
 | [] => rfl
 | x :: r => ⟨_, _, rfl, rfl, zga r⟩
theorem Qk (h : H a = some (.lst (ws.map V.str))) : Is H (V6 ws) (.ref a) := ⟨a, _, rfl, h, zga ws⟩
theorem wb (h : (x.cps.toList.all fun c => decide (c ≠ 10 ∧ c ≠ 32 ∧ c < 1114112)) = true) : Cln x := fun c hc => cb (cq.mp h c hc)
noncomputable def bw : List Str := ["BOXES", "WALLS"]
noncomputable def nn : List Str := ["number", "number"]
theorem zgc (h : qa ws ≠ bw) : xw ws = none := by
 unfold xw;split
 · rename_i a x b y
   refine if_neg fun z => h ?_;simp only [bu] at z;have e1 := cb z.1.1;have e2 := cb z.1.2;show [a, b] = bw;rw [e1, e2];rfl
 · rfl
theorem zim (x : Str) : yx "number" x = if wx x then .int (vv x : Int) else .non := if_pos rfl
theorem zmw (h : vc nn [x, y] = none) : (wx x && wx y) = false := by
 unfold vc nn at h;rw [if_pos (show [("number" : Str), "number"].length = [x, y].length from rfl)] at h;have h : (if ([yx "number" x, yx "number" y].any isN) = true then none else some [yx "number" x, yx "number" y]) = none := h;rw [zim, zim] at h;cases hx : wx x with
 | false => rfl
 | true =>
   cases hy : wx y with
   | false => rfl
   | true => rw [hx, hy] at h; cases h
theorem za9 (h : vc nn xs = some us) : ∃ x y, xs = [x, y] ∧ wx x = true ∧ wx y = true ∧ us = [.int (vv x : Int), .int (vv y : Int)] := by
 unfold vc nn at h;split at h
 · rename_i hl
   match xs, hl with
   | [x, y], _ =>
     have h : (if ([yx "number" x, yx "number" y].any isN) = true then none else some [yx "number" x, yx "number" y]) = some us := h;rw [zim, zim] at h;refine ⟨x, y, rfl, ?_⟩;cases hx : wx x with
     | false => rw [hx] at h; cases h
     | true =>
       cases hy : wx y with
       | false => rw [hx, hy] at h; cases h
       | true => rw [hx, hy] at h; cases h; exact ⟨rfl, rfl, rfl⟩
 · cases h
theorem zhx (h : vc nn (Zm ws) = none) : xw ws = none := by
 unfold xw;split
 · rename_i a x b y
   rw [zmw (x := x) (y := y) h, Bool.and_false];rfl
 · rfl
theorem zhw (he : qa ws = bw) (h : vc nn (Zm ws) = some us) : ∃ p, xw ws = some p ∧ us = [.int (p.1 : Int), .int (p.2 : Int)] := by
 obtain ⟨x, y, ho, hx, hy, rfl⟩ := za9 h
 match ws, he, ho with
 | [a, x', b, y'], he, ho =>
   obtain ⟨rfl, rfl⟩ : x' = x ∧ y' = y := by
    have ho : [x', y'] = [x, y] := ho;injection ho with h1 h2;injection h2 with h2 _;exact ⟨h1, h2⟩
   obtain ⟨rfl, rfl⟩ : a = "BOXES" ∧ b = "WALLS" := by
    have he : [a, b] = bw := he;unfold bw at he;injection he with h1 h2;injection h2 with h2 _;exact ⟨h1, h2⟩
   refine ⟨(vv x', vv y'), ?_, rfl⟩;show (if (decide (("BOXES" : Str) = "BOXES") && decide (("WALLS" : Str) = "WALLS")) && (wx x' && wx y') then some (vv x', vv y') else none) = _;rw [hx, hy];rfl
 | a :: _ :: b :: _ :: c :: r, he, _ =>
   have he : a :: b :: qa (c :: r) = bw := he;unfold bw at he;injection he with _ h2;injection h2 with _ h3;cases r <;> cases h3
noncomputable def zqv (cT : Addr) : Sp := fun vs H Q E => ∃ b ws, vs = [.ref b] ∧ ws.length ≤ 14 ∧ (∀ x ∈ ws, x.length ≤ 1000 ∧ Cln x) ∧ H b = some (.lst (ws.map V.str)) ∧ (xw ws = none → ∀ H', Same H H' → E (.ref cT) none H') ∧ ∀ p q H', xw ws = some p → Same H H' → H' q = some (.tup [.int (p.1 : Int), .int (p.2 : Int)]) → Q (.ref q) H'
theorem K1 {α : Type} : ∀ {l : List α} {x : α}, x ∈ qa l → x ∈ l
 | [], _, h => h
 | [_], _, h => h
 | _ :: _ :: r, x, h => by
   rcases ag.mp h with rfl | h
   · exact ao
   · exact aq _ (aq _ (K1 h))
theorem zct {α : Type} : ∀ {l : List α} {x : α}, x ∈ Zm l → x ∈ l
 | [], _, h => h
 | [_], _, h => by cases h
 | _ :: _ :: r, x, h => by
   rcases ag.mp h with rfl | h
   · exact aq _ ao
   · exact aq _ (aq _ (zct h))
theorem Vw : FnScope ["words", "fits"] ["words"] (zi Xg) := .of
theorem zck (D : Def K mg "read_head" Xg) (T : Txt K mg) (o1 : Ok P w K mg base "read_words" 4 ["forms", "words"] (zi7 K)) (o2 : OkX P w K mg base "need_read" 1 ["value"] (zi9 cT)) : OkX P w K mg base "read_head" 5 ["words"] (zqv cT) := by
 refine Wn D Vw (fun vs H Q E ⟨_, _, e, _⟩ => by rw [e]; rfl) fun f cdv A outer s H vs Q E hr h => ?_;obtain ⟨b, ws, rfl, hwl, hwe, hb, kn, k⟩ := h;have nd := Vw.nd;have r1 := hr.mono (show 1 ≤ 4 by decide);refine ⟨_, ze (zr (i := 1) nd rfl (Or.inl rfl) (jh (zf0 hr.units) (zjw (pv 0) w6) (yr (zc zl (zc zl zd))) (ye _)))
  (zh (zn (yo yv rfl T.tuple wy (zc (vg o2 wk r1 (zc (ke (yz (pv 1)) (ya o1 hr (zc (xu (zc zl (zc zl zd))) (zc (zjw (pv 0) (w5 zg)) zd))) jr) zd)) zd)))), ?_⟩
 refine ⟨_, rfl, b, _, rfl, .inl rfl, SqL.of hb, by rw [ae]; exact hwl, fun p hp => ?_⟩;rw [show pk2 none (ws.map V.str) = (qa ws).map V.str from K2 _ ws];have s1 := Same.new hp (.lst ((qa ws).map V.str));have g1 : upd H p (.lst ((qa ws).map V.str)) p = some (.lst ((qa ws).map V.str)) := zf;generalize upd H p (.lst ((qa ws).map V.str)) = H1 at s1 g1 ⊢;refine ⟨by show 2 ≤ sizeLine; decide, fun p2 hp2 => ?_⟩;have s2 := Same.new hp2 (.lst [.str "BOXES", .str "WALLS"]);have g2 : upd H1 p2 (.lst [.str "BOXES", .str "WALLS"]) p2 = some (.lst [.str "BOXES", .str "WALLS"]) := zf;generalize upd H1 p2 (.lst [.str "BOXES", .str "WALLS"]) = H2 at s2 g2 ⊢;have clb : ∀ t ∈ bw, Cln t := fun t ht => by
  simp only [bw, ag, aw, or_false] at ht;rcases ht with rfl | rfl <;> exact wb (by decide +kernel)
 refine ⟨V6 (qa ws), V6 bw, Qk (s2 _ _ g1), Qk (ws := bw) g2, Wt fun t ht => (hwe t (K1 ht)).2, Wt clb, Jr _, ?_⟩;rw [zdo];have s02 := s1.trans s2;refine ⟨_, rfl, _, rfl, vm (fun z => ?_) (fun z => ?_)⟩;rotate_left
 · exact ⟨_, rfl, fun _ => kn (zgc fun e => z (au e)) _ s02, fun y => absurd rfl y⟩
 have hev := cb z;refine ⟨by show 2 ≤ sizeLine; decide, fun p3 hp3 => ?_⟩;have s3 := Same.new hp3 (.tup [.str "number", .str "number"]);have g3 : upd H2 p3 (.tup [.str "number", .str "number"]) p3 = some (.tup [.str "number", .str "number"]) := zf;generalize upd H2 p3 (.tup [.str "number", .str "number"]) = H3 at s3 g3 ⊢;have s03 := s02.trans s3;refine ⟨_, rfl, 1, rfl, b, _, rfl, .inr rfl, SqL.of (s03 _ _ hb), by rw [ae]; exact hwl, fun p4 hp4 => ?_⟩;rw [show pk2 (some 1) (ws.map V.str) = (Zm ws).map V.str from zcu _ ws];have s4 := Same.new hp4 (.lst ((Zm ws).map V.str));have g4 : upd H3 p4 (.lst ((Zm ws).map V.str)) p4 = some (.lst ((Zm ws).map V.str)) := zf;generalize upd H3 p4 (.lst ((Zm ws).map V.str)) = H4 at s4 g4 ⊢;have hol := Q7 ws;have s04 := s03.trans s4;refine ⟨p3, p4, nn, Zm ws, rfl, ⟨fun r hr => ?_, fun x hx => (hwe x (zct hx)).1, by show 2 ≤ 10; decide, by omega, SqT.of (s4 _ _ g3), g4⟩, fun en H5 s5 => ?_, fun us l H5 es s5 g5 => ?_⟩
 · simp only [nn, ag, aw, or_false, or_self] at hr;exact .inl hr
 · exact ⟨_, rfl, fun _ => kn (zhx en) _ (s04.trans s5), fun y => absurd rfl y⟩
 · obtain ⟨pp, e1, rfl⟩ := zhw hev es;refine ⟨_, rfl, fun y => (by cases y), fun _ => ⟨l, _, rfl, .inl ⟨SqL.of g5, fun q hq => ?_⟩⟩⟩;exact k pp q _ e1 (s04.trans (s5.trans (Same.new hq _))) zf
abbrev Xh : Stmt := top 64
noncomputable def zbv (w : World) (K : PySem.W.Frag) (mg : Str → Option Value) : Prop := ∃ ad b0 b1 b2 b3 b4 b5 b6, mg "DEEDS" = some (.ref ad) ∧
 zd3 w K ad [("raise", .ref b0), ("await", .ref b1), ("come", .ref b2), ("go", .ref b3), ("leave", .ref b4), ("work", .ref b5), ("say", .ref b6)] ∧
 ∀ H, SqT K H b0 [.str "number", .str "number"] ∧ SqT K H b1 [.str "number", .str "number"] ∧ SqT K H b2 [.str "number"] ∧ SqT K H b3 [.str "number"] ∧ SqT K H b4 [.str "number"] ∧ SqT K H b5 [.str "number"] ∧ SqT K H b6 [.str "letters"]
theorem zh5 (B : zbv w K mg) : ∃ ad kvs, mg "DEEDS" = some (.ref ad) ∧ zd3 w K ad kvs ∧ ∀ x : Str, (qp x = none ∧ xz kvs x = none) ∨ ∃ fs b, qp x = some fs ∧ xz kvs x = some (.ref b) ∧ ∀ H, SqT K H b (fs.map V.str) := by
 obtain ⟨ad, b0, b1, b2, b3, b4, b5, b6, hm, hk, hf⟩ := B;refine ⟨ad, _, hm, hk, fun x => ?_⟩;by_cases h0 : x = "raise"
 · subst h0; exact .inr ⟨["number", "number"], b0, rfl, by with_unfolding_all rfl, fun H => (hf H).1⟩
 by_cases h1 : x = "await"
 · subst h1; exact .inr ⟨["number", "number"], b1, rfl, by with_unfolding_all rfl, fun H => (hf H).2.1⟩
 by_cases h2 : x = "come"
 · subst h2; exact .inr ⟨["number"], b2, rfl, by with_unfolding_all rfl, fun H => (hf H).2.2.1⟩
 by_cases h3 : x = "go"
 · subst h3; exact .inr ⟨["number"], b3, rfl, by with_unfolding_all rfl, fun H => (hf H).2.2.2.1⟩
 by_cases h4 : x = "leave"
 · subst h4; exact .inr ⟨["number"], b4, rfl, by with_unfolding_all rfl, fun H => (hf H).2.2.2.2.1⟩
 by_cases h5 : x = "work"
 · subst h5; exact .inr ⟨["number"], b5, rfl, by with_unfolding_all rfl, fun H => (hf H).2.2.2.2.2.1⟩
 by_cases h6 : x = "say"
 · subst h6; exact .inr ⟨["letters"], b6, rfl, by with_unfolding_all rfl, fun H => (hf H).2.2.2.2.2.2⟩
 refine .inl ⟨?_, ?_⟩
 · unfold qp;rw [if_neg h0, if_neg h1, if_neg h2, if_neg h3, if_neg h4, if_neg h5, if_neg h6]
 · unfold xz;rw [List.find?_eq_none.mpr]
   · rfl
   · intro kv hkv;simp only [ag, aw, or_false] at hkv;rcases hkv with rfl | rfl | rfl | rfl | rfl | rfl | rfl
     · simpa using fun z => h0 z.symm
     · simpa using fun z => h1 z.symm
     · simpa using fun z => h2 z.symm
     · simpa using fun z => h3 z.symm
     · simpa using fun z => h4 z.symm
     · simpa using fun z => h5 z.symm
     · simpa using fun z => h6 z.symm
theorem Qh (h : vc ["number"] xs = some us) : ∃ x, us = [.int (vv x : Int)] := by
 unfold vc at h;split at h
 · rename_i hl
   match xs, hl with
   | [x], _ =>
     have h : (if ([yx "number" x].any isN) = true then none else some [yx "number" x]) = some us := h;rw [zim] at h;cases hx : wx x with
     | false => rw [hx] at h; cases h
     | true => rw [hx] at h; cases h; exact ⟨x, rfl⟩
 · cases h
theorem zm4 (h : vc ["letters"] xs = some us) : ∃ x, us = [.str x] := by
 unfold vc at h;split at h
 · rename_i hl
   match xs, hl with
   | [x], _ =>
     have h : (if ([yx "letters" x].any isN) = true then none else some [yx "letters" x]) = some us := h;have e : yx "letters" x = if jm (.str x) then .str x else .non := if_neg (by decide)
     rw [e] at h;cases hx : jm (.str x) with
     | false => rw [hx] at h; cases h
     | true => rw [hx] at h; cases h; exact ⟨x, rfl⟩
 · cases h
theorem zkz {fs : List Str} (h : qp x = some fs) : fs.length ≤ 2 ∧ (∀ f ∈ fs, f = "number" ∨ f = "letters") ∧ x ≠ "begin" ∧ x.length ≤ 10 ∧ ∀ xs us, vc fs xs = some us → us ≠ [] ∧ us.length ≤ 2 ∧ ∃ d, qw x us = some d ∧ dv d = .str x :: us ∧ zm7 d = false := by
 unfold qp at h;have f2 : ∀ f ∈ ([("number" : Str), "number"]), f = "number" ∨ f = "letters" := by decide
 have f1 : ∀ f ∈ ([("number" : Str)]), f = "number" ∨ f = "letters" := by decide
 have fl : ∀ f ∈ ([("letters" : Str)]), f = "number" ∨ f = "letters" := by decide
 split at h
 · rename_i e; subst e; cases h
   refine ⟨by decide, f2, by decide, by decide, fun xs us hs => ?_⟩;obtain ⟨x, y, _, _, _, rfl⟩ := za9 hs;exact ⟨by simp, by simp, _, rfl, rfl, rfl⟩
 split at h
 · rename_i e; subst e; cases h
   refine ⟨by decide, f2, by decide, by decide, fun xs us hs => ?_⟩;obtain ⟨x, y, _, _, _, rfl⟩ := za9 hs;exact ⟨by simp, by simp, _, rfl, rfl, rfl⟩
 split at h
 · rename_i e; subst e; cases h
   refine ⟨by decide, f1, by decide, by decide, fun xs us hs => ?_⟩;obtain ⟨x, rfl⟩ := Qh hs;exact ⟨by simp, by simp, _, rfl, rfl, rfl⟩
 split at h
 · rename_i e; subst e; cases h
   refine ⟨by decide, f1, by decide, by decide, fun xs us hs => ?_⟩;obtain ⟨x, rfl⟩ := Qh hs;exact ⟨by simp, by simp, _, rfl, rfl, rfl⟩
 split at h
 · rename_i e; subst e; cases h
   refine ⟨by decide, f1, by decide, by decide, fun xs us hs => ?_⟩;obtain ⟨x, rfl⟩ := Qh hs;exact ⟨by simp, by simp, _, rfl, rfl, rfl⟩
 split at h
 · rename_i e; subst e; cases h
   refine ⟨by decide, f1, by decide, by decide, fun xs us hs => ?_⟩;obtain ⟨x, rfl⟩ := Qh hs;exact ⟨by simp, by simp, _, rfl, rfl, rfl⟩
 split at h
 · rename_i e; subst e; cases h
   refine ⟨by decide, fl, by decide, by decide, fun xs us hs => ?_⟩;obtain ⟨x, rfl⟩ := zm4 hs;exact ⟨by simp, by simp, _, rfl, rfl, rfl⟩
 · cases h
theorem zng {d : Deed} {q : Addr} (hb : zm7 d = false) (h : H q = some (.tup (dv d))) : Is H (eD d) (.ref q) := by
 cases d with
 | beg => cases hb
 | rai i j => exact ⟨q, _, rfl, h, _, _, rfl, rfl, _, _, rfl, rfl, _, _, rfl, rfl, rfl⟩
 | awa i j => exact ⟨q, _, rfl, h, _, _, rfl, rfl, _, _, rfl, rfl, _, _, rfl, rfl, rfl⟩
 | com i => exact ⟨q, _, rfl, h, IsL.two rfl rfl⟩
 | goo i => exact ⟨q, _, rfl, h, IsL.two rfl rfl⟩
 | lea i => exact ⟨q, _, rfl, h, IsL.two rfl rfl⟩
 | wor i => exact ⟨q, _, rfl, h, IsL.two rfl rfl⟩
 | say x => exact ⟨q, _, rfl, h, IsL.two rfl rfl⟩
noncomputable def zqw (cT : Addr) : Sp := fun vs H Q E => ∃ b ws, vs = [.ref b] ∧ ws ≠ [] ∧ ws.length ≤ 20 ∧ (∀ x ∈ ws, x.length ≤ 1000) ∧ H b = some (.lst (ws.map V.str)) ∧ (qy ws = none → ∀ H', Same H H' → E (.ref cT) none H') ∧ ∀ d v H', qy ws = some d → Same H H' → Is H' (eD d) v → Q v H'
theorem Vx : FnScope ["words", "forms"] ["words"] (zi Xh) := .of
theorem zcl (D : Def K mg "read_deed" Xh) (T : Txt K mg) (B : zbv w K mg) (o1 : OkX P w K mg base "read_calling" 5 ["words"] (zoi cT)) (o2 : OkX P w K mg base "need_read" 1 ["value"] (zi9 cT)) (o3 : Ok P w K mg base "read_words" 4 ["forms", "words"] (zi7 K)) : OkX P w K mg base "read_deed" 6 ["words"] (zqw cT) := by
 refine Wn D Vx (fun vs H Q E ⟨_, _, e, _⟩ => by rw [e]; rfl) fun f cdv A outer s H vs Q E hr h => ?_;obtain ⟨b, ws, rfl, hne, hwl, hwe, hb, kn, k⟩ := h;have nd := Vx.nd;have r1 := hr.mono (show 1 ≤ 5 by decide);have r4 := hr.mono (show 4 ≤ 5 by decide);obtain ⟨ad, kvs, hdd, hkd, hget⟩ := zh5 B;refine ⟨_, ze (yh (zu wo (zp yi (pv 0) zg (fun _ _ => rfl)) zl (ye _)) (zh (zn (yc Qf (xu (zc zl zd)) (vg o1 wk hr (zc (wg je (pv 0) (w5 zg) w6) zd))))) zx)
  (ze (zr (i := 1) nd rfl (Or.inl rfl) (vg o2 wk r1 (zc (zjv (Wf (v := .ref ad) rfl hdd rfl) (zp yi (pv 0) zg (fun _ _ => rfl)) ⟨rfl, rfl, rfl, rfl⟩) zd)))
  (zh (zn (yc Qf (xu (zc (zp yi (pv 0) zg (fun _ _ => rfl)) zd)) (yo yv rfl T.tuple wy (zc (vg o2 wk r1 (zc (ya o3 r4 (zc (pv 1) (zc (wg je (pv 0) (w5 zg) w6) zd))) zd)) zd)))))), ?_⟩
 cases ws with
 | nil => exact absurd rfl hne
 | cons x r =>
 have hb : H b = some (.lst (.str x :: r.map V.str)) := hb;have hrl : r.length ≤ 20 := by rw [bi] at hwl; omega
 have hre : ∀ y ∈ r, y.length ≤ 1000 := fun y hy => hwe y (aq _ hy);refine ⟨_, rfl, b, _, _, _, rfl, rfl, SqL.of hb, at0, rfl, _, rfl, ?_⟩;by_cases hbg : x = "begin"
 · subst hbg;rw [au rfl];refine yp ⟨by show 1 ≤ sizeLine; decide, fun p hp => ?_⟩;have s1 := Same.new hp (.tup [.str "begin"]);have g1 : upd H p (.tup [.str "begin"]) p = some (.tup [.str "begin"]) := zf;generalize upd H p (.tup [.str "begin"]) = H1 at s1 g1 ⊢;refine ⟨_, rfl, 1, rfl, b, _, rfl, SqL.of (s1 _ _ hb), fun p2 hp2 => ?_⟩;rw [Yw];have s2 := Same.new hp2 (.lst (r.map V.str));have g2 : upd H1 p2 (.lst (r.map V.str)) p2 = some (.lst (r.map V.str)) := zf;generalize upd H1 p2 (.lst (r.map V.str)) = H2 at s2 g2 ⊢;refine ⟨p2, r, rfl, hrl, hre, g2, fun z H3 s3 => kn ?_ _ (s1.trans (s2.trans s3)), fun c v H3 z s3 iv => ?_⟩
   · show (match qk r with | none => none | some c => some (Deed.beg c.1 c.2)) = none;rw [z]
   obtain ⟨bc, bm, xs, rfl, hbc, hbm, hxs⟩ := zdw iv;refine ⟨p, bc, _, _, rfl, rfl, SqT.of (s3 _ _ (s2 _ _ g1)), SqT.of hbc, by simp, by show 3 ≤ sizeLine; decide, fun z => (by cases z), fun _ q hq => ?_⟩;have s4 := Same.new hq (.tup ([.str "begin"] ++ [.int (c.1 : Int), .ref bm]));refine k (.beg c.1 c.2) _ _ ?_ (s1.trans (s2.trans (s3.trans s4))) ⟨q, _, rfl, zf, _, _, rfl, rfl, _, _, rfl, rfl, _, _, rfl, ⟨bm, xs, rfl, s4 _ _ hbm, hxs.mono s4⟩, rfl⟩;show (match qk r with | none => none | some c => some (Deed.beg c.1 c.2)) = _;rw [z]
 · rw [vs_ne' hbg];have unf : qy (x :: r) = match qp x with | none => none | some fs => match vc fs r with | none => none | some vs => qw x vs := if_neg hbg
   refine yl ⟨ad, kvs, rfl, hkd, _, rfl, b, _, _, _, rfl, rfl, SqL.of hb, at0, x, rfl, ?_⟩;rcases hget x with ⟨hfo, hv⟩ | ⟨fs, bx, hfo, hv, hS⟩
   · rw [hv];exact ⟨_, rfl, fun _ => kn (by rw [unf, hfo]) _ (Same.refl H), fun y => absurd rfl y⟩
   rw [hv];obtain ⟨hf2, hfk, _, hxl, hsome⟩ := zkz hfo;refine ⟨_, rfl, fun y => (by cases y), fun _ => ?_⟩;refine ⟨_, rfl, b, _, _, _, rfl, rfl, SqL.of hb, at0, by show 1 ≤ sizeLine; decide, fun p hp => ?_⟩;have s1 := Same.new hp (.tup [.str x]);have g1 : upd H p (.tup [.str x]) p = some (.tup [.str x]) := zf;generalize upd H p (.tup [.str x]) = H1 at s1 g1 ⊢;refine ⟨_, rfl, _, rfl, 1, rfl, b, _, rfl, SqL.of (s1 _ _ hb), fun p2 hp2 => ?_⟩;rw [Yw];have s2 := Same.new hp2 (.lst (r.map V.str));have g2 : upd H1 p2 (.lst (r.map V.str)) p2 = some (.lst (r.map V.str)) := zf;generalize upd H1 p2 (.lst (r.map V.str)) = H2 at s2 g2 ⊢;refine ⟨bx, p2, fs, r, rfl, ⟨hfk, hre, by omega, hrl, hS _, g2⟩, fun en H3 s3 => ?_, fun us l H3 es s3 g3 => ?_⟩
   · exact ⟨_, rfl, fun _ => kn (by rw [unf, hfo]; simp only [en]) _ (s1.trans (s2.trans s3)), fun y => absurd rfl y⟩
   obtain ⟨hun, hul, d, hd, hdv, hib⟩ := hsome r us es;refine ⟨_, rfl, fun y => (by cases y), fun _ => ⟨l, _, rfl, .inl ⟨SqL.of g3, fun q hq => ?_⟩⟩⟩;have s4 := Same.new hq (.tup us);have g4 : upd H3 q (.tup us) q = some (.tup us) := zf;generalize upd H3 q (.tup us) = H4 at s4 g4 ⊢;refine ⟨p, q, _, _, rfl, rfl, SqT.of (s4 _ _ (s3 _ _ (s2 _ _ g1))), SqT.of g4, by simp, ?_, fun z => absurd z hun, fun _ u hu => ?_⟩
   · exact zw (by show 1 + _ ≤ 1000; omega)
   have s5 := Same.new hu (.tup ([.str x] ++ us));refine k d _ _ (by rw [unf, hfo]; simp only [es]; exact hd) (s1.trans (s2.trans (s3.trans (s4.trans s5)))) (zng hib ?_);rw [zf, hdv];rfl
structure Rd2 (H H' : Hp) (ls lf : Addr) (n : Nat) (a : List yb) (cs : List zm) (ps : List Addr) (ys : List V) : Prop where
 same : Same H H'
 s : H' ls = some (.lst (ps.map V.ref))
 nd : ps.Nodup
 sl : ps.length = a.length
 each : ∀ (k : Nat) (p : Addr) (s : yb), ps[k]? = some p → a[k]? = some s → H p = none ∧ p ≠ ls ∧ p ≠ lf ∧ ∃ xs, H' p = some (.lst xs) ∧ L2.IsL H' (s.map eD) xs
 f : H' lf = some (.lst ys)
 fl : L2.IsL H' (cs.map eC) ys
 la : a.length ≤ n
 lc : cs.length ≤ n
 ld : ∀ s ∈ a, s.length ≤ n
section
variable {H'' : Hp} {ls lf : Addr} {a : List yb} {cs : List zm}
theorem Rd2.mono (R : Rd2 H H' ls lf n a cs ps ys) (s : Same H' H'') : Rd2 H H'' ls lf n a cs ps ys :=
 ⟨R.same.trans s, s _ _ R.s, R.nd, R.sl, fun k p t h1 h2 => by
  obtain ⟨q1, q2, q3, xs, q4, q5⟩ := R.each k p t h1 h2;exact ⟨q1, q2, q3, xs, s _ _ q4, q5.mono s⟩, s _ _ R.f, R.fl.mono s, R.la, R.lc, R.ld⟩
theorem Q0 {z : Addr} (s : Same H H') (hz : H z = none) : Same H (upd H' z o) := fun b u e => by rw [zk (zj e hz)]; exact s _ _ e
theorem Rd2.first {c : zm} (R : Rd2 H H' ls lf n a cs ps ys) (hlf : H lf = none) (hne : ls ≠ lf) (iv : Is H' (eC c) v) : Rd2 H (upd H' lf (.lst (ys ++ [v]))) ls lf (n + 1) a (cs ++ [c]) ps (ys ++ [v]) := by
 have tp : xk H' (upd H' lf (.lst (ys ++ [v]))) := xk.upd R.f (fun zs z => by cases z);refine ⟨Q0 R.same hlf, by rw [zk hne]; exact R.s, R.nd, R.sl, fun k p t h1 h2 => ?_, zf, ?_, Nat.le_succ_of_le R.la, ?_, fun s hs => Nat.le_succ_of_le (R.ld s hs)⟩
 · obtain ⟨q1, q2, q3, xs, q4, q5⟩ := R.each k p t h1 h2;exact ⟨q1, q2, q3, xs, by rw [zk q3]; exact q4, q5.tups tp (Yf t)⟩
 · rw [az];have h1 := R.fl.tups tp (zdj cs);have h2 : L2.IsL (upd H' lf (.lst (ys ++ [v]))) [eC c] [v] := (show L2.IsL H' [eC c] [v] from IsL.one iv).tups tp (zdj [c]);exact IsL.append h1 h2
 · rw [ar]; exact Nat.succ_le_succ R.lc
theorem Rd2.script (R : Rd2 H H' ls lf n a cs ps ys) (hls : H ls = none) (hne : ls ≠ lf) (hp : H' p = none) : Rd2 H (upd (upd H' p (.lst [])) ls (.lst (ps.map V.ref ++ [.ref p]))) ls lf (n + 1) (a ++ [[]]) cs (ps ++ [p]) ys := by
 have R1 := R.mono (Same.new hp (.lst []));have pl : p ≠ ls := fun z => by rw [z, R.s] at hp; cases hp
 have pf : p ≠ lf := fun z => by rw [z, R.f] at hp; cases hp
 have hpp : p ∉ ps := fun hm => by
  obtain ⟨k, hk⟩ := List.mem_iff_getElem?.mp hm;have hka : k < a.length := by
   have := (c9.mp hk).1;rw [R.sl] at this;exact this
  obtain ⟨_, _, _, xs, q4, _⟩ := R.each k p _ hk (be hka);rw [hp] at q4;cases q4
 have hpH : H p = none := by
  cases z : H p with
  | none => rfl
  | some o => rw [R.same _ _ z] at hp; cases hp
 have g1 : upd H' p (.lst []) p = some (.lst []) := zf;generalize upd H' p (.lst []) = H1 at R1 g1 ⊢;have tp : xk H1 (upd H1 ls (.lst (ps.map V.ref ++ [.ref p]))) := xk.upd R1.s (fun zs z => by cases z);refine ⟨Q0 R1.same hls, by rw [zf, az]; rfl, ?_, ?_, fun k q t h1 h2 => ?_, by rw [zk (ak hne)]; exact R1.f, R1.fl.tups tp (zdj cs), ?_, Nat.le_succ_of_le R.lc, fun s hs => ?_⟩
 · rw [List.nodup_append];refine ⟨R.nd, by simp, fun x hx y hy e => ?_⟩;rw [av] at hy;subst hy e;exact hpp hx
 · rw [ar, ar, R.sl]; rfl
 · by_cases hk : k < ps.length
   · rw [d0 hk] at h1;rw [d0 (by rw [← R.sl]; exact hk)] at h2;obtain ⟨q1, q2, q3, xs, q4, q5⟩ := R1.each k q t h1 h2;exact ⟨q1, q2, q3, xs, by rw [zk q2]; exact q4, q5.tups tp (Yf t)⟩
   · rw [List.getElem?_append_right (by omega)] at h1;rw [List.getElem?_append_right (by rw [← R.sl]; omega)] at h2;have hkl := (c9.mp h1).1;rw [ce] at hkl;have h0 : k - ps.length = 0 := by omega
     rw [h0] at h1;rw [← R.sl, h0] at h2;cases h1;cases h2;exact ⟨hpH, pl, pf, [], by rw [zk pl]; exact g1, rfl⟩
 · rw [ar]; exact Nat.succ_le_succ R.la
 · rcases ba.mp hs with h | h
   · exact Nat.le_succ_of_le (R.ld s h)
   · rw [av.mp h]; exact bd _
theorem Rd2.deed {s : yb} {d : Deed} {xs : List V} (R : Rd2 H H' ls lf n (a ++ [s]) cs ps ys) (hp : ps[a.length]? = some p) (hx : H' p = some (.lst xs)) (iv : Is H' (eD d) v) : Rd2 H (upd H' p (.lst (xs ++ [v]))) ls lf (n + 1) (a ++ [s ++ [d]]) cs ps ys := by
 have tp : xk H' (upd H' p (.lst (xs ++ [v]))) := xk.upd hx (fun zs z => by cases z);obtain ⟨p1, p2, p3, xs', p4, p5⟩ := R.each a.length p s hp (by rw [List.getElem?_append_right (ai _), Nat.sub_self]; rfl);rw [hx] at p4;cases p4;have hsl := R.sl;rw [ar, ce] at hsl;refine ⟨Q0 R.same p1, by rw [zk (ak p2)]; exact R.s, R.nd, ?_, fun k q t h1 h2 => ?_, by rw [zk (ak p3)]; exact R.f, R.fl.tups tp (zdj cs), ?_, Nat.le_succ_of_le R.lc, fun t ht => ?_⟩
 · rw [ar, ce]; exact hsl
 · by_cases hk : k < a.length
   · rw [d0 hk] at h2;obtain ⟨q1, q2, q3, zs, q4, q5⟩ := R.each k q t h1 (by rw [d0 hk]; exact h2);have hqp : q ≠ p := fun z => by
      subst z;have := (List.getElem?_inj (by omega) R.nd).mp (h1.trans hp.symm);omega
     exact ⟨q1, q2, q3, zs, by rw [zk hqp]; exact q4, q5.tups tp (Yf t)⟩
   · have hkl := (c9.mp h2).1;rw [ar, ce] at hkl;have h0 : k = a.length := by omega
     subst h0;rw [List.getElem?_append_right (ai _), Nat.sub_self] at h2;cases h2;rw [hp] at h1;cases h1;refine ⟨p1, p2, p3, _, zf, ?_⟩;rw [az];exact IsL.append (p5.tups tp (Yf s)) ((show L2.IsL H' [eD d] [v] from IsL.one iv).tups tp (Yf [d]))
 · have := R.la;rw [ar, ce] at this ⊢;omega
 · rcases ba.mp ht with h | h
   · exact Nat.le_succ_of_le (R.ld t (dk _ h))
   · rw [av.mp h, ar];exact Nat.succ_le_succ (R.ld s (ck _ (av.mpr rfl)))
end
abbrev Wb : Stmt := top 65
structure RowOk (ws : List Str) : Prop where
 ne : ws ≠ []
 few : ws.length ≤ 14
 each : ∀ x ∈ ws, x.length ≤ 1000 ∧ Cln x
structure RowsAt (H : Hp) (b : Addr) (qs : List Addr) (rows : List (List Str)) : Prop where
 at' : H b = some (.lst (qs.map V.ref))
 len : qs.length = rows.length
 each : ∀ (k : Nat) (q : Addr) (ws : List Str), qs[k]? = some q → rows[k]? = some ws → H q = some (.lst (ws.map V.str))
 ok : ∀ ws ∈ rows, RowOk ws
 few : rows.length ≤ 400
noncomputable def zqt (cT : Addr) : Sp := fun vs H Q E => ∃ b qs rows, vs = [.ref b] ∧ RowsAt H b qs rows ∧ (yk [] [] rows = none → ∀ H', Same H H' → E (.ref cT) none H') ∧
 ∀ ss fs q vf vss H', yk [] [] rows = some (ss, fs) → Same H H' → H' q = some (.tup [vf, vss]) → Is H' (.tup (fs.map eC)) vf → Is H' (.tup (ss.map eS)) vss → Q (.ref q) H'
noncomputable def rTo (K : PySem.W.Frag) : List V → Hp → VK → Prop := fun xs H Q => ∃ p ys, xs = [.ref p] ∧ ((SqL K H p ys ∧ ∀ l, H l = none → Q (.ref l) (upd H l (.tup ys))) ∨ (SqT K H p ys ∧ Q (.ref p) H))
theorem zno {x : V} : ∀ xs : List V, atI (xs ++ [x]) (-1) = some x := fun xs => by
 unfold atI ixN;have h : (xs ++ [x]).length = xs.length + 1 := by simp
 rw [h, if_neg (by decide), if_pos (by omega)];have e : ((-1 : Int) + ((xs.length + 1 : Nat) : Int)).toNat = xs.length := by omega
 rw [e];show (xs ++ [x])[xs.length]? = some x;rw [List.getElem?_append_right (ai _), Nat.sub_self];rfl
theorem zec {ss : List yb} {cs : List zm} : wz ss cs ("FIRST" :: r) = match qk r with | none => none | some c => some (ss, cs ++ [c]) := if_pos rfl
theorem Vu {ss : List yb} {cs : List zm} (h : x ≠ "FIRST") (hc : cs ≠ []) : wz ss cs (x :: r) = none := by
 unfold wz;rw [if_neg (by simpa using h), if_pos (by cases cs with | nil => exact absurd rfl hc | cons => rfl)]
theorem Kk {ss : List yb} (h : x ≠ "FIRST") (hs : x :: r ≠ [("SCRIPT" : Str)]) : wz ss [] (x :: r) = if ss.isEmpty then none else match qy (x :: r) with | none => none | some d => some (W3 ss d, []) := by
 unfold wz;rw [if_neg (by simpa using h), if_neg (by simp), if_neg hs] <;> rfl
theorem Qt {α : Type} : ∀ {l : List α}, l ≠ [] → ∃ a s, l = a ++ [s]
 | [], h => absurd rfl h
 | x :: r, _ => by
   cases r with
   | nil => exact ⟨[], x, rfl⟩
   | cons y r =>
     obtain ⟨a, s, e⟩ := Qt (l := y :: r) (by simp);exact ⟨x :: a, s, by rw [e]; rfl⟩
theorem Kl : FnScope ["rows", "scripts", "firsts", "words"] ["rows"] (zi Wb) := .of
theorem zhc (D : Def K mg "read_scripts_and_firsts" Wb) (T : Txt K mg) (O : OwnErr K mg base "NoText" cT) (o1 : OkX P w K mg base "read_calling" 5 ["words"] (zoi cT)) (o2 : OkX P w K mg base "read_deed" 6 ["words"] (zqw cT)) : OkX P w K mg base "read_scripts_and_firsts" 7 ["rows"] (zqt cT) := by
 refine Wn D Kl (fun vs H Q E ⟨_, _, _, e, _⟩ => by rw [e]; rfl) fun f cdv A outer s H vs Q E hr h => ?_;obtain ⟨b, qs, rows, rfl, B, kn, k⟩ := h;have nd := Kl.nd;have r5 := hr.mono (show 5 ≤ 6 by decide);refine ⟨_, ze (zr (i := 1) nd rfl (Or.inl rfl) (yr zd))
  (ze (zr (i := 2) nd rfl (Or.inl rfl) (yr zd))
  (ze (wr PassesOwn.leaving rfl (jg (pv 0)) (yd (i := 3) nd rfl (Or.inl rfl))
   (zh (yh (zu wo (zp yi (pv 3) zg (fun _ _ => rfl)) zl (ye _))
    (zh (yy (wn PySem.F.plainAttrs_list PySem.F.slot_list_append PySem.F.type_list_append xb (pv 2) (zc (vg o1 wk r5 (zc (wg je (pv 3) (w5 zg) w6) zd)) zd))))
    (zh (yh (Q3 (pv 2) (fun _ => rfl)) (zh (We O rfl))
     (zh (yh (zu (zf0 hr.units) (pv 3) (yr (zc zl zd)) (ye _))
      (zh (yy (wn PySem.F.plainAttrs_list PySem.F.slot_list_append PySem.F.type_list_append xb (pv 1) (zc (yr zd) zd))))
      (zh (yh (Q3 (pv 1) (fun _ => rfl))
       (zh (yy (wn PySem.F.plainAttrs_list PySem.F.slot_list_append PySem.F.type_list_append xb (zp yi (pv 1) (zfw zam zg) (fun _ _ => rfl)) (zc (vg o2 wk hr (zc (pv 3) zd)) zd))))
       (zh (We O rfl)))))))))))
  (zh (zn (xu (zc (yo yv rfl T.tuple wy (zc (pv 2) zd)) (zc (yo yv rfl T.tuple wy (zc (Yd (own := ["deeds"]) (cap := []) rfl (xr (zi Wb) rfl rfl (by decide +kernel) (by decide +kernel) (by decide +kernel) trivial) (jg (pv 1))
   (fun _ _ _ _ => yd (i := 0) (by show (["deeds"] : List Str).Nodup; decide +kernel) rfl (Or.inl rfl)) (fun _ _ _ _ => wa) (fun _ _ _ _ => yo (r := rTo K) yv rfl T.tuple wy (zc (pv 0) zd))) zd)) zd))))))), ?_⟩
 refine ⟨bd _, fun ls hls => ?_⟩;have s1 := Same.new hls (.lst []);have g1 : upd H ls (.lst []) ls = some (.lst []) := zf;generalize upd H ls (.lst []) = H1 at s1 g1 ⊢;refine ⟨bd _, fun lf hlf => ?_⟩;have hne : ls ≠ lf := zj g1 hlf;have hlfH : H lf = none := by
  cases z : H lf with
  | none => rfl
  | some o => rw [s1 _ _ z] at hlf; cases hlf
 have s2 := Same.new hlf (.lst []);have g2 : upd H1 lf (.lst []) lf = some (.lst []) := zf;have R0 : Rd2 H (upd H1 lf (.lst [])) ls lf 0 [] [] [] [] := ⟨s1.trans s2, s2 _ _ g1, List.nodup_nil, rfl, fun k p s h => (by cases h), g2, rfl, ai _, ai _, fun s hs => (by cases hs)⟩
 generalize upd H1 lf (.lst []) = H2 at R0 ⊢;have hfew := B.few;have hql := B.len;refine ⟨_, rfl, b, rfl, ⟨_, SqL.of (R0.same _ _ B.at')⟩, ?_⟩;refine Ww (xs := qs.map V.ref) (fun i σ H' => i ≤ qs.length ∧ ∃ a cs ps ys, Rd2 H H' ls lf i a cs ps ys ∧ yk [] [] rows = yk a cs (rows.drop i) ∧ ∃ x3, σ = [some (.ref b), some (.ref ls), some (.ref lf), x3]) ⟨bd _, [], [], [], [], R0, rfl, none, rfl⟩ (fun i σ H' _ ⟨_, _, _, _, _, R, _⟩ => SqL.of (R.same _ _ B.at')) ?_ ?_
 · rintro i x σ H3 hx ⟨hi, a, cs, ps, ys, R, Rr, x3, rfl⟩;rw [ay] at hx;cases eq : qs[i]? with
   | none => rw [eq] at hx; cases hx
   | some q =>
   rw [eq] at hx;cases hx;have hil : i < rows.length := by rw [← hql]; exact (c9.mp eq).1
   have hlt : i + 1 ≤ qs.length := by omega
   have hit : rows[i]? = some rows[i] := be hil;have hrow := R.same _ _ (B.each i q _ eq hit);have hok := B.ok _ (List.getElem_mem hil);rw [List.drop_eq_getElem_cons hil, qx] at Rr;have hla := R.la;have hlc := R.lc;generalize rows[i] = ws at hrow hok Rr;have hwn := hok.ne;cases ws with
   | nil => exact absurd rfl hwn
   | cons w0 r =>
   have hrow' : H3 q = some (.lst (.str w0 :: r.map V.str)) := hrow;have hwf := hok.few;have hrl : r.length ≤ 20 := by rw [bi] at hwf; omega
   have hre : ∀ y ∈ r, y.length ≤ 1000 := fun y hy => (hok.each y (aq _ hy)).1;refine ⟨_, rfl, q, _, _, _, rfl, rfl, SqL.of hrow', at0, rfl, _, rfl, ?_⟩;by_cases hF : w0 = "FIRST"
   · subst hF;rw [au rfl];rw [zec] at Rr;refine yp ⟨_, rfl, .inl ⟨rfl, _, SqL.of R.f⟩, _, rfl, 1, rfl, q, _, rfl, SqL.of hrow', fun p2 hp2 => ?_⟩;rw [Yw];have R4 := R.mono (Same.new hp2 (.lst (r.map V.str)));have g4 : upd H3 p2 (.lst (r.map V.str)) p2 = some (.lst (r.map V.str)) := zf;generalize upd H3 p2 (.lst (r.map V.str)) = H4 at R4 g4 ⊢;refine ⟨p2, r, rfl, hrl, hre, g4, fun z H5 s5 => kn ?_ _ (R4.mono s5).same, fun c v H5 z s5 iv => ?_⟩
     · rw [Rr, z]
     rw [z] at Rr;have R5 := R4.mono s5;refine ⟨lf, _, _, rfl, rfl, R5.f, ?_, hlt, _, _, _, _, R5.first hlfH hne iv, Rr, _, rfl⟩;have := R5.fl.length;rw [ae] at this;rw [this];exact y7 (by omega)
   rw [vs_ne' hF];refine yl ?_;have hyl := R.fl.length;rw [ae] at hyl;by_cases hcs : cs = [];rotate_left
   · have hyn : ys.isEmpty = false := by
      cases ys with
      | nil => exact absurd (dm.mp hyl.symm) hcs
      | cons => rfl
     rw [Vu hF hcs] at Rr;exact ⟨_, rfl, true, .inl ⟨_, SqL.of R.f, by rw [hyn]; rfl⟩, yp (kn Rr _ R.same)⟩
   subst hcs;have fe : ys = [] := dm.mp hyl;subst fe;refine ⟨_, rfl, false, .inl ⟨_, SqL.of R.f, rfl⟩, yl ⟨_, rfl, by show 1 ≤ sizeLine; decide, fun p2 hp2 => ?_⟩⟩;have R4 := R.mono (Same.new hp2 (.lst [.str "SCRIPT"]));have sq := Same.new hp2 (.lst [.str "SCRIPT"]) _ _ hrow;have g4 : upd H3 p2 (.lst [.str "SCRIPT"]) p2 = some (.lst [.str "SCRIPT"]) := zf;generalize upd H3 p2 (.lst [.str "SCRIPT"]) = H4 at R4 g4 sq ⊢;have cl : ∀ t ∈ [("SCRIPT" : Str)], Cln t := fun t ht => by rw [av.mp ht]; exact wb (by decide +kernel)
   refine ⟨V6 (w0 :: r), V6 ["SCRIPT"], Qk sq, Qk (ws := ["SCRIPT"]) g4, Wt (fun t ht => (hok.each t ht).2), Wt cl, Jr _, ?_⟩;rw [zdo];refine ⟨_, rfl, ?_⟩;by_cases hS : w0 :: r = [("SCRIPT" : Str)]
   · rw [au hS];rw [hS, zb0] at Rr;refine yp ⟨_, rfl, .inl ⟨rfl, _, SqL.of R4.s⟩, bd _, fun p5 hp5 => ?_⟩;have R6 := R4.script hls hne hp5;have g5 := (Same.new hp5 (.lst [])) _ _ R4.s;refine ⟨ls, _, _, rfl, rfl, g5, ?_, hlt, _, _, _, _, R6, Rr, _, rfl⟩;rw [ae, R4.sl];exact y7 (by omega)
   rw [bn hS];rw [Kk hF hS] at Rr;refine yl ?_;by_cases ha : a = []
   · subst ha;have hpe : ps = [] := dm.mp R4.sl;subst hpe;exact ⟨_, rfl, false, .inl ⟨_, SqL.of R4.s, rfl⟩, yl (kn Rr _ R4.same)⟩
   obtain ⟨a, s, rfl⟩ := Qt ha;have hne' : (a ++ [s]).isEmpty = false := by simp
   rw [hne', if_neg c8] at Rr;have hsl := R4.sl;rw [ar, ce] at hsl;obtain ⟨p, hp⟩ : ∃ p, ps[a.length]? = some p := ⟨_, be (by omega)⟩
   have eps : ps = ps.take a.length ++ [p] := by
    conv => lhs; rw [← List.take_append_drop a.length ps]
    congr 1;rw [List.drop_eq_getElem_cons (by omega), List.drop_eq_nil_of_le (by omega)];rw [be (by omega)] at hp;cases hp;rfl
   have gs := R4.s;rw [eps, az] at gs;obtain ⟨p1, p2', p3, xs, hpx, hxs⟩ := R4.each a.length p s hp (by rw [List.getElem?_append_right (ai _), Nat.sub_self]; rfl);have hxl := hxs.length;rw [ae] at hxl;have hsn := R4.ld s (ck _ (av.mpr rfl));refine ⟨_, rfl, true, .inl ⟨_, SqL.of gs, by simp⟩, yp ⟨_, rfl, 1, rfl, ls, _, _, _, rfl, rfl, SqL.of gs, zno _, .inl ⟨rfl, _, SqL.of hpx⟩, _, rfl, q, w0 :: r, rfl, hwn, by omega, fun y hy => (hok.each y hy).1, sq, fun z H5 s5 => kn ?_ _ (R4.mono s5).same, fun d v H5 z s5 iv => ?_⟩⟩
   · rw [Rr, z]
   rw [z] at Rr;have Rr : yk [] [] rows = yk (W3 (a ++ [s]) d) [] (rows.drop (i + 1)) := Rr;rw [zd0] at Rr;have R5 := R4.mono s5;refine ⟨p, _, _, rfl, rfl, s5 _ _ hpx, ?_, hlt, _, _, _, _, R5.deed hp (s5 _ _ hpx) iv, Rr, _, rfl⟩;rw [hxl];exact y7 (by omega)
 rintro σ H3 ⟨_, a, cs, ps, ys, R, Rr, x3, rfl⟩;rw [ae, hql, List.drop_length] at Rr;have Rr : yk [] [] rows = some (a, cs) := Rr;have hla := R.la;rw [ae] at hla;refine ⟨_, rfl, lf, ys, rfl, .inl ⟨SqL.of R.f, fun q4 hq4 => ?_⟩⟩;have R4 := R.mono (Same.new hq4 (.tup ys));have g4 : upd H3 q4 (.tup ys) q4 = some (.tup ys) := zf;generalize upd H3 q4 (.tup ys) = H4 at R4 g4 ⊢;refine ⟨_, rfl, ls, rfl, ⟨_, SqL.of R4.s⟩, ?_⟩;refine Y4 (xs := ps.map V.ref) (fun i zs H' => Same H4 H' ∧ L2.IsL H' ((a.take i).map eS) zs) ⟨Same.refl H4, rfl⟩ (fun i zs H' hi ⟨s', e⟩ => ⟨SqL.of (s' _ _ R4.s), by rw [e.length, ae, cg]; exact zw (by omega)⟩) ?_ ?_
 · rintro i y zs H5 hy ⟨s5, e⟩;refine Vq ?_;rw [ay] at hy;cases ep : ps[i]? with
   | none => rw [ep] at hy; cases hy
   | some p =>
   rw [ep] at hy;cases hy;have hia : i < a.length := by rw [← R4.sl]; exact (c9.mp ep).1
   have es : a[i]? = some a[i] := be hia;obtain ⟨_, _, _, xs, hpx, hxs⟩ := R4.each i p _ ep es;generalize a[i] = sc at es hxs;refine ⟨_, rfl, p, xs, rfl, .inl ⟨SqL.of (s5 _ _ hpx), fun u hu => ?_⟩⟩;have s6 := Same.new hu (.tup xs);refine ⟨s5.trans s6, ?_⟩;rw [cm, es, az];exact IsL.append (e.mono s6) (IsL.one ⟨u, xs, rfl, zf, (hxs.mono s5).mono s6⟩)
 rintro zs H5 ⟨s5, e⟩ l5 hl5;rw [ae, R4.sl, ci] at e;have s6 := Same.new hl5 (.lst zs);have g6 : upd H5 l5 (.lst zs) l5 = some (.lst zs) := zf;generalize upd H5 l5 (.lst zs) = H6 at s6 g6 ⊢;refine ⟨l5, zs, rfl, .inl ⟨SqL.of g6, fun q7 hq7 => ?_⟩⟩;have s7 := Same.new hq7 (.tup zs);have g7 : upd H6 q7 (.tup zs) q7 = some (.tup zs) := zf;generalize upd H6 q7 (.tup zs) = H7 at s7 g7 ⊢;refine ⟨by show 2 ≤ sizeLine; decide, fun q8 hq8 => ?_⟩;have s8 := Same.new hq8 (.tup [.ref q4, .ref q7]);have s48 := s5.trans (s6.trans (s7.trans s8));exact k a cs _ _ _ _ Rr (R4.same.trans s48) zf ⟨q4, ys, rfl, s48 _ _ g4, R4.fl.mono s48⟩ ⟨q7, zs, rfl, s8 _ _ g7, ((e.mono s6).mono s7).mono s8⟩
abbrev kz : Stmt := top 66
noncomputable def vw (rows : List (List Str)) : Str := PySem.Txt.join nl (rows.map zq)
theorem zm1 (h : RowOk ws) : PySem.Txt.split (zq ws) sp = ws := Qu h.ne fun t ht hm => ((h.each t ht).2 32 hm).2.1 rfl
theorem zm2 (h : RowOk ws) : 10 ∉ (zq ws).cps.toList := by
 have hn := h.ne;cases ws with
 | nil => exact absurd rfl hn
 | cons x l =>
   rw [Zo];intro hm;rcases ba.mp hm with hm | hm
   · exact ((h.each x ao).2 10 hm).1 rfl
   · obtain ⟨p, hp, hm⟩ := List.mem_flatMap.mp hm;rcases ag.mp hm with hm | hm
     · cases hm
     · exact ((h.each p (aq _ hp)).2 10 hm).1 rfl
theorem Wq (h : RowOk ws) : (zq ws).length ≤ 14014 := by
 have h1 := Zp (sep := sp) (xs := ws) 1001 fun t ht => by
  have := (h.each t ht).1;show t.length + 1 ≤ 1001;omega
 have h2 : ws.length * 1001 ≤ 14 * 1001 := Nat.mul_le_mul_right _ h.few;exact bp h1 (by omega)
structure RowsOk (rows : List (List Str)) : Prop where
 ne : rows ≠ []
 few : rows.length ≤ 400
 each : ∀ ws ∈ rows, RowOk ws
theorem Qq {rows : List (List Str)} (h : RowsOk rows) : PySem.Txt.split (vw rows) nl = rows.map zq := Qu (fun z => h.ne (List.map_eq_nil_iff.mp z)) fun t ht => by
 obtain ⟨ws, hw, rfl⟩ := ax.mp ht;exact zm2 (h.each ws hw)
theorem zis {rows : List (List Str)} (h : RowsOk rows) : (vw rows).length ≤ sizeLine := by
 have h3 := Zp (sep := nl) (xs := rows.map zq) 14015 fun x hx => by
  obtain ⟨ws, hw, rfl⟩ := ax.mp hx;have := Wq (h.each ws hw);show _ + 1 ≤ 14015;omega
 rw [ae] at h3;have : rows.length * 14015 ≤ 400 * 14015 := Nat.mul_le_mul_right _ h.few;exact bp h3 (bp this (by decide))
noncomputable def zok (cH : Addr) : Sp := fun vs H Q E => ∃ t v, vs = [v] ∧ Is H t v ∧ Wh t ∧ ((mWf t = false ∧ ∀ H', Same H H' → E (.ref cH) none H') ∨ ∃ h, t = eH h ∧ Good h ∧ mHs h = true ∧ ∀ H', Same H H' → Q .non H')
noncomputable def zqq (cH : Addr) : Sp := fun vs H Q E => ∃ t v, vs = [v] ∧ Is H t v ∧ Wh t ∧ mWf t = false ∧ ∀ H', Same H H' → E (.ref cH) none H'
noncomputable def zoj (cT cH : Addr) : Sp := fun vs H Q E => ∃ rows, vs = [.str (vw rows)] ∧ RowsOk rows ∧ (w4 rows = none → ∀ H', Same H H' → E (.ref cT) none H') ∧
 ∀ h, w4 rows = some h → Wh (eH h) ∧ ((mWf (eH h) = false ∧ ∀ H', Same H H' → E (.ref cH) none H') ∨ (Good h ∧ mHs h = true ∧ ∀ v H', Same H H' → Is H' (eH h) v → Q v H'))
theorem zar : FnScope ["thing"] ["thing"] (zi Yl) := .of
theorem za2 (D : Def K mg "need_house" Yl) (T : Txt K mg) (O : OwnErr K mg base "NoHouse" cH) (o1 : Ok P w K mg base "is_house" 22 ["thing"] zq2) : OkX P w K mg base "need_house" 23 ["thing"] (zok cH) := by
 refine Wn D zar (fun vs H Q E ⟨_, _, e, _⟩ => by rw [e]; rfl) fun f cdv A outer s H vs Q E hr h => ?_;obtain ⟨t, v, rfl, hv, hW, hk⟩ := h;refine ⟨_, zh (yh (xt (yz (ya o1 hr (zc (pv 0) zd)))) (zh (We O rfl)) zx), ?_⟩;rcases hk with ⟨hm, kn⟩ | ⟨h, rfl, hG, hm, kk⟩
 · exact ⟨_, rfl, t, v, rfl, hv, hW, .inr ⟨hm, fun H1 s1 => ⟨_, rfl, yp (kn H1 s1)⟩⟩⟩
 · refine ⟨_, rfl, eH h, v, rfl, hv, hW, .inl ⟨h, rfl, hG, fun H1 s1 => ⟨_, rfl, ?_⟩⟩⟩;rw [hm];exact yl (kk H1 s1)
theorem sc_showHouse' : FnScope ["house", "boxes", "walls", "lines", "script"] ["house"] (zi Yk) := .of
theorem ok_showHouse' (D : Def K mg "show_house" Yk) (o1 : OkX P w K mg base "need_house" 23 ["thing"] (zok cH)) : OkX P w K mg base "show_house" 24 ["house"] (zqq cH) := by
 refine Wn D sc_showHouse' (fun vs H Q E ⟨_, _, e, _⟩ => by rw [e]; rfl) fun f cdv A outer s H vs Q E hr h => ?_;obtain ⟨t, v, rfl, hv, hW, hm, kn⟩ := h;refine ⟨_, ze (yy (vg o1 wk hr (zc (pv 0) zd))) zg8, ?_⟩;exact ⟨_, rfl, t, v, rfl, hv, hW, .inl ⟨hm, kn⟩⟩
theorem X9 : FnScope ["text", "rows", "house"] ["text"] (zi kz) := .of
theorem za1 (D : Def K mg "read_house" kz) (T : Txt K mg) (o1 : OkX P w K mg base "read_head" 5 ["words"] (zqv cT)) (o2 : OkX P w K mg base "read_scripts_and_firsts" 7 ["rows"] (zqt cT)) (o3 : OkX P w K mg base "need_house" 23 ["thing"] (zok cH)) : OkX P w K mg base "read_house" 24 ["text"] (zoj cT cH) := by
 refine Wn D X9 (fun vs H Q E ⟨_, e, _⟩ => by rw [e]; rfl) fun f cdv A outer s H vs Q E hr h => ?_;obtain ⟨rows, rfl, hR, kn, k⟩ := h;have nd := X9.nd;have r5 := hr.mono (show 5 ≤ 23 by decide);have r7 := hr.mono (show 7 ≤ 23 by decide);refine ⟨_, ze (yh (xt (yz (Ys T.isi T.str js (pv 0)))) (zh zcc) zx)
  (ze (zcd (i := 1) (own := ["line"]) (cap := []) (te := tBM K "str" zjk (zao 0) (Yi (tC (.str " ")) zea)) rfl (xr (zi kz) rfl rfl (by decide +kernel) (by decide +kernel) (by decide +kernel) trivial) (jg (wn PySem.F.plainAttrs_str PySem.F.slot_str_split PySem.F.type_str_split Jb (pv 0) (zc zl zd)))
   (fun _ _ _ _ => yd (i := 0) (by show (["line"] : List Str).Nodup; decide +kernel) rfl (Or.inl rfl)) (fun _ _ _ _ => wa) (fun _ _ _ _ => wn PySem.F.plainAttrs_str PySem.F.slot_str_split PySem.F.type_str_split Jb (pv 0) (zc zl zd)) nd rfl rfl (by with_unfolding_all rfl))
  (ze (zr (i := 2) nd rfl (Or.inl rfl) (yc Qf (vg o1 wk r5 (zc (zp yi (pv 1) zg (fun _ _ => rfl)) zd)) (vg o2 wk r7 (zc (wg je (pv 1) (w5 zg) w6) zd))))
  (ze (yy (vg o3 wk hr (zc (pv 2) zd)))
  (zh (zn (pv 2)))))), ?_⟩
 refine ⟨_, rfl, _, "str", _, _, rfl, (show Is H (.str (vw rows)) (.str (vw rows)) from rfl).ty, Qj K (.str (vw rows)), _, rfl, yl ?_⟩;have hn := hR.few;have hsp := Qq hR;refine ⟨_, rfl, rfl, vw rows, nl, rfl, rfl, rfl, zis hR, ?_, fun l H1 s1 hl1 g1 => ?_⟩
 · rw [hsp, ae]; exact zw (by omega)
 rw [hsp] at g1;refine ⟨l, rfl, ⟨_, SqL.of g1⟩, ?_⟩;refine Y4 (xs := (rows.map zq).map V.str) (fun i zs H' => Same H1 H' ∧ ∃ qs : List Addr, zs = qs.map V.ref ∧ qs.length = i ∧ ∀ (j : Nat) (q : Addr) (ws : List Str), qs[j]? = some q → rows[j]? = some ws → H' q = some (.lst (ws.map V.str))) ⟨Same.refl H1, [], rfl, rfl, fun j q ws z => (by cases z)⟩ (fun i zs H' hi ⟨s', qs, e, el, _⟩ => ⟨SqL.of (s' _ _ g1), by rw [e, ae, el]; rw [ae, ae] at hi; exact zw (by omega)⟩) ?_ ?_
 · rintro i y zs H2 hy ⟨s2, qs, rfl, el, hq⟩;refine Vq ?_;rw [ay, ay] at hy;cases ew : rows[i]? with
   | none => rw [ew] at hy; cases hy
   | some ws =>
   rw [ew] at hy;cases hy;have hok := hR.each ws (bz ew);have hls := zm1 hok;have hl14 := hok.few;have hll := Wq hok;refine ⟨_, rfl, rfl, zq ws, sp, rfl, rfl, rfl, bp hll (by decide), by rw [hls]; exact zw (by omega), fun q H3 s3 hq3 g3 => ⟨s2.trans s3, qs ++ [q], by rw [az]; rfl, by rw [ar, el]; rfl, fun j q' ws' h1 h2 => ?_⟩⟩;rw [hls] at g3;by_cases hj : j < qs.length
   · rw [d0 hj] at h1;exact s3 _ _ (hq j q' ws' h1 h2)
   · have hjl := (c9.mp h1).1;rw [ar, ce] at hjl;have hji : j = qs.length := by omega
     subst hji;rw [List.getElem?_append_right (ai _), Nat.sub_self] at h1;cases h1;rw [el, ew] at h2;cases h2;exact g3
 rintro zs H2 ⟨s2, qs, rfl, el, hq⟩ p hp;rw [ae, ae] at el;have s3 := Same.new hp (.lst (qs.map V.ref));have g3 : upd H2 p (.lst (qs.map V.ref)) p = some (.lst (qs.map V.ref)) := zf;generalize upd H2 p (.lst (qs.map V.ref)) = H3 at s3 g3 ⊢;have s03 := s1.trans (s2.trans s3);have hne := hR.ne;cases rows with
 | nil => exact absurd rfl hne
 | cons w0 rs =>
 obtain ⟨q0, qr, rfl⟩ : ∃ q0 qr, qs = q0 :: qr := by
  cases qs with
  | nil => cases el
  | cons a r => exact ⟨a, r, rfl⟩
 have hq0 := s3 _ _ (hq 0 q0 w0 rfl rfl);have ok0 := hR.each w0 ao;rw [bh] at g3;refine ⟨_, rfl, p, _, _, _, rfl, rfl, SqL.of g3, at0, q0, w0, rfl, ok0.few, ok0.each, hq0, fun z H4 s4 => kn ?_ _ (s03.trans s4), fun pp ph H4 ep s4 g4 => ?_⟩
 · show (match xw w0 with | none => none | some p => match yk [] [] rs with | none => none | some st => some (House.mk p.1 p.2 st.2 st.1)) = none;rw [z]
 have unf : w4 (w0 :: rs) = match yk [] [] rs with | none => none | some st => some (House.mk pp.1 pp.2 st.2 st.1) := by
  show (match xw w0 with | none => none | some p => match yk [] [] rs with | none => none | some st => some (House.mk p.1 p.2 st.2 st.1)) = _;rw [ep]
 rw [unf] at kn k;refine ⟨_, rfl, 1, rfl, p, _, rfl, SqL.of (s4 _ _ g3), fun p5 hp5 => ?_⟩;rw [Yw];have s5 := Same.new hp5 (.lst (qr.map V.ref));have g5 : upd H4 p5 (.lst (qr.map V.ref)) p5 = some (.lst (qr.map V.ref)) := zf;generalize upd H4 p5 (.lst (qr.map V.ref)) = H5 at s5 g5 ⊢;have s35 := s3.trans (s4.trans s5);have s05 := s03.trans (s4.trans s5);rw [bi, bi] at el;rw [bi] at hn;refine ⟨p5, qr, rs, rfl, ⟨g5, by omega, fun j q ws h1 h2 => s35 _ _ (hq (j + 1) q ws (by simpa using h1) (by simpa using h2)), fun ws hw => hR.each ws (aq _ hw), by omega⟩, fun z H6 s6 => kn (by rw [z]) _ (s05.trans s6), fun ss fs q vf vss H6 er s6 g6 if' is' => ?_⟩;rw [er] at k;obtain ⟨hW, hk⟩ := k _ rfl;refine ⟨ph, q, _, _, rfl, rfl, SqT.of (s6 _ _ (s5 _ _ g4)), SqT.of g6, by simp, by show 4 ≤ sizeLine; decide, fun z => (by cases z), fun _ u hu => ?_⟩;have s7 := Same.new hu (.tup ([.int (pp.1 : Int), .int (pp.2 : Int)] ++ [vf, vss]));have ih : Is (upd H6 u (.tup ([.int (pp.1 : Int), .int (pp.2 : Int)] ++ [vf, vss]))) (eH (House.mk pp.1 pp.2 fs ss)) (.ref u) := ⟨u, _, rfl, zf, _, _, rfl, rfl, _, _, rfl, rfl, _, _, rfl, if'.mono s7, _, _, rfl, is'.mono s7, rfl⟩
 generalize upd H6 u (.tup ([.int (pp.1 : Int), .int (pp.2 : Int)] ++ [vf, vss])) = H7 at s7 ih ⊢;have s07 := s05.trans (s6.trans s7);rcases hk with ⟨hm, kh⟩ | ⟨hG, hm, kk⟩
 · exact ⟨_, rfl, _, _, rfl, ih, hW, .inl ⟨hm, fun H8 s8 => kh _ (s07.trans s8)⟩⟩
 · exact ⟨_, rfl, _, _, rfl, ih, hW, .inr ⟨_, rfl, hG, hm, fun H8 s8 => ⟨_, rfl, kk _ _ (s07.trans s8) (ih.mono s8)⟩⟩⟩
noncomputable def Asc (x : Str) : Prop := ∀ c ∈ x.cps.toList, 33 ≤ c ∧ c ≤ 122
noncomputable def Lwr (x : Str) : Prop := ∀ c ∈ x.cps.toList, 48 ≤ c ∧ c ≤ 122 ∧ (c < 65 ∨ 90 < c)
theorem Asc.cln (h : Asc x) : Cln x := fun c hc => by have := h c hc; omega
theorem Lwr.asc (h : Lwr x) : Asc x := fun c hc => by have := h c hc; omega
theorem Qm (h : (x.cps.toList.all fun c => decide (33 ≤ c ∧ c ≤ 122)) = true) : Asc x := fun c hc => cb (cq.mp h c hc)
theorem qm (h : (x.cps.toList.all fun c => decide (48 ≤ c ∧ c ≤ 122 ∧ (c < 65 ∨ 90 < c))) = true) : Lwr x := fun c hc => cb (cq.mp h c hc)
theorem zf6 (hx : Lwr x) (hy : Lwr y) : Lwr (x ++ y) := fun c hc => by
 have hc' : c ∈ (x.cps ++ y.cps).toList := hc;rw [Array.toList_append] at hc';rcases ba.mp hc' with h | h
 · exact hx c h
 · exact hy c h
theorem qc {n : Int} (h : Num n) : Lwr (nS n) := fun c hc => by
 have := za8 h.1 h.2 hc;omega
theorem zmz {m : Mem} (h : Qc m) : Lwr (Z5 m) := by
 refine zf6 (zf6 (qc h.1) (qm (by decide +kernel))) ?_;rcases h.2 with e | e | e <;> rw [e] <;> exact qm (by decide +kernel)
theorem zf5 {c : zm} (h : Qd c) : ∀ t ∈ nS (c.1 : Int) :: c.2.map Z5, Lwr t := fun t ht => by
 rcases ag.mp ht with rfl | ht
 · exact qc (jy h)
 · obtain ⟨m, hm, rfl⟩ := ax.mp ht;exact zmz (h.2.2 m hm)
theorem zfk {P : Str → Prop} (hx : P x) (hy : P y) : ∀ t ∈ [x, y], P t := fun t ht => by
 rcases ag.mp ht with rfl | ht
 · exact hx
 · rw [av.mp ht]; exact hy
theorem zp6 {P : Str → Prop} (hx : P x) (hy : P y) (hz : P z) : ∀ t ∈ [x, y, z], P t := fun t ht => by
 rcases ag.mp ht with rfl | ht
 · exact hx
 · exact zfk hy hz t ht
theorem zrv (h : x = "a" ∨ x = "come" ∨ x = "go" ∨ x = "zzzzzzzz" ∨ x = "abcdefghi") : Lwr x := by
 rcases h with rfl | rfl | rfl | rfl | rfl <;> exact qm (by decide +kernel)
theorem zkg {d : Deed} (h : Yx d) : ∀ t ∈ dW d, Lwr t := by
 cases d with
 | rai i j => exact zp6 (qm (by decide +kernel)) (qc h.1) (qc h.2)
 | awa i j => exact zp6 (qm (by decide +kernel)) (qc h.1) (qc h.2)
 | com i => exact zfk (qm (by decide +kernel)) (qc h)
 | goo i => exact zfk (qm (by decide +kernel)) (qc h)
 | lea i => exact zfk (qm (by decide +kernel)) (qc h)
 | wor i => exact zfk (qm (by decide +kernel)) (qc h)
 | say x => exact zfk (qm (by decide +kernel)) (zrv h)
 | beg n ms =>
   intro t ht;rcases ag.mp ht with rfl | ht
   · exact qm (by decide +kernel)
   · exact zf5 (c := (n, ms)) h t ht
inductive Kind (h : House) : List Str → Prop
 | head : Kind h (jp h)
 | scr : Kind h ["SCRIPT"]
 | ded (d : Deed) : Yx d → zbt d → Kind h (dW d)
 | fst (c : zm) : Qd c → (∀ m ∈ c.2, Low m) → Kind h (cW "FIRST" c)
theorem zbf {h : House} (hh : HouT h) (hl : LowH h) : ∀ ws ∈ zy h, Kind h ws := fun ws hw => by
 rcases ag.mp hw with rfl | hw
 · exact .head
 rcases ba.mp hw with hw | hw
 · obtain ⟨s, hs, hm⟩ := List.mem_flatMap.mp hw;rcases ag.mp hm with rfl | hm
   · exact .scr
   · obtain ⟨d, hd, rfl⟩ := ax.mp hm;exact .ded d ((hh.s s hs).2 d hd) (hl.s s hs d hd)
 · obtain ⟨c, hc, rfl⟩ := ax.mp hw;exact .fst c (hh.f c hc) (hl.f c hc)
theorem Jg {h : House} (hh : HouT h) (k : Kind h ws) : ws ≠ [] ∧ ∀ t ∈ ws, Asc t := by
 cases k with
 | head =>
   refine ⟨by simp [jp], fun t ht => ?_⟩;rcases ag.mp ht with rfl | ht
   · exact Qm (by decide +kernel)
   · exact zp6 (qc hh.b).asc (Qm (by decide +kernel)) (qc hh.w).asc t ht
 | scr => exact ⟨by simp, fun t ht => by rw [av.mp ht]; exact Qm (by decide +kernel)⟩
 | ded d h1 h2 =>
   obtain ⟨r, er, _⟩ := zds (d := d);exact ⟨by rw [er]; simp, fun t ht => (zkg h1 t ht).asc⟩
 | fst c h1 h2 =>
   refine ⟨by simp [cW], fun t ht => ?_⟩;rcases ag.mp ht with rfl | ht
   · exact Qm (by decide +kernel)
   · exact (zf5 h1 t ht).asc
theorem Vg {h : House} (hh : HouT h) (hl : LowH h) : ∀ ws ∈ zy h, RowOk ws := fun ws hw => by
 obtain ⟨h1, h2⟩ := Jg hh (zbf hh hl ws hw);obtain ⟨h3, h4⟩ := (xa hh).2 ws hw;exact ⟨h1, by omega, fun x hx => ⟨by have := h4 x hx; omega, (h2 x hx).cln⟩⟩
theorem Qe {h : House} (hh : HouT h) (hl : LowH h) : RowsOk (zy h) := ⟨by simp [zy], by have := (xa hh).1; omega, Vg hh hl⟩
theorem zbz (h : House) : wq h = vw (zy h) := rfl
noncomputable def low (x : Str) : Str := ⟨x.cps.map lo1⟩
theorem Zn (x : Str) : (low x).cps.toList = x.cps.toList.map lo1 := by
 show (x.cps.map lo1).toList = _;rw [Array.toList_map]
theorem ze1 (h : x.cps.toList.map lo1 = y.cps.toList) : low x = y := toList_inj (by rw [Zn]; exact h)
theorem zo8 (h : Lwr x) : low x = x := by
 apply toList_inj;rw [Zn]
 conv => rhs; rw [← List.map_id x.cps.toList]
 refine List.map_congr_left fun c hc => ?_;have := h c hc;show lo1 c = c;unfold lo1;rw [if_neg (by omega)]
theorem Jd (hn : ws ≠ []) (h : ∀ t ∈ ws, Asc t) : PySem.Txt.lower (zq ws) = zq (ws.map low) := by
 cases ws with
 | nil => exact absurd rfl hn
 | cons x l =>
 rw [lower_ascii]
 · apply toList_inj;show (low (zq (x :: l))).cps.toList = _;rw [Zn, bh, Zo, Zo, az, Zn];congr 1;clear hn h;induction l with
   | nil => rfl
   | cons y r ih =>
     rw [List.flatMap_cons, az, bh, ih, bh, List.flatMap_cons, Zn];rfl
 · intro c hc;rw [Zo] at hc;rcases ba.mp hc with hc | hc
   · have := h x ao c hc; omega
   · obtain ⟨p, hp, hc⟩ := List.mem_flatMap.mp hc;rcases ag.mp hc with rfl | hc
     · decide
     · have := h p (aq _ hp) c hc; omega
theorem zm0 (h : Asc x) : Asc (low x) := fun c hc => by
 rw [Zn] at hc;obtain ⟨d, hd, rfl⟩ := ax.mp hc;have := h d hd;unfold lo1;split <;> omega
theorem zf7 (x : Str) : (low x).length = x.length := by
 show (x.cps.map lo1).size = x.cps.size;rw [Array.size_map]
noncomputable def Z9 (ws : List Str) : Bool := (xw ws).isNone && (if ws.head? = some "FIRST" then (qk ws.tail).isNone else decide (ws ≠ [("SCRIPT" : Str)]) && (qy ws).isNone)
theorem zlt (h : Z9 ws = true) (ss : List yb) (cs : List zm) : wz ss cs ws = none := by
 unfold Z9 at h;rw [bu] at h;have h := h.2;unfold wz;split
 · rename_i hf
   rw [if_pos hf] at h;rw [Option.isNone_iff_eq_none.mp h]
 · rename_i hf
   rw [if_neg hf, bu] at h;split
   · rfl
   · rw [if_neg (cb h.1), Option.isNone_iff_eq_none.mp h.2];split <;> rfl
theorem Jz (h : Z9 ws = true) (r : List (List Str)) : w4 (ws :: r) = none := by
 unfold Z9 at h;rw [bu] at h;show (match xw ws with | none => none | some p => match yk [] [] r with | none => none | some st => some (House.mk p.1 p.2 st.2 st.1)) = none;rw [Option.isNone_iff_eq_none.mp h.1]
theorem zjj (h : ∀ ss cs, wz ss cs ws = none) (r1 r2 : List (List Str)) : yk [] [] (r1 ++ ws :: r2) = none := by
 rw [Yo];cases yk [] [] r1 with
 | none => rfl
 | some st =>
   show yk st.1 st.2 (ws :: r2) = none;rw [qx, h]
theorem Xv {r : List (List Str)} (h : yk [] [] r = none) : w4 (w0 :: r) = none := by
 show (match xw w0 with | none => none | some p => match yk [] [] r with | none => none | some st => some (House.mk p.1 p.2 st.2 st.1)) = none;rw [h];cases xw w0 <;> rfl
theorem zfj (h : Z9 ws = true) : ∀ (r1 r2 : List (List Str)), w4 (r1 ++ ws :: r2) = none
 | [], r2 => Jz h r2
 | w0 :: r1, r2 => Xv (zjj (zlt h) r1 r2)
theorem qo (h : x ≠ "BOXES") : xw (x :: r) = none := zgc fun e => by
 cases r with
 | nil => cases e
 | cons y r => exact h (List.cons.inj e).1
theorem zkv {u v : Str} : xw (x :: y :: z :: u :: v :: r) = none := rfl
theorem qu (hh : xw (x :: r) = none) (hf : x ≠ "FIRST") (hs : x ≠ "SCRIPT" ∨ r ≠ []) (hd : qy (x :: r) = none) : Z9 (x :: r) = true := by
 unfold Z9;rw [hh, if_neg (by simpa using hf), hd];have : x :: r ≠ [("SCRIPT" : Str)] := fun e => by
  injection e with e1 e2;rcases hs with h | h
  · exact h e1
  · exact h e2
 rw [au this];rfl
theorem zih (hc : qk r = none) : Z9 ("FIRST" :: r) = true := by
 unfold Z9;rw [qo (by decide), if_pos (by rfl)];show (true && (qk r).isNone) = true;rw [hc];rfl
theorem Y6 (hb : x ≠ "begin") (hf : qp x = none) : qy (x :: r) = none := by
 have unf : qy (x :: r) = match qp x with | none => none | some fs => match vc fs r with | none => none | some vs => qw x vs := if_neg hb
 rw [unf, hf]
theorem ko {fs : List Str} (hb : x ≠ "begin") (hf : qp x = some fs) (hl : fs.length ≠ r.length) : qy (x :: r) = none := by
 have unf : qy (x :: r) = match qp x with | none => none | some fs => match vc fs r with | none => none | some vs => qw x vs := if_neg hb
 have e : vc fs r = none := if_neg hl;rw [unf, hf];show (match vc fs r with | none => none | some vs => qw x vs) = none;rw [e]
theorem zgq {n : Str} {l : List Str} (hx : jl x = none) : qk (n :: (l ++ x :: r)) = none := by
 show (if wx n = true then (match vd (l ++ x :: r) with | none => none | some ms => some (vv n, ms)) else none) = none;rw [Vk (ck _ ao) hx];split <;> rfl
theorem znm (hc : qk r = none) : qy ("begin" :: r) = none := by
 show (match qk r with | none => none | some c => some (Deed.beg c.1 c.2)) = none;rw [hc]
theorem Jy {h : House} (k : Kind h ws) (hx : jl x = none) (r : List Str) : Z9 (ws ++ x :: r) = true := by
 cases k with
 | head => exact qu zkv (by decide) (.inl (by decide)) (Y6 (by decide) (by decide))
 | scr => exact qu (qo (by decide)) (by decide) (.inr (by simp)) (Y6 (by decide) (by decide))
 | fst c h1 h2 =>
   show Z9 ("FIRST" :: (nS (c.1 : Int) :: (c.2.map Z5 ++ x :: r))) = true;exact zih (zgq hx)
 | ded d h1 h2 =>
   cases d with
   | rai i j => exact qu (qo (by decide)) (by decide) (.inl (by decide)) (ko (fs := ["number", "number"]) (by decide) rfl (by simp))
   | awa i j => exact qu (qo (by decide)) (by decide) (.inl (by decide)) (ko (fs := ["number", "number"]) (by decide) rfl (by simp))
   | com i => exact qu (qo (by decide)) (by decide) (.inl (by decide)) (ko (fs := ["number"]) (by decide) rfl (by simp))
   | goo i => exact qu (qo (by decide)) (by decide) (.inl (by decide)) (ko (fs := ["number"]) (by decide) rfl (by simp))
   | lea i => exact qu (qo (by decide)) (by decide) (.inl (by decide)) (ko (fs := ["number"]) (by decide) rfl (by simp))
   | wor i => exact qu (qo (by decide)) (by decide) (.inl (by decide)) (ko (fs := ["number"]) (by decide) rfl (by simp))
   | say y => exact qu (qo (by decide)) (by decide) (.inl (by decide)) (ko (fs := ["letters"]) (by decide) rfl (by simp))
   | beg n ms =>
     show Z9 ("begin" :: (nS (n : Int) :: (ms.map Z5 ++ x :: r))) = true;exact qu (qo (by decide)) (by decide) (.inl (by decide)) (znm (zgq hx))
theorem zii (ws : List Str) (hn : ws ≠ []) : Z9 ("" :: ws) = true := qu (qo (by decide)) (by decide) (.inl (by decide)) (Y6 (by decide) (by decide))
theorem znn {h : House} (k : Kind h ws) : Z9 (ws.map low ++ [("0" : Str), "0"]) = true := by
 have h0 : jl "0" = none := by decide +kernel
 cases k with
 | head =>
   show Z9 (low "BOXES" :: low (nS h.b) :: low "WALLS" :: low (nS h.w) :: ["0", "0"]) = true;rw [show low "BOXES" = "boxes" from ze1 (by decide +kernel)];exact qu zkv (by decide) (.inl (by decide)) (Y6 (by decide) (by decide))
 | scr =>
   show Z9 (low "SCRIPT" :: ["0", "0"]) = true;rw [show low "SCRIPT" = "script" from ze1 (by decide +kernel)];exact qu (qo (by decide)) (by decide) (.inl (by decide)) (Y6 (by decide) (by decide))
 | fst c h1 h2 =>
   show Z9 (low "FIRST" :: ((nS (c.1 : Int) :: c.2.map Z5).map low ++ [("0" : Str), "0"])) = true;rw [show low "FIRST" = "first" from ze1 (by decide +kernel)];exact qu (qo (by decide)) (by decide) (.inl (by decide)) (Y6 (by decide) (by decide))
 | ded d h1 h2 =>
   have e : (dW d).map low = dW d := by
    conv => rhs; rw [← List.map_id (dW d)]
    exact List.map_congr_left fun t ht => zo8 (zkg h1 t ht)
   rw [e];exact Jy (h := h) (.ded d h1 h2) h0 ["0"]
structure BadH (h : House) : Prop where
 T : HouT h
 L : LowH h
 W : Wh (eH h)
 m : mWf (eH h) = false
theorem W8 (i : Int) : Wl (.int i) := fun x e => by cases e
theorem zn4 (ts : List T) : Wl (.tup ts) := fun x e => by cases e
theorem W7 (h : x.length ≤ 1000) : Wl (.str x) := fun y e => by cases e; exact zw h
theorem zn7 {d : Deed} (h : Yx d) : Wd (eD d) := by
 intro ts e u hu;cases d with
 | rai i j =>
   cases e;simp only [ag, aw, or_false] at hu;rcases hu with rfl | rfl | rfl
   · exact W7 (by decide)
   · exact W8 _
   · exact W8 _
 | awa i j =>
   cases e;simp only [ag, aw, or_false] at hu;rcases hu with rfl | rfl | rfl
   · exact W7 (by decide)
   · exact W8 _
   · exact W8 _
 | beg i j =>
   cases e;simp only [ag, aw, or_false] at hu;rcases hu with rfl | rfl | rfl
   · exact W7 (by decide)
   · exact W8 _
   · exact zn4 _
 | say x =>
   cases e;simp only [ag, aw, or_false] at hu;rcases hu with rfl | rfl
   · exact W7 (by decide)
   · exact W7 (by rcases (show _ ∨ _ from h) with e | e | e | e | e <;> rw [e] <;> decide)
 | _ =>
   cases e;simp only [ag, aw, or_false] at hu;rcases hu with rfl | rfl
   · exact W7 (by decide)
   · exact W8 _
theorem Qn {h : House} (hh : HouT h) : Wh (eH h) := by
 intro b w f ss e s hs ts et d hd;have e : [T.int h.b, .int h.w, .tup (h.fs.map eC), .tup (h.ss.map eS)] = [b, w, f, .tup ss] := by injection e
 injection e with _ e;injection e with _ e;injection e with _ e;injection e with e _;injection e with e;subst e;obtain ⟨sc, hsc, rfl⟩ := ax.mp hs;cases et;obtain ⟨dd, hdd, rfl⟩ := ax.mp hd;exact zn7 ((hh.s sc hsc).2 dd hdd)
theorem X3 {h : House} (hf : jc (eH h) = false) : mWf (eH h) = false := by
 unfold mWf;rw [hf];rfl
theorem zn5 {h : House} {c : zm} (hc : c ∈ h.fs) (hb : xj (eC c) 0 h.ss.length h.w = false) : mWf (eH h) = false := by
 show (jc (eH h) && (goS h.b h.w (h.ss.map eS).length 0 (h.ss.map eS) && (h.fs.map eC).all (fun c => xj c 0 (h.ss.map eS).length h.w))) = false;have : (h.fs.map eC).all (fun c => xj c 0 (h.ss.map eS).length h.w) = false := by
  rw [ae];exact List.all_eq_false.mpr ⟨eC c, List.mem_map_of_mem hc, by rw [hb]; decide⟩
 rw [this, Bool.and_false, Bool.and_false]
theorem zn6 {w : Int} {fs : List zm} {s : yb} {ss : List yb} {d : Deed} (hd : vy (eD d) 0 b w (ss.length + 1) = false) : mWf (eH ⟨b, w, fs, (s ++ [d]) :: ss⟩) = false := by
 show (jc _ && ((ji (eS (s ++ [d])) 0 b w (((s ++ [d]) :: ss).map eS).length && goS b w _ (0 + 1) (ss.map eS)) && _)) = false;have : ji (eS (s ++ [d])) 0 b w (((s ++ [d]) :: ss).map eS).length = false := by
  rw [ae, bi];unfold ji;have : ze0 (eS (s ++ [d])) 0 b w (ss.length + 1) = false := List.all_eq_false.mpr ⟨eD d, List.mem_map_of_mem (ck _ (av.mpr rfl)), by rw [hd]; decide⟩;rw [this, Bool.and_false]
 rw [this, c7, c7, Bool.and_false]
theorem yt {i hi : Int} (h : i < lo ∨ hi < i) : zo (.int i) lo hi = false := by
 show (decide (lo ≤ i) && decide (i ≤ hi)) = false;rcases h with h | h
 · rw [bn (by omega)]; rfl
 · rw [bn (p := i ≤ hi) (by omega), Bool.and_false]
section
variable {w : Int}
theorem zgm {i : Int} (h : zo (.int i) 0 (b - 1) = false ∨ zo (.int j) 1 99 = false) : vy (eD (.rai i j)) 0 b w n = false := by
 show (true && (true && (zo (.int i) 0 (b - 1) && zo (.int j) 1 99))) = false;rcases h with h | h <;> rw [h]
 · rfl
 · rw [Bool.and_false]; rfl
theorem zlc {i : Int} (h : zo (.int i) 0 (b - 1) = false ∨ zo (.int j) 1 9999 = false) : vy (eD (.awa i j)) 0 b w n = false := by
 show (true && (true && (zo (.int i) 0 (b - 1) && zo (.int j) 1 9999))) = false;rcases h with h | h <;> rw [h]
 · rfl
 · rw [Bool.and_false]; rfl
theorem zsn {i : Int} (h : zo (.int i) 0 (w - 1) = false) : vy (eD (.com i)) 0 b w n = false := h
theorem zsm {i : Int} (h : zo (.int i) 0 (w - 1) = false) : vy (eD (.goo i)) 0 b w n = false := h
theorem zsl {i : Int} (h : zo (.int i) 0 (w - 1) = false) : vy (eD (.lea i)) 0 b w n = false := h
theorem zn1 {i : Int} (h : zo (.int i) 0 999 = false) : vy (eD (.wor i)) 0 b w n = false := h
theorem zsj (h : zc2 (.str x) = false) : vy (eD (.say x)) 0 b w n = false := h
theorem zn2 {j : Nat} {ms : List Mem} (h : zo (.int (j : Int)) (0 + 1) ((n : Int) - 1) = false) : vy (eD (.beg j ms)) 0 b w n = false := by
 show (true && (zo (.int (j : Int)) (0 + 1) ((n : Int) - 1) && kj (eMs ms) w)) = false;rw [h];rfl
end
structure Nin (n : Int) : Prop where
 lo : 100000 ≤ n
 hi : n < 1000000000000000000000000000000
noncomputable def hsA (h : House) (n : Int) : List House := [⟨100, h.w, h.fs, h.ss⟩, ⟨h.b, 7, h.fs, h.ss⟩, ⟨n, h.w, h.fs, h.ss⟩]
noncomputable def hsB (h : House) : List House := [⟨h.b, h.w, [], h.ss⟩, ⟨h.b, h.w, h.fs ++ [(h.ss.length, [])], h.ss⟩]
noncomputable def hsC (h : House) : List House := [⟨h.b, h.w, h.fs ++ [((0, [(h.w, ("both" : Str))]) : zm)], h.ss⟩, ⟨h.b, h.w, [], []⟩]
noncomputable def hsD (h : House) : List House := [⟨h.b, h.w + 2, h.fs ++ [((0, [(1, ("both" : Str)), (0, ("both" : Str))]) : zm)], h.ss⟩]
noncomputable def dsA (h : House) : List Deed := [.rai h.b 1, .rai 0 0, .rai 0 100, .awa 0 0, .awa 0 10000]
noncomputable def dsB : List Deed := [.wor 1000, .say "abcdefghi"]
noncomputable def dsC (h : House) : List Deed := [.com h.w, .goo h.w, .lea h.w, .beg 0 [], .beg h.ss.length []]
noncomputable def dsD (h : House) (n : Int) : List Deed := [.wor n, .rai n 1, .awa h.b n]
noncomputable def Yb (h : House) (d : Deed) : House := ⟨h.b, h.w, h.fs, (h.ss.headD [] ++ [d]) :: h.ss.tail⟩
section
variable {h : House} (F : Fit h)
include F
theorem Yg : HouT h := (zn0 F).1
theorem zbl : LowH h := (zn0 F).2
theorem zsr (hb : Num b) (hm : 99 < b) : BadH ⟨b, h.w, h.fs, h.ss⟩ := by
 have t := Yg F;have T : HouT ⟨b, h.w, h.fs, h.ss⟩ := ⟨hb, t.w, t.fn, t.f, t.sn, t.s⟩
 refine ⟨T, ⟨(zbl F).f, (zbl F).s⟩, Qn T, X3 ?_⟩;show (zo (.int b) 0 99 && _) = false;rw [yt (.inr hm)];rfl
theorem ztt : BadH ⟨h.b, 7, h.fs, h.ss⟩ := by
 have t := Yg F;have T : HouT ⟨h.b, 7, h.fs, h.ss⟩ := ⟨t.b, (show Num 7 from ⟨by decide, by decide⟩), t.fn, t.f, t.sn, t.s⟩
 refine ⟨T, ⟨(zbl F).f, (zbl F).s⟩, Qn T, X3 ?_⟩;show (zo (.int h.b) 0 99 && (zo (.int 7) 0 6 && _)) = false;rw [yt (i := 7) (.inr (by decide)), c7, Bool.and_false]
theorem ztu : BadH ⟨h.b, h.w, [], h.ss⟩ := by
 have t := Yg F;have T : HouT ⟨h.b, h.w, [], h.ss⟩ := ⟨t.b, t.w, bd _, fun c hc => (by cases hc), t.sn, t.s⟩
 refine ⟨T, ⟨fun c hc => (by cases hc), (zbl F).s⟩, Qn T, X3 ?_⟩;show (zo (.int h.b) 0 99 && (zo (.int h.w) 0 6 && (xl (.tup []) 1 40 && _))) = false;rw [show xl (.tup []) 1 40 = false from rfl, c7, Bool.and_false, Bool.and_false]
theorem zsq : BadH ⟨h.b, h.w, [], []⟩ := by
 have t := Yg F;have T : HouT ⟨h.b, h.w, [], []⟩ := ⟨t.b, t.w, bd _, fun c hc => (by cases hc), bd _, fun c hc => (by cases hc)⟩
 refine ⟨T, ⟨fun c hc => (by cases hc), fun c hc => (by cases hc)⟩, Qn T, X3 ?_⟩;show (zo (.int h.b) 0 99 && (zo (.int h.w) 0 6 && (xl (.tup []) 1 40 && _))) = false;rw [show xl (.tup []) 1 40 = false from rfl, c7, Bool.and_false, Bool.and_false]
theorem zp1 {w : Int} {c : zm} (hw : Num w) (hc : Qd c) (hl : ∀ m ∈ c.2, Low m) (hb : xj (eC c) 0 h.ss.length w = false) : BadH ⟨h.b, w, h.fs ++ [c], h.ss⟩ := by
 have t := Yg F;have f4 := F.f4;have T : HouT ⟨h.b, w, h.fs ++ [c], h.ss⟩ := by
  refine ⟨t.b, hw, ?_, fun x hx => ?_, t.sn, t.s⟩
  · show (h.fs ++ [c]).length ≤ 10;rw [ar, ce]; omega
  · rcases ba.mp hx with hx | hx
    · exact t.f x hx
    · rw [av.mp hx]; exact hc
 refine ⟨T, ⟨fun x hx => ?_, (zbl F).s⟩, Qn T, zn5 (ck _ (av.mpr rfl)) hb⟩;rcases ba.mp hx with hx | hx
 · exact (zbl F).f x hx
 · rw [av.mp hx]; exact hl
theorem zgb : h.ss = h.ss.headD [] :: h.ss.tail := by
 have := F.n1;cases e : h.ss with
 | nil => rw [e] at this; cases this
 | cons s r => rfl
theorem Xz {d : Deed} (hd : Yx d) (hl : zbt d) (hb : vy (eD d) 0 h.b h.w h.ss.length = false) : BadH (Yb h d) := by
 have t := Yg F;have l := zbl F;have e := zgb F;have hm : h.ss.headD [] ∈ h.ss := by rw [e]; exact ao
 have hs6 : (h.ss.headD []).length ≤ 6 := by
  obtain ⟨kn, FK⟩ := F.kn;obtain ⟨i, hi⟩ := List.mem_iff_getElem?.mp hm;obtain ⟨ms, _, _, _, h6, _⟩ := FK.at hi;exact h6
 have ht : ∀ s ∈ h.ss.tail, s ∈ h.ss := fun s hs => List.mem_of_mem_tail hs;have n3 := F.n3;have T : HouT (Yb h d) := by
  refine ⟨t.b, t.w, t.fn, t.f, ?_, fun s hs => ?_⟩
  · show (_ :: h.ss.tail).length ≤ 10;rw [bi, List.length_tail]; omega
  · rcases ag.mp hs with rfl | hs
    · refine ⟨by rw [ar, ce]; omega, fun x hx => ?_⟩;rcases ba.mp hx with hx | hx
      · exact (t.s _ hm).2 x hx
      · rw [av.mp hx]; exact hd
    · exact t.s s (ht s hs)
 refine ⟨T, ⟨l.f, fun s hs x hx => ?_⟩, Qn T, zn6 ?_⟩
 · rcases ag.mp hs with rfl | hs
   · rcases ba.mp hx with hx | hx
     · exact l.s _ hm x hx
     · rw [av.mp hx]; exact hl
   · exact l.s s (ht s hs) x hx
 · have : h.ss.tail.length + 1 = h.ss.length := by rw [List.length_tail]; have := F.n1; omega
   rw [this];exact hb
theorem zs2 {n : Int} (N : Nin n) : ∀ x ∈ hsA h n, BadH x := fun x hx => by
 simp only [hsA, ag, aw, or_false] at hx;have := N.lo; have := N.hi;rcases hx with rfl | rfl | rfl
 · exact zsr F ⟨by decide, by decide⟩ (by decide)
 · exact ztt F
 · exact zsr F ⟨by omega, N.hi⟩ (by omega)
theorem zs1 : ∀ x ∈ hsB h, BadH x := fun x hx => by
 simp only [hsB, ag, aw, or_false] at hx;have n3 := F.n3;rcases hx with rfl | rfl
 · exact ztu F
 · refine zp1 F (Yg F).w ⟨by show ((h.ss.length : Nat) : Int) < 10000; omega, bd _, fun m hm => (by cases hm)⟩ (fun m hm => (by cases hm)) ?_;show (zo (.int (h.ss.length : Int)) 0 ((h.ss.length : Int) - 1) && _) = false;rw [yt (.inr (by omega))];rfl
theorem zs0 : ∀ x ∈ hsC h, BadH x := fun x hx => by
 simp only [hsC, ag, aw, or_false] at hx;have w0 := F.w0; have w3 := F.w3;rcases hx with rfl | rfl
 · have hm : ∀ m ∈ ([(h.w, ("both" : Str))] : List Mem), m = (h.w, ("both" : Str)) := fun m hm => av.mp hm;refine zp1 F (Yg F).w ⟨by show ((0 : Nat) : Int) < 10000; decide, by show 1 ≤ 10; decide, fun m h1 => by rw [hm m h1]; exact ⟨(Yg F).w, .inl rfl⟩⟩ (fun m h1 => by rw [hm m h1]; show h.w = 0 ∨ h.w = 1 ∨ h.w = 2 ∨ h.w = 3; omega) ?_;show (zo (.int ((0 : Nat) : Int)) 0 ((h.ss.length : Int) - 1) && ((zo (.int h.w) 0 (h.w - 1) && _) && _)) = false;rw [yt (i := h.w) (.inr (by omega)), c7, c7, Bool.and_false]
 · exact zsq F
theorem zsz : ∀ x ∈ hsD h, BadH x := fun x hx => by
 simp only [hsD, ag, aw, or_false] at hx;have w0 := F.w0; have w3 := F.w3;subst hx;have hm : ∀ m ∈ ([(1, ("both" : Str)), (0, ("both" : Str))] : List Mem), m = (1, ("both" : Str)) ∨ m = (0, ("both" : Str)) := fun m hm => by simpa using hm
 refine zp1 F ⟨by omega, by omega⟩ ⟨by show ((0 : Nat) : Int) < 10000; decide, by show 2 ≤ 10; decide, fun m h1 => ?_⟩ (fun m h1 => ?_) ?_
 · rcases hm m h1 with rfl | rfl <;> exact ⟨⟨by decide, by decide⟩, .inl rfl⟩
 · rcases hm m h1 with rfl | rfl
   · exact .inr (.inl rfl)
   · exact .inl rfl
 · show (zo (.int ((0 : Nat) : Int)) 0 ((h.ss.length : Int) - 1) && (_ && (decide ((-1 : Int) < 1) && (_ && (decide ((1 : Int) < 0) && _))))) = false;rw [bn (p := (1 : Int) < 0) (by decide), c7, Bool.and_false, Bool.and_false, Bool.and_false, Bool.and_false]
theorem zp5 : ∀ d ∈ dsA h, BadH (Yb h d) := fun d hd => by
 simp only [dsA, ag, aw, or_false] at hd;have z : Num 0 := ⟨by decide, by decide⟩
 rcases hd with rfl | rfl | rfl | rfl | rfl
 · exact Xz F ⟨(Yg F).b, ⟨by decide, by decide⟩⟩ trivial (zgm (.inl (yt (.inr (by omega)))))
 · exact Xz F ⟨z, z⟩ trivial (zgm (.inr (yt (.inl (by decide)))))
 · exact Xz F ⟨z, ⟨by decide, by decide⟩⟩ trivial (zgm (.inr (yt (.inr (by decide)))))
 · exact Xz F ⟨z, z⟩ trivial (zlc (.inr (yt (.inl (by decide)))))
 · exact Xz F ⟨z, ⟨by decide, by decide⟩⟩ trivial (zlc (.inr (yt (.inr (by decide)))))
theorem zp4 : ∀ d ∈ dsB, BadH (Yb h d) := fun d hd => by
 simp only [dsB, ag, aw, or_false] at hd;rcases hd with rfl | rfl
 · exact Xz F (d := .wor 1000) ⟨by decide, by decide⟩ trivial (zn1 (yt (.inr (by decide))))
 · exact Xz F (d := .say "abcdefghi") (.inr (.inr (.inr (.inr rfl)))) trivial (zsj (by decide +kernel))
theorem zp3 : ∀ d ∈ dsC h, BadH (Yb h d) := fun d hd => by
 simp only [dsC, ag, aw, or_false] at hd;have n3 := F.n3;rcases hd with rfl | rfl | rfl | rfl | rfl
 · exact Xz F (d := .com h.w) (Yg F).w trivial (zsn (yt (.inr (by omega))))
 · exact Xz F (d := .goo h.w) (Yg F).w trivial (zsm (yt (.inr (by omega))))
 · exact Xz F (d := .lea h.w) (Yg F).w trivial (zsl (yt (.inr (by omega))))
 · exact Xz F (d := .beg 0 []) ⟨by show ((0 : Nat) : Int) < 10000; decide, bd _, fun m hm => (by cases hm)⟩ (fun m hm => (by cases hm)) (zn2 (yt (.inl (by decide))))
 · exact Xz F (d := .beg h.ss.length []) ⟨by show ((h.ss.length : Nat) : Int) < 10000; omega, bd _, fun m hm => (by cases hm)⟩ (fun m hm => (by cases hm)) (zn2 (yt (.inr (by omega))))
theorem zp2 {n : Int} (N : Nin n) : ∀ d ∈ dsD h n, BadH (Yb h d) := fun d hd => by
 simp only [dsD, ag, aw, or_false] at hd;have := N.lo; have := F.b3;have hn : Num n := ⟨by omega, N.hi⟩
 rcases hd with rfl | rfl | rfl
 · exact Xz F (d := .wor n) hn trivial (zn1 (yt (.inr (by omega))))
 · exact Xz F (d := .rai n 1) ⟨hn, ⟨by decide, by decide⟩⟩ trivial (zgm (.inl (yt (.inr (by omega)))))
 · exact Xz F (d := .awa h.b n) ⟨(Yg F).b, hn⟩ trivial (zlc (.inl (yt (.inr (by omega)))))
end
abbrev eW : List Str := [""]
abbrev xW : List Str := ["x"]
abbrev zW : List Str := ["0", "0"]
abbrev kW : List Str := ["work", "1"]
abbrev sW : List Str := ["SCRIPT"]
theorem Vp (g x : Str) (l : List Str) : (PySem.Txt.join g (x :: l)).cps.toList = x.cps.toList ++ l.flatMap (fun p => g.cps.toList ++ p.cps.toList) := Wx g.cps l x.cps
theorem Zs (a b : Str) : (a ++ b).cps.toList = a.cps.toList ++ b.cps.toList := by
 show (a.cps ++ b.cps).toList = _;rw [Array.toList_append]
theorem zdc {g : Str} : ∀ {a b : List Str}, a ≠ [] → b ≠ [] → PySem.Txt.join g (a ++ b) = PySem.Txt.join g a ++ g ++ PySem.Txt.join g b
 | [], _, h, _ => absurd rfl h
 | _, [], _, h => absurd rfl h
 | x :: a, y :: b, _, _ => by
   apply toList_inj;rw [Zs, Zs, List.cons_append, Vp, Vp, Vp, List.flatMap_append, List.flatMap_cons];simp only [List.append_assoc]
theorem Wr {a b : List Str} (ha : a ≠ []) (hb : b ≠ []) : zq (a ++ b) = zq a ++ sp ++ zq b := zdc ha hb
theorem Yz {a b : List (List Str)} (ha : a ≠ []) (hb : b ≠ []) : vw (a ++ b) = vw a ++ nl ++ vw b := by
 unfold vw;rw [az];exact zdc (fun z => ha (List.map_eq_nil_iff.mp z)) (fun z => hb (List.map_eq_nil_iff.mp z))
theorem Zt (a b c : Str) : a ++ b ++ c = a ++ (b ++ c) := by
 apply toList_inj;simp only [Zs, List.append_assoc]
theorem Ku (x : Str) : zq [x] = x := rfl
theorem zit (ws : List Str) : vw [ws] = zq ws := rfl
noncomputable def zor (ws : List Str) : Bool := decide (ws ≠ []) && decide (ws.length ≤ 14) && ws.all (fun x => decide (x.length ≤ 1000) && x.cps.toList.all (fun c => decide (c ≠ 10 ∧ c ≠ 32 ∧ c < 1114112)))
theorem zav (h : zor ws = true) : RowOk ws := by
 unfold zor at h;rw [bu, bu] at h;refine ⟨cb h.1.1, cb h.1.2, fun x hx => ?_⟩;have := cq.mp h.2 x hx;rw [bu] at this;exact ⟨cb this.1, wb this.2⟩
noncomputable def J3 (ws : List Str) : Prop := RowOk ws ∧ Z9 ws = true
theorem qt {l : List (List Str)} (h : (l.all fun r => zor r && Z9 r) = true) : ∀ r ∈ l, J3 r := fun r hr => by
 have := cq.mp h r hr;rw [bu] at this;exact ⟨zav this.1, this.2⟩
noncomputable def nnS : Str := ⟨(List.replicate (31 : Int).toNat ("9" : Str).cps).foldl (· ++ ·) #[]⟩
noncomputable def R0 (ws : List Str) : List (List Str) := [ws ++ eW, "" :: ws, ws.map low ++ zW, [""], ws ++ xW, ["wait", "0", "1"], ["raise", "0"], ["await", "1"], ["come"]]
noncomputable def R1 : List (List Str) := [["go", "0", "0"], ["leave"], ["work", "1", "2"], ["begin"], ["say"], ["say", "a", "b"], ["raise", "0", "", "1"], ["FIRST"], ["FIRST", "0", "0both"]]
noncomputable def R2 : List (List Str) := [["FIRST", "0", "0:"], ["FIRST", "0", ":both"], ["raise", "01", "1"], ["raise", "0", "+1"], ["raise", "-1", "1"], ["work", "1.0"]]
noncomputable def R3 : List (List Str) := [["await", "0", "x"], ["BOXES", "1", "WALLS"], ["BOXES", "1", "WALLS", "0", "0"], ["BOXES", "00", "WALLS", "0"], ["SCRIPT", "0"], ["script"]]
noncomputable def R4 : List (List Str) := [["work", "1_0"], ["FIRST", "0", "0:each"], ["say", "Come"], ["say", "a1"]]
noncomputable def R5 : List (List Str) := [["FIRST", "0", "", "0:both"], ["work"], ["work", "0x1"], ["BOXES", "-0", "WALLS", "0"], ["Begin", "1"], ["FIRST", "x"]]
theorem zsx : ∀ r ∈ R1, J3 r := qt (by decide +kernel)
theorem zsw : ∀ r ∈ R2, J3 r := qt (by decide +kernel)
theorem zsv : ∀ r ∈ R3, J3 r := qt (by decide +kernel)
theorem zsu : ∀ r ∈ R4, J3 r := qt (by decide +kernel)
theorem zst : ∀ r ∈ R5, J3 r := qt (by decide +kernel)
theorem zss : J3 ["work", nnS] := qt (l := [["work", nnS]]) (by decide +kernel) _ (av.mpr rfl)
noncomputable def vL (l : List (List Str)) : List V := l.map fun r => V.str (zq r)
theorem zsy {h : House} (hh : HouT h) (hl : LowH h) (hw : ws ∈ zy h) : ∀ r ∈ R0 ws, J3 r := by
 have k := zbf hh hl ws hw;obtain ⟨hn, hA⟩ := Jg hh k;obtain ⟨h12, h40⟩ := (xa hh).2 ws hw;have ok := Vg hh hl ws hw;have e0 : ∀ x ∈ [("" : Str)], x.length ≤ 1000 ∧ Cln x := fun x hx => by rw [av.mp hx]; exact ⟨by decide, wb (by decide +kernel)⟩
 have ex : ∀ x ∈ [("x" : Str)], x.length ≤ 1000 ∧ Cln x := fun x hx => by rw [av.mp hx]; exact ⟨by decide, wb (by decide +kernel)⟩
 have e00 : ∀ x ∈ [("0" : Str), "0"], x.length ≤ 1000 ∧ Cln x := zfk (P := fun x => x.length ≤ 1000 ∧ Cln x) ⟨by decide, wb (by decide +kernel)⟩ ⟨by decide, wb (by decide +kernel)⟩;have elow : ∀ x ∈ ws.map low, x.length ≤ 1000 ∧ Cln x := fun x hx => by
  obtain ⟨y, hy, rfl⟩ := ax.mp hx;exact ⟨by rw [zf7]; exact (ok.each y hy).1, (zm0 (hA y hy)).cln⟩
 have app : ∀ {a b : List Str} {P : Str → Prop}, (∀ x ∈ a, P x) → (∀ x ∈ b, P x) → ∀ x ∈ a ++ b, P x := fun ha hb x hx => (ba.mp hx).elim (ha x) (hb x);intro r hr;unfold R0 at hr;rw [ag] at hr;rcases hr with rfl | hr
 · exact ⟨⟨by simp, by simp only [ar, ce]; omega, app ok.each e0⟩, Jy k (by decide +kernel) []⟩
 rw [ag] at hr;rcases hr with rfl | hr
 · exact ⟨⟨by simp, by simp only [bi]; omega, app (a := [""]) e0 ok.each⟩, zii ws hn⟩
 rw [ag] at hr;rcases hr with rfl | hr
 · exact ⟨⟨by simp, by simp only [ar, ae, bi, List.length_nil]; omega, app elow e00⟩, znn k⟩
 rw [ag] at hr;rcases hr with rfl | hr
 · exact qt (l := [[""]]) (by decide +kernel) _ (av.mpr rfl)
 rw [ag] at hr;rcases hr with rfl | hr
 · exact ⟨⟨by simp, by simp only [ar, ce]; omega, app ok.each ex⟩, Jy k (by decide +kernel) []⟩
 exact qt (l := [["wait", "0", "1"], ["raise", "0"], ["await", "1"], ["come"]]) (by decide +kernel) r hr
noncomputable def TB (x : V) : Prop := ∃ rows, x = .str (vw rows) ∧ RowsOk rows ∧ w4 rows = none
theorem zqc {h : House} (hh : HouT h) (hl : LowH h) (b : J3 r) (d : Nat) : TB (.str (vw ((zy h).take d ++ r :: (zy h).drop (d + 1)))) := by
 have ok := Qe hh hl;have hf := (xa hh).1;refine ⟨_, rfl, ⟨by simp, ?_, fun ws hw => ?_⟩, zfj b.2 _ _⟩
 · simp only [ar, bi, cg, List.length_drop]; omega
 · rcases ba.mp hw with hw | hw
   · exact ok.each ws (List.mem_of_mem_take hw)
   rcases ag.mp hw with rfl | hw
   · exact b.1
   · exact ok.each ws (List.mem_of_mem_drop hw)
theorem zkt {r : List (List Str)} (h : xw w0 = none) : w4 (w0 :: r) = none := by
 show (match xw w0 with | none => none | some p => match yk [] [] r with | none => none | some st => some (House.mk p.1 p.2 st.2 st.1)) = none;rw [h]
theorem X0 : J3 [""] := qt (l := [[""]]) (by decide +kernel) _ (av.mpr rfl)
theorem zj5 : RowOk ["work", "1"] := zav (by decide +kernel)
theorem zo4 : RowOk ["SCRIPT"] := zav (by decide +kernel)
theorem Jj {h : House} (hh : HouT h) (hl : LowH h) (hf : h.fs ≠ []) (hx : x ≠ "FIRST") : w4 (zy h ++ [x :: r]) = none := by
 show w4 (jp h :: ((wm h.ss ++ h.fs.map (cW "FIRST")) ++ [x :: r])) = none;refine Xv ?_;rw [Yo, zgs hh hl];show yk h.ss h.fs [x :: r] = none;rw [qx, Vu hx hf]
section
variable {h : House} (hh : HouT h) (hl : LowH h) (hf : h.fs ≠ []) (hs : h.ss ≠ [])
include hh hl
theorem okS {rows : List (List Str)} (hn : rows ≠ []) (hlen : rows.length ≤ 400) (he : ∀ ws ∈ rows, ws ∈ zy h ∨ RowOk ws) : RowsOk rows := ⟨hn, hlen, fun ws hw => (he ws hw).elim (Vg hh hl ws) id⟩
theorem tb1 : TB (.str ("\n" ++ wq h)) := by
 have hf := (xa hh).1;refine ⟨eW :: zy h, ?_, okS hh hl (by simp) (by rw [bi]; omega) fun ws hw => ?_, Jz X0.2 _⟩
 · have e := Yz (a := [[("" : Str)]]) (b := zy h) (by simp) (by simp [zy]);rw [List.singleton_append] at e;rw [e, zit, Ku, zbz];rfl
 · rcases ag.mp hw with rfl | hw
   · exact .inr X0.1
   · exact .inl hw
theorem tb2 : TB (.str (wq h ++ "\n")) := by
 have hf := (xa hh).1;refine ⟨zy h ++ [eW], ?_, okS hh hl (by simp) (by rw [ar, ce]; omega) fun ws hw => ?_, zfj X0.2 _ _⟩
 · rw [Yz (by simp [zy]) (by simp), zit, Ku, zbz, Zt];rfl
 · rcases ba.mp hw with hw | hw
   · exact .inl hw
   · rw [av.mp hw]; exact .inr X0.1
omit hh hl in
theorem tb3 : TB (.str "") := ⟨[[""]], rfl, ⟨by simp, by decide, fun ws hw => by rw [av.mp hw]; exact X0.1⟩, by decide +kernel⟩
omit hh hl in
theorem tb4 : TB (.str "BOXES") := ⟨[["BOXES"]], rfl, ⟨by simp, by decide, fun ws hw => by rw [av.mp hw]; exact zav (by decide +kernel)⟩, Jz (by decide +kernel) _⟩
theorem tb5 : TB (.str (wq h ++ "\n\n" ++ wq h)) := by
 have hf := (xa hh).1;refine ⟨zy h ++ eW :: zy h, ?_, okS hh hl (by simp) (by rw [ar, bi]; omega) fun ws hw => ?_, zfj X0.2 _ _⟩
 · rw [Yz (by simp [zy]) (by simp), show [("" : Str)] :: zy h = [[("" : Str)]] ++ zy h from rfl, Yz (by simp) (by simp [zy]), zit, Ku, zbz];congr 1;apply toList_inj;simp only [Zs, List.append_assoc];rfl
 · rcases ba.mp hw with hw | hw
   · exact .inl hw
   rcases ag.mp hw with rfl | hw
   · exact .inr X0.1
   · exact .inl hw
include hf in
theorem tb6 : TB (.str (wq h ++ "\nwork 1")) := by
 have hf2 := (xa hh).1;refine ⟨zy h ++ [kW], ?_, okS hh hl (by simp) (by rw [ar, ce]; omega) fun ws hw => ?_, Jj hh hl hf (by decide)⟩
 · rw [Yz (by simp [zy]) (by simp), zit, zbz, Zt, show nl ++ zq kW = "\nwork 1" by decide +kernel]
 · rcases ba.mp hw with hw | hw
   · exact .inl hw
   · rw [av.mp hw]; exact .inr zj5
include hf in
theorem tb7 : TB (.str (wq h ++ "\nSCRIPT")) := by
 have hf2 := (xa hh).1;refine ⟨zy h ++ [sW], ?_, okS hh hl (by simp) (by rw [ar, ce]; omega) fun ws hw => ?_, Jj hh hl hf (by decide)⟩
 · rw [Yz (by simp [zy]) (by simp), zit, zbz, Zt, show nl ++ zq sW = "\nSCRIPT" by decide +kernel]
 · rcases ba.mp hw with hw | hw
   · exact .inl hw
   · rw [av.mp hw]; exact .inr zo4
theorem tb8 : TB (.str (vw ((zy h).take 1 ++ [kW] ++ (zy h).drop 1))) := by
 have hf2 := (xa hh).1;refine ⟨_, rfl, okS hh hl (by simp) (by simp only [ar, ce, cg, List.length_drop]; omega) fun ws hw => ?_, ?_⟩
 · rcases ba.mp hw with hw | hw
   · rcases ba.mp hw with hw | hw
     · exact .inl (List.mem_of_mem_take hw)
     · rw [av.mp hw]; exact .inr zj5
   · exact .inl (List.mem_of_mem_drop hw)
 · show w4 (jp h :: (kW :: _)) = none;refine Xv ?_;rw [qx, Kk (by decide) (by simp)];rfl
include hs in
theorem tb9 : TB (.str (vw ((zy h).drop 1))) := by
 have hf2 := (xa hh).1;obtain ⟨s, ss, e⟩ : ∃ s ss, h.ss = s :: ss := by
  cases z : h.ss with
  | nil => exact absurd z hs
  | cons s ss => exact ⟨s, ss, rfl⟩
 have er : (zy h).drop 1 = sW :: (s.map dW ++ wm ss ++ h.fs.map (cW "FIRST")) := by
  show wm h.ss ++ h.fs.map (cW "FIRST") = _;rw [e];show (sW :: s.map dW) ++ wm ss ++ _ = _;simp
 refine ⟨_, rfl, okS hh hl (by rw [er]; simp) (by rw [List.length_drop]; omega) fun ws hw => .inl (List.mem_of_mem_drop hw), ?_⟩;rw [er];exact zkt (qo (by decide))
end
theorem zpy (l : List V) (n : Nat) : Z7 l none (some (n : Int)) = l.take n := by
 unfold Z7;rw [HT.sIx_nat, HT.sIx_none, List.drop_zero, Nat.sub_zero];by_cases h : n ≤ l.length
 · rw [Nat.min_eq_left h]
 · rw [Nat.min_eq_right (by omega), ci, List.take_of_length_le (by omega)]
theorem zgo (l : List V) (n : Nat) : Z7 l (some (n : Int)) none = l.drop n := by
 unfold Z7;rw [HT.sIx_nat, HT.sIx_none];by_cases h : n ≤ l.length
 · rw [Nat.min_eq_left h, List.take_of_length_le (by rw [List.length_drop]; omega)]
 · rw [Nat.min_eq_right (by omega), List.drop_length, List.drop_eq_nil_of_le (by omega), List.take_nil]
abbrev zjh : Stmt := top 78
abbrev nW : List Str := ["work", nnS]
noncomputable def L0 : List Str := ["wait 0 1", "raise 0", "await 1", "come"]
noncomputable def L1 : List Str := ["go 0 0", "leave", "work 1 2", "begin", "say", "say a b", "raise 0  1", "FIRST", "FIRST 0 0both"]
noncomputable def L2' : List Str := ["FIRST 0 0:", "FIRST 0 :both", "raise 01 1", "raise 0 +1", "raise -1 1", "work 1.0"]
noncomputable def L3 : List Str := ["await 0 x", "BOXES 1 WALLS", "BOXES 1 WALLS 0 0", "BOXES 00 WALLS 0", "SCRIPT 0", "script"]
noncomputable def L4 : List Str := ["work 1_0", "FIRST 0 0:each", "say Come", "say a1"]
noncomputable def L5 : List Str := ["FIRST 0  0:both", "work", "work 0x1", "BOXES -0 WALLS 0", "Begin 1", "FIRST x"]
theorem l1 : L1 = R1.map zq := by decide +kernel
theorem l2 : L2' = R2.map zq := by decide +kernel
theorem l3 : L3 = R3.map zq := by decide +kernel
theorem l4 : L4 = R4.map zq := by decide +kernel
theorem l5 : L5 = R5.map zq := by decide +kernel
noncomputable def w0T : List Tx := .cat (.var 4) (.lit " ") :: .cat (.lit " ") (.var 4) :: .cat (.lowr (.var 4)) (.lit " 0 0") :: .lit "" :: .cat (.var 4) (.lit " x") :: L0.map Tx.lit
noncomputable def f0T : List Tx := [.cat (.lit "\n") (.var 1), .cat (.var 1) (.lit "\n"), .lit "", .lit "BOXES", .cat (.cat (.var 1) (.lit "\n\n")) (.var 1), .cat (.var 1) (.lit "\nwork 1"), .cat (.var 1) (.lit "\nSCRIPT")]
theorem Js {σ : L2.St} : ∀ xs : List Str, DenL σ (xs.map Tx.lit) xs
 | [] => .nil
 | _ :: r => .cons .lit (Js r)
theorem Qp (a b : List (List Str)) : vL (a ++ b) = vL a ++ vL b := az
theorem Ki {R : List (List Str)} (e : ls = R.map zq) : ls.map V.str = vL R := by
 rw [e, cp];rfl
theorem zpc (hn : ws ≠ []) : zq ws ++ " " = zq (ws ++ eW) := by
 rw [Wr hn (by simp), Ku];apply toList_inj;simp only [Zs];rw [show ("" : Str).cps.toList = [] by decide, List.append_nil, zfp]
theorem zpd (hn : ws ≠ []) : (" " : Str) ++ zq ws = zq ("" :: ws) := by
 have := Wr (a := eW) (b := ws) (by simp) hn;rw [List.singleton_append] at this;rw [this, Ku, zfp];apply toList_inj;simp only [Zs];rw [show ("" : Str).cps.toList = [] by decide, List.nil_append]
theorem zpb (hn : ws ≠ []) : zq ws ++ " x" = zq (ws ++ xW) := by
 rw [Wr hn (by simp), Ku, Zt, show sp ++ ("x" : Str) = " x" by decide]
theorem zpa (hn : ws ≠ []) (hA : ∀ t ∈ ws, Asc t) : PySem.Txt.lower (zq ws) ++ " 0 0" = zq (ws.map low ++ zW) := by
 rw [Jd hn hA, Wr (fun z => hn (List.map_eq_nil_iff.mp z)) (by simp), Zt, show sp ++ zq zW = " 0 0" by decide +kernel]
theorem zoa {h : House} (hh : HouT h) : (wq h).length ≤ 60500 := by
 obtain ⟨h1, h2⟩ := xa hh;have h3 := Zp (sep := nl) (xs := (zy h).map zq) 500 fun x hx => by
  obtain ⟨ws, hw, rfl⟩ := ax.mp hx;have := zc6 (h2 ws hw);show _ + 1 ≤ 500;omega
 rw [ae] at h3;have : (zy h).length * 500 ≤ 121 * 500 := Nat.mul_le_mul_right _ h1;exact bp h3 (by omega)
theorem big_le (h : n ≤ 16777216) : n ≤ sizeLine := h
theorem zlj {lw : Addr} {W R : List (List Str)} (h6 : σ[6]? = some (some (.ref lw))) (g : H lw = some (.lst (vL W))) (e : ls = R.map zq) (hlen : W.length ≤ 100) (hr : R.length ≤ 100)
  (k : ∀ q H', Same H H' → H q = none → H' q = some (.lst (vL (W ++ R))) → Q (.ref q) H') : tOp zjn (zao 6) (zl5 (zqd (ls.map Tx.lit))) σ H Q := by
 have hl : (ls.map V.str).length = R.length := by rw [e, ae, ae]
 refine ⟨_, h6, ls, Js ls, by rw [hl]; exact zw (by omega), fun p hp => ?_⟩;have s1 := Same.new hp (.lst (ls.map V.str));have g1 : upd H p (.lst (ls.map V.str)) p = some (.lst (ls.map V.str)) := zf;generalize upd H p (.lst (ls.map V.str)) = H1 at s1 g1 ⊢;refine ⟨lw, p, _, _, rfl, rfl, s1 _ _ g, g1, ?_, fun q hq => ?_⟩
 · rw [hl, vL, ae]; exact zw (by omega)
 have hqH : H q = none := by
  cases z : H q with
  | none => rfl
  | some o => rw [s1 _ _ z] at hq; cases hq
 refine k q _ (s1.trans (Same.new hq _)) hqH ?_;rw [zf, Qp, Ki e]
theorem znx {xs : List (List Str)} (h : RowsOk xs) : JoinOk nl (xs.map zq) = true := by
 refine zbh 14015 (fun x hx => ?_) ?_
 · obtain ⟨ws, hw, rfl⟩ := ax.mp hx;have := Wq (h.each ws hw);show _ + 1 ≤ 14015;omega
 · rw [ae];have : xs.length * 14015 ≤ 400 * 14015 := Nat.mul_le_mul_right _ h.few;exact bp this (by decide)
noncomputable def zqx (K : PySem.W.Frag) : Sp := fun vs H Q _ => ∃ (a s : Addr) (ns : List Int) (h : House), vs = [.ref a, .str (wq h)] ∧ Tape K H a s ns ∧ HouT h ∧ LowH h ∧ h.fs ≠ [] ∧ h.ss ≠ [] ∧
 ∀ l xs H', But a H H' → Tape K H' a s ns → H' l = some (.lst xs) → xs.length ≤ 100 → (∀ x ∈ xs, TB x) → H l = none → Q (.ref l) H'
theorem But.updN (b : But a H H') (hl : H l = none) : But a H (L2.upd H' l o) := fun c u n e => by rw [zk (zj e hl)]; exact b c u n e
theorem Tape.updN (t0 : Tape K H a s ns) (hl0 : H l = none) (t : Tape K H' a s ns) : Tape K (L2.upd H' l o) a s ns := by
 obtain ⟨⟨p, r, e, h1, h2⟩, q, n, hl⟩ := t;have hla : l ≠ a := fun z => by obtain ⟨p, r, e, _⟩ := t0.at'; rw [z, e] at hl0; cases hl0
 refine ⟨⟨p, r, by rw [zk (ak hla)]; exact e, h1, h2⟩, ?_, n, hl⟩;have q0 := t0.seq;by_cases hls : s = l
 · subst hls;rcases q0 with (q0 | ⟨o', q0⟩) | q0
   · rw [hl0] at q0; cases q0
   · rw [hl0] at q0; cases q0
   · exact .inr q0
 · rcases q with (q | ⟨o', q⟩) | q
   · exact .inl (.inl (by rw [zk hls]; exact q))
   · exact .inl (.inr ⟨o', by rw [zk hls]; exact q⟩)
   · exact .inr q
theorem zba (t : Tape K H' a s ns) (b : But a H H') (h : H' l = none) : H l = none ∧ l ≠ a := by
 have hla : l ≠ a := fun z => by obtain ⟨p, r, e, _⟩ := t.at'; rw [z, e] at h; cases h
 refine ⟨?_, hla⟩;cases z : H l with
 | none => rfl
 | some o => rw [b _ _ hla z] at h; cases h
theorem zi6 {rows : List (List Str)} {m : Nat} {t1 t2 : TO}
  (h2 : σ[2]? = some (some (.ref l))) (gl : H l = some (.lst (vL rows))) (ht1 : ∀ (H : Hp) (Q : Option Int → Hp → Prop), Q (some (n : Int)) H → t1 σ H Q) (ht2 : ∀ (H : Hp) (Q : Option Int → Hp → Prop), Q (some (m : Int)) H → t2 σ H Q) (hte : ∀ (H : Hp) (Q : VK), Q (.str (zq r)) H → te σ H Q)
  (few : rows.length ≤ 200) (k : ∀ p H', Same H H' → H p = none → H' p = some (.lst (vL (rows.take n ++ [r] ++ rows.drop m))) → Q (.ref p) H') :
  tOp zjn (tOp zjn (tSl (zou K) (zao 2) zap t1) (zl5 (Yi te zea))) (tSl (zou K) (zao 2) t2 zap) σ H Q := by
 refine ⟨_, h2, ht1 _ _ ⟨l, _, rfl, SqL.of gl, fun p1 hp1 => ?_⟩⟩;rw [zpy, vL, ← List.map_take];have s1 := Same.new hp1 (.lst (vL (rows.take n)));have g1 : upd H p1 (.lst (vL (rows.take n))) p1 = some (.lst (vL (rows.take n))) := zf;show zl5 _ _ (upd H p1 (.lst (vL (rows.take n)))) _;generalize upd H p1 (.lst (vL (rows.take n))) = H1 at s1 g1 ⊢;refine hte _ _ ⟨by show 1 ≤ sizeLine; decide, fun p2 hp2 => ?_⟩;have s2 := Same.new hp2 (.lst [.str (zq r)]);have g2 : upd H1 p2 (.lst [.str (zq r)]) p2 = some (.lst [.str (zq r)]) := zf;generalize upd H1 p2 (.lst [.str (zq r)]) = H2 at s2 g2 ⊢;have lt : (vL (rows.take n)).length ≤ 200 := by rw [vL, ae, cg]; omega
 refine ⟨p1, p2, _, _, rfl, rfl, s2 _ _ g1, g2, zw (by simp only [bi, List.length_nil]; omega), fun p3 hp3 => ?_⟩;have e3 : vL (rows.take n) ++ [.str (zq r)] = vL (rows.take n ++ [r]) := by rw [Qp]; rfl
 rw [e3];have s3 := Same.new hp3 (.lst (vL (rows.take n ++ [r])));have g3 : upd H2 p3 (.lst (vL (rows.take n ++ [r]))) p3 = some (.lst (vL (rows.take n ++ [r]))) := zf;generalize upd H2 p3 (.lst (vL (rows.take n ++ [r]))) = H3 at s3 g3 ⊢;have s03 := s1.trans (s2.trans s3);refine ⟨_, h2, ht2 _ _ ⟨l, _, rfl, SqL.of (s03 _ _ gl), fun p4 hp4 => ?_⟩⟩;rw [zgo, vL, ← List.map_drop];have s4 := Same.new hp4 (.lst (vL (rows.drop m)));have g4 : upd H3 p4 (.lst (vL (rows.drop m))) p4 = some (.lst (vL (rows.drop m))) := zf;show zjn _ _ (upd H3 p4 (.lst (vL (rows.drop m)))) _;generalize upd H3 p4 (.lst (vL (rows.drop m))) = H4 at s4 g4 ⊢;have ld : (vL (rows.drop m)).length ≤ 200 := by rw [vL, ae, List.length_drop]; omega
 have l3 : (vL (rows.take n ++ [r])).length ≤ 201 := by rw [Qp, ar]; have : (vL [r]).length = 1 := rfl; omega
 refine ⟨p3, p4, _, _, rfl, rfl, s4 _ _ g3, g4, zw (by omega), fun p5 hp5 => ?_⟩;have s04 := s03.trans s4;have hp5H : H p5 = none := by
  cases z : H p5 with
  | none => rfl
  | some o => rw [s04 _ _ z] at hp5; cases hp5
 refine k p5 _ (s04.trans (Same.new hp5 _)) hp5H ?_;rw [zf, ← Qp]
theorem zjc : FnScope ["deck", "text", "lines", "at", "line", "nines", "worse", "found", "turn", "one"] ["deck", "text"] (zi zjh) := .of
theorem zo5 (D : Def K mg "_law_e_no_texts" zjh) (T : Txt K mg) (o1 : Ok P w K mg base "_law_e_pick" 2 ["deck", "many"] (zi8 K)) : Ok P w K mg base "_law_e_no_texts" 3 ["deck", "text"] (zqx K) := by
 refine vp D zjc (fun vs H Q E ⟨_, _, _, _, e, _⟩ => by rw [e]; rfl) fun f cdv A outer sh H vs Q E hr h => ?_;obtain ⟨a, s, ns, h, rfl, T0, hh, hl, hfs, hss, kk⟩ := h;have nd := zjc.nd;refine ⟨_, ze (zr (i := 2) nd rfl (Or.inl rfl) (wn PySem.F.plainAttrs_str PySem.F.slot_str_split PySem.F.type_str_split Jb (pv 1) (zc zl zd)))
  (ze (zr (i := 3) nd rfl (Or.inl rfl) (ya o1 hr (zc (pv 0) (zc (yf yg (by rfl) T.len xp (zc (pv 2) zd)) zd))))
  (ze (zr (i := 4) nd rfl (Or.inl rfl) (zp yi (pv 2) (pv 3) (fun _ _ => rfl)))
  (ze (zr (i := 5) nd rfl (Or.inl rfl) (yc zen zl zg))
  (ze (zr (i := 6) nd rfl (Or.inl rfl) (yr (Vy (ts := w0T) (by kernel_rfl))))
  (ze (zr (i := 6) nd rfl (Or.inl rfl) (yc qd (pv 6) (yr (Vy (ts := L1.map Tx.lit) (by kernel_rfl)))))
  (ze (zr (i := 6) nd rfl (Or.inl rfl) (yc qd (pv 6) (yr (Vy (ts := L2'.map Tx.lit) (by kernel_rfl)))))
  (ze (yy (wn PySem.F.plainAttrs_list PySem.F.slot_list_append PySem.F.type_list_append xb (pv 6) (zc (yc ym zl (pv 5)) zd)))
  (ze (zr (i := 6) nd rfl (Or.inl rfl) (yc qd (pv 6) (yr (Vy (ts := L3.map Tx.lit) (by kernel_rfl)))))
  (ze (zr (i := 6) nd rfl (Or.inl rfl) (yc qd (pv 6) (yr (Vy (ts := L4.map Tx.lit) (by kernel_rfl)))))
  (ze (zr (i := 6) nd rfl (Or.inl rfl) (yc qd (pv 6) (yr (Vy (ts := L5.map Tx.lit) (by kernel_rfl)))))
  (ze (zr (i := 7) nd rfl (Or.inl rfl) (yr (Vy (ts := f0T) (by kernel_rfl))))
  (ze (yy (wn PySem.F.plainAttrs_list PySem.F.slot_list_append PySem.F.type_list_append xb (pv 7) (zc (wn PySem.F.plainAttrs_str PySem.F.slot_str_join PySem.F.type_str_join Wm zl (zc (yc qd (yc qd (wg je (pv 2) w6 (w5 zg)) (yr (zc zl zd))) (wg je (pv 2) (w5 zg) w6)) zd)) zd)))
  (ze (yy (wn PySem.F.plainAttrs_list PySem.F.slot_list_append PySem.F.type_list_append xb (pv 7) (zc (wn PySem.F.plainAttrs_str PySem.F.slot_str_join PySem.F.type_str_join Wm zl (zc (wg je (pv 2) (w5 zg) w6) zd)) zd)))
  (ze (wr PassesOwn.never rfl (qz rfl T.range (zc zg zd)) (yd (i := 8) nd rfl (Or.inl rfl))
   (ze (zr (i := 9) nd rfl (Or.inl rfl) (zp yi (pv 6) (ya o1 hr (zc (pv 0) (zc (yf yg (by rfl) T.len xp (zc (pv 6) zd)) zd))) (fun _ _ => rfl)))
   (zh (yy (wn PySem.F.plainAttrs_list PySem.F.slot_list_append PySem.F.type_list_append xb (pv 7) (zc (wn PySem.F.plainAttrs_str PySem.F.slot_str_join PySem.F.type_str_join Wm zl (zc (yc qd (yc qd (wg je (pv 2) w6 (w5 (pv 3))) (yr (zc (pv 9) zd))) (wg je (pv 2) (w5 (yc vo (pv 3) zg)) w6)) zd)) zd))))))
  (zh (zn (pv 7))))))))))))))))), ?_⟩
 have ok := Qe hh hl;have h121 := (xa hh).1;have h60 := zoa hh;have hsp : PySem.Txt.split (wq h) nl = (zy h).map zq := Qq ok;refine ⟨_, rfl, rfl, wq h, nl, rfl, rfl, rfl, big_le (by omega), by rw [hsp, ae]; exact zw (by omega), fun l H1 s1 hl1 g1 => ?_⟩;rw [hsp] at g1;have hl0 : (zy h).length ≥ 1 := by unfold zy; rw [bi]; omega
 have T1 := T0.same s1;have la : l ≠ a := fun z => by obtain ⟨p, r, e, _⟩ := T0.at'; rw [z, e] at hl1; cases hl1
 refine ⟨_, rfl, _, rfl, l, _, rfl, .inl (SqL.of g1), a, s, ns, _, rfl, T1, ?_, ?_, fun d H2 h0 hlt b2 T2 => ?_⟩
 · rw [ae, ae]; omega
 · rw [ae, ae]; exact Int.lt_of_le_of_lt (show ((zy h).length : Int) ≤ 121 by omega) (by decide)
 rw [ae, ae] at hlt;obtain ⟨n, rfl⟩ := Int.eq_ofNat_of_zero_le h0;have hn : n < (zy h).length := by omega
 have g2 : H2 l = some (.lst (((zy h).map zq).map V.str)) := b2 _ _ la g1;obtain ⟨ws, hws⟩ : ∃ ws, (zy h)[n]? = some ws := ⟨_, be hn⟩
 have hwm := bz hws;refine ⟨_, rfl, _, rfl, l, _, _, _, rfl, rfl, SqL.of g2, we (v := .str (zq ws)) (by rw [ay, ay, hws]; rfl), ?_⟩;refine ⟨"9", 31, rfl, rfl, by decide, by decide, by decide, by decide, big_le (by decide +kernel), ?_⟩;have k := zbf hh hl ws hwm;obtain ⟨hne, hA⟩ := Jg hh k;have hll := Wq (Vg hh hl ws hwm);have hlw : (PySem.Txt.lower (zq ws)).length ≤ 14014 := by
  rw [Jd hne hA];have e := Zp (sep := sp) (xs := ws.map low) 1001 fun t ht => by
   obtain ⟨y, hy, rfl⟩ := ax.mp ht;rw [zf7];have := ((Vg hh hl ws hwm).each y hy).1;show y.length + 1 ≤ 1001;omega
  have e2 := (Vg hh hl ws hwm).few;rw [ae] at e;have : ws.length * 1001 ≤ 14 * 1001 := Nat.mul_le_mul_right _ e2;exact bp e (by omega)
 have s01 := s1;have b1 : But a H H2 := fun c o nc e => b2 c o nc (s1 _ _ e);have gl2 : H2 l = some (.lst (vL (zy h))) := by rw [g2]; exact congrArg (fun z => some (HO.lst z)) (Ki rfl)
 have hll2 : Builtin.Str.tooLong (PySem.Txt.lower (zq ws)).length = false := by
  unfold Builtin.Str.tooLong;have h16 : 14014 ≤ sizeLine := by decide
  exact bn (by omega)
 have e0 : L0 = [zq ["wait", "0", "1"], zq ["raise", "0"], zq ["await", "1"], zq ["come"]] := by decide +kernel
 refine ⟨(R0 ws).map zq, ?_, by rw [ae, ae]; show 9 ≤ sizeLine; decide, fun lw0 hlw0 => ?_⟩
 · show DenL _ w0T [zq (ws ++ eW), zq ("" :: ws), zq (ws.map low ++ zW), "", zq (ws ++ xW), zq ["wait", "0", "1"], zq ["raise", "0"], zq ["await", "1"], zq ["come"]];rw [← zpc hne, ← zpd hne, ← zpa hne hA, ← zpb hne];have a1 : (" " : Str).length = 1 := rfl;have a2 : (" 0 0" : Str).length = 4 := rfl;have a3 : (" x" : Str).length = 2 := rfl;exact .cons (.cat (.var rfl) .lit (big_le (by omega))) (.cons (.cat .lit (.var rfl) (big_le (by omega))) (.cons (.cat (.lowr (.var rfl) hll2) .lit (big_le (by omega))) (.cons .lit (.cons (.cat (.var rfl) .lit (big_le (by omega))) (e0 ▸ Js L0)))))
 rw [Ki (R := R0 ws) rfl];have s3 := Same.new hlw0 (.lst (vL (R0 ws)));have g3 : upd H2 lw0 (.lst (vL (R0 ws))) lw0 = some (.lst (vL (R0 ws))) := zf;generalize upd H2 lw0 (.lst (vL (R0 ws))) = H3 at s3 g3 ⊢;refine zlj (lw := lw0) (W := R0 ws) (R := R1) rfl g3 l1 (by show 9 ≤ 100; decide) (by decide) fun lw1 H4 s4 hn4 g4 => ?_;refine zlj (lw := lw1) (W := R0 ws ++ R1) (R := R2) rfl g4 l2 (by rw [ar]; show 9 + 9 ≤ 100; decide) (by decide) fun lw2 H5 s5 hn5 g5 => ?_;have s25 := s3.trans (s4.trans s5);have b5 : But a H H5 := fun c o nc e => s25 _ _ (b1 c o nc e);have T5 := T2.same s25;have gl5 := s25 _ _ gl2;obtain ⟨hN2, n2a⟩ : H lw2 = none ∧ lw2 ≠ a := by
  have : H4 lw2 = none := hn5;exact zba (T2.same (s3.trans s4)) (fun c o nc e => (s3.trans s4) _ _ (b1 c o nc e)) this
 have ll2 : l ≠ lw2 := fun z => by
  have h1 := (s3.trans s4) _ _ gl2;rw [z] at h1;have : H4 lw2 = none := hn5;rw [this] at h1; cases h1
 have ew : ("work " : Str) ++ nnS = zq nW := by decide +kernel
 have lw5 : (vL (R0 ws ++ R1 ++ R2)).length = 24 := by rw [vL, ae]; rfl
 refine ⟨_, rfl, .inl ⟨rfl, _, SqL.of g5⟩, _, rfl, "work ", nnS, rfl, rfl, big_le (by decide +kernel), lw2, _, _, rfl, rfl, g5, by rw [lw5]; decide, ?_⟩;rw [ew, show vL (R0 ws ++ R1 ++ R2) ++ [.str (zq nW)] = vL (R0 ws ++ R1 ++ R2 ++ [nW]) by rw [Qp (R0 ws ++ R1 ++ R2) [nW]]; rfl];have b6 := b5.updN (o := .lst (vL (R0 ws ++ R1 ++ R2 ++ [nW]))) hN2;have T6 := T0.updN (o := .lst (vL (R0 ws ++ R1 ++ R2 ++ [nW]))) hN2 T5;have gl6 : upd H5 lw2 (.lst (vL (R0 ws ++ R1 ++ R2 ++ [nW]))) l = some (.lst (vL (zy h))) := by rw [zk ll2]; exact gl5
 have g6 : upd H5 lw2 (.lst (vL (R0 ws ++ R1 ++ R2 ++ [nW]))) lw2 = some (.lst (vL (R0 ws ++ R1 ++ R2 ++ [nW]))) := zf;generalize upd H5 lw2 (.lst (vL (R0 ws ++ R1 ++ R2 ++ [nW]))) = H6 at b6 T6 gl6 g6 ⊢;refine zlj (lw := lw2) (W := R0 ws ++ R1 ++ R2 ++ [nW]) (R := R3) rfl g6 l3 (by show 25 ≤ 100; decide) (by decide) fun lw3 H7 s7 hn7 g7 => ?_;refine zlj (lw := lw3) (W := R0 ws ++ R1 ++ R2 ++ [nW] ++ R3) (R := R4) rfl g7 l4 (by show 31 ≤ 100; decide) (by decide) fun lw4 H8 s8 hn8 g8 => ?_;refine zlj (lw := lw4) (W := R0 ws ++ R1 ++ R2 ++ [nW] ++ R3 ++ R4) (R := R5) rfl g8 l5 (by show 35 ≤ 100; decide) (by decide) fun lw H9 s9 hn9 g9 => ?_;have hW : ∀ r ∈ R0 ws ++ R1 ++ R2 ++ [nW] ++ R3 ++ R4 ++ R5, J3 r := fun r hr => by
  simp only [ba] at hr;rcases hr with (((((hr | hr) | hr) | hr) | hr) | hr) | hr
  · exact zsy hh hl hwm r hr
  · exact zsx r hr
  · exact zsw r hr
  · rw [av.mp hr]; exact zss
  · exact zsv r hr
  · exact zsu r hr
  · exact zst r hr
 have hWl : (R0 ws ++ R1 ++ R2 ++ [nW] ++ R3 ++ R4 ++ R5).length = 41 := rfl;generalize R0 ws ++ R1 ++ R2 ++ [nW] ++ R3 ++ R4 ++ R5 = W at hW hWl g9;have s69 := s7.trans (s8.trans s9);have b9 : But a H H9 := fun c o nc e => s69 _ _ (b6 c o nc e);have T9 := T6.same s69;have gl9 := s69 _ _ gl6;have lwa : lw ≠ a := (zba (T6.same (s7.trans s8)) (fun c o nc e => (s7.trans s8) _ _ (b6 c o nc e)) (show H8 lw = none from hn9)).2;clear s3 s4 s5 s7 s8 s9 s69 s25 g3 g4 g5 g6 g7 g8 hn4 hn5 hn7 hn8;have tn1 : ("\n" : Str).length = 1 := rfl;have tn2 : ("\n\n" : Str).length = 2 := rfl;have tn3 : ("\nwork 1" : Str).length = 7 := rfl;have tn4 : ("\nSCRIPT" : Str).length = 7 := rfl;refine ⟨["\n" ++ wq h, wq h ++ "\n", "", "BOXES", wq h ++ "\n\n" ++ wq h, wq h ++ "\nwork 1", wq h ++ "\nSCRIPT"], ?_, by show 7 ≤ sizeLine; decide, fun lf hlf => ?_⟩
 · exact .cons (.cat .lit (.var rfl) (big_le (by omega))) (.cons (.cat (.var rfl) .lit (big_le (by omega))) (.cons .lit (.cons .lit (.cons (.cat (.cat (.var rfl) .lit (big_le (by omega))) (.var rfl) (big_le (by rw [xq]; omega))) (.cons (.cat (.var rfl) .lit (big_le (by omega))) (.cons (.cat (.var rfl) .lit (big_le (by omega))) .nil))))))
 have hf7 : ∀ x ∈ (["\n" ++ wq h, wq h ++ "\n", "", "BOXES", wq h ++ "\n\n" ++ wq h, wq h ++ "\nwork 1", wq h ++ "\nSCRIPT"] : List Str).map V.str, TB x := fun x hx => by
  simp only [bh, List.map_nil, ag, aw, or_false] at hx;rcases hx with rfl | rfl | rfl | rfl | rfl | rfl | rfl
  · exact tb1 hh hl
  · exact tb2 hh hl
  · exact tb3
  · exact tb4
  · exact tb5 hh hl
  · exact tb6 hh hl hfs
  · exact tb7 hh hl hfs
 have hf7l : ((["\n" ++ wq h, wq h ++ "\n", "", "BOXES", wq h ++ "\n\n" ++ wq h, wq h ++ "\nwork 1", wq h ++ "\nSCRIPT"] : List Str).map V.str).length = 7 := rfl;generalize (["\n" ++ wq h, wq h ++ "\n", "", "BOXES", wq h ++ "\n\n" ++ wq h, wq h ++ "\nwork 1", wq h ++ "\nSCRIPT"] : List Str).map V.str = fs at hf7 hf7l ⊢;obtain ⟨hlfH, lfa⟩ := zba T9 b9 hlf;have lfl : lf ≠ l := fun z => by rw [z, gl9] at hlf; cases hlf
 have lflw : lf ≠ lw := fun z => by rw [z, g9] at hlf; cases hlf
 have s10 := Same.new hlf (.lst fs);have b10 : But a H (upd H9 lf (.lst fs)) := fun c o nc e => s10 _ _ (b9 c o nc e);have T10 := T9.same s10;have gl10 := s10 _ _ gl9;have gw10 := s10 _ _ g9;have gf10 : upd H9 lf (.lst fs) lf = some (.lst fs) := zf;generalize upd H9 lf (.lst fs) = H10 at b10 T10 gl10 gw10 gf10 ⊢;have push : ∀ {H' : Hp} {fs : List V} {rows : List (List Str)}, But a H H' → Tape K H' a s ns → H' l = some (.lst (vL (zy h))) → H' lw = some (.lst (vL W)) → H' lf = some (.lst fs) → (∀ x ∈ fs, TB x) → TB (.str (vw rows)) →
   But a H (upd H' lf (.lst (fs ++ [.str (vw rows)]))) ∧ Tape K (upd H' lf (.lst (fs ++ [.str (vw rows)]))) a s ns ∧ upd H' lf (.lst (fs ++ [.str (vw rows)])) l = some (.lst (vL (zy h))) ∧ upd H' lf (.lst (fs ++ [.str (vw rows)])) lw = some (.lst (vL W)) ∧ ∀ x ∈ fs ++ [.str (vw rows)], TB x := fun {H' fs rows} b t gl gw gf hf tb =>
  ⟨b.updN hlfH, T0.updN hlfH t, by rw [zk (ak lfl)]; exact gl, by rw [zk (ak lflw)]; exact gw, fun x hx => (ba.mp hx).elim (hf x) fun hx => by rw [av.mp hx]; exact tb⟩
 refine ⟨_, rfl, .inl ⟨rfl, _, SqL.of gf10⟩, rfl, ?_⟩;refine zi6 (l := l) (rows := zy h) (r := kW) (n := 1) (m := 1) rfl gl10 (fun H Q q => ⟨1, rfl, q⟩) (fun H Q q => ⟨1, rfl, q⟩) (fun H Q q => (show Q (.str "work 1") H from (show zq kW = "work 1" by decide +kernel) ▸ q)) (by omega) fun p11 H11 s11 hp11 g11 => ?_;have ok8 : RowsOk ((zy h).take 1 ++ [kW] ++ (zy h).drop 1) := by
  obtain ⟨_, _, o, _⟩ := tb8 hh hl;exact okS hh hl (by simp) (by simp only [ar, cg, List.length_drop, bi, List.length_nil]; omega) fun ws hw => by
   rcases ba.mp hw with hw | hw
   · rcases ba.mp hw with hw | hw
     · exact .inl (List.mem_of_mem_take hw)
     · rw [av.mp hw]; exact .inr zj5
   · exact .inl (List.mem_of_mem_drop hw)
 refine ⟨nl, p11, ((zy h).take 1 ++ [kW] ++ (zy h).drop 1).map zq, rfl, rfl, by rw [g11]; exact congrArg (fun z => some (HO.lst z)) (Ki rfl).symm, znx ok8, ?_⟩;refine ⟨lf, _, _, rfl, rfl, s11 _ _ gf10, by rw [hf7l]; decide, ?_⟩;obtain ⟨b12, T12, gl12, gw12, hf8⟩ := push (fun c o nc e => s11 _ _ (b10 c o nc e)) (T10.same s11) (s11 _ _ gl10) (s11 _ _ gw10) (s11 _ _ gf10) hf7 (tb8 hh hl);have gf12 : upd H11 lf (.lst (fs ++ [.str (vw ((zy h).take 1 ++ [kW] ++ (zy h).drop 1))])) lf = some (.lst (fs ++ [.str (vw ((zy h).take 1 ++ [kW] ++ (zy h).drop 1))])) := zf;have hf8l : (fs ++ [V.str (vw ((zy h).take 1 ++ [kW] ++ (zy h).drop 1))]).length = 8 := by rw [ar, hf7l]; rfl
 generalize hfs8 : fs ++ [V.str (vw ((zy h).take 1 ++ [kW] ++ (zy h).drop 1))] = fs8 at b12 T12 gl12 gw12 gf12 hf8 hf8l;have hfs8' : fs ++ [V.str (PySem.Txt.join nl (((zy h).take 1 ++ [kW] ++ (zy h).drop 1).map zq))] = fs8 := hfs8;rw [hfs8'];generalize upd H11 lf (.lst fs8) = H12 at b12 T12 gl12 gw12 gf12 ⊢;refine ⟨_, rfl, .inl ⟨rfl, _, SqL.of gf12⟩, rfl, ?_⟩;refine ⟨_, rfl, 1, rfl, l, _, rfl, SqL.of gl12, fun p13 hp13 => ?_⟩;have e13 : Z7 (vL (zy h)) (some 1) none = vL ((zy h).drop 1) := by rw [vL, vL, List.map_drop]; exact zgo _ 1
 rw [e13];have s13 := Same.new hp13 (.lst (vL ((zy h).drop 1)));have g13 : upd H12 p13 (.lst (vL ((zy h).drop 1))) p13 = some (.lst (vL ((zy h).drop 1))) := zf;generalize upd H12 p13 (.lst (vL ((zy h).drop 1))) = H13 at s13 g13 ⊢;have ok9 : JoinOk nl (((zy h).drop 1).map zq) = true := by
  refine zbh 14015 (fun x hx => ?_) ?_
  · obtain ⟨ws, hw, rfl⟩ := ax.mp hx;have := Wq (ok.each ws (List.mem_of_mem_drop hw));show _ + 1 ≤ 14015;omega
  · rw [ae, List.length_drop];have : ((zy h).length - 1) * 14015 ≤ 400 * 14015 := Nat.mul_le_mul_right _ (by omega);exact bp this (by decide)
 refine ⟨nl, p13, ((zy h).drop 1).map zq, rfl, rfl, by rw [g13]; exact congrArg (fun z => some (HO.lst z)) (Ki rfl).symm, ok9, ?_⟩;refine ⟨lf, _, _, rfl, rfl, s13 _ _ gf12, by rw [hf8l]; decide, ?_⟩;obtain ⟨b14, T14, gl14, gw14, hf9⟩ := push (fun c o nc e => s13 _ _ (b12 c o nc e)) (T12.same s13) (s13 _ _ gl12) (s13 _ _ gw12) (s13 _ _ gf12) hf8 (tb9 hh hl hss);have gf14 : upd H13 lf (.lst (fs8 ++ [.str (vw ((zy h).drop 1))])) lf = some (.lst (fs8 ++ [.str (vw ((zy h).drop 1))])) := zf;have hf9l : (fs8 ++ [V.str (vw ((zy h).drop 1))]).length = 9 := by rw [ar, hf8l]; rfl
 generalize hfs9 : fs8 ++ [V.str (vw ((zy h).drop 1))] = fs9 at b14 T14 gl14 gw14 gf14 hf9 hf9l;have hfs9' : fs8 ++ [V.str (PySem.Txt.join nl (((zy h).drop 1).map zq))] = fs9 := hfs9;rw [hfs9'];generalize upd H13 lf (.lst fs9) = H14 at b14 T14 gl14 gw14 gf14 ⊢;refine ⟨8, rfl, by decide, by decide, ?_⟩;refine j4 (lo := 0) (n := (8 : Int).toNat) (fun i σ H' => (∃ fs, But a H H' ∧ Tape K H' a s ns ∧ H' l = some (.lst (vL (zy h))) ∧ H' lw = some (.lst (vL W)) ∧ H' lf = some (.lst fs) ∧ (∀ x ∈ fs, TB x) ∧ fs.length = 9 + i) ∧ ∃ x8 x9, σ = [some (.ref a), some (.str (wq h)), some (.ref l), some (.int (n : Int)), some (.str (zq ws)), some (.str nnS), some (.ref lw), some (.ref lf), x8, x9]) ⟨⟨fs9, b14, T14, gl14, gw14, gf14, hf9, hf9l⟩, none, none, rfl⟩ ?_ ?_;rotate_left
 · rintro σ H15 ⟨⟨gs, b15, T15, _, _, gf15, hf15, hl15⟩, x8, x9, rfl⟩;exact ⟨_, rfl, kk lf gs H15 b15 T15 gf15 (by rw [hl15]; decide) hf15 hlfH⟩
 rintro i σ H15 hi ⟨⟨gs, b15, T15, gl15, gw15, gf15, hf15, hl15⟩, x8, x9, rfl⟩;have hi : i < 8 := hi;have hWv : (vL W).length = 41 := by rw [vL, ae, hWl]
 refine ⟨_, rfl, _, rfl, _, rfl, lw, _, rfl, .inl (SqL.of gw15), a, s, ns, _, rfl, T15, by rw [hWv]; decide, by rw [hWv]; decide, fun d H16 h0 hlt b16 T16 => ?_⟩;rw [hWv] at hlt;obtain ⟨j, rfl⟩ := Int.eq_ofNat_of_zero_le h0;have hj : j < W.length := by omega
 obtain ⟨r, hr⟩ : ∃ r, W[j]? = some r := ⟨_, be hj⟩
 have gw16 := b16 _ _ lwa gw15;have gl16 := b16 _ _ la gl15;have gf16 := b16 _ _ lfa gf15;have bt := hW r (bz hr);refine ⟨lw, _, _, _, rfl, rfl, SqL.of gw16, we (v := .str (zq r)) (by rw [vL, ay, hr]; rfl), ?_⟩;refine ⟨_, rfl, .inl ⟨rfl, _, SqL.of gf16⟩, rfl, ?_⟩;refine zi6 (l := l) (rows := zy h) (r := r) (n := n) (m := n + 1) rfl gl16 (fun H Q q => ⟨_, rfl, _, rfl, q⟩) (fun H Q q => ⟨_, rfl, _, _, rfl, rfl, _, rfl, q⟩) (fun H Q q => ⟨_, rfl, q⟩) (by omega) fun p17 H17 s17 hp17 g17 => ?_;rw [List.append_assoc, List.singleton_append] at g17;have tbr := zqc hh hl bt n;have okr : RowsOk ((zy h).take n ++ r :: (zy h).drop (n + 1)) := okS hh hl (by simp) (by simp only [ar, cg, List.length_drop, bi]; omega) fun ws hw => by
  rcases ba.mp hw with hw | hw
  · exact .inl (List.mem_of_mem_take hw)
  rcases ag.mp hw with rfl | hw
  · exact .inr bt.1
  · exact .inl (List.mem_of_mem_drop hw)
 refine ⟨nl, p17, ((zy h).take n ++ r :: (zy h).drop (n + 1)).map zq, rfl, rfl, by rw [g17]; exact congrArg (fun z => some (HO.lst z)) (Ki rfl).symm, znx okr, ?_⟩;refine ⟨lf, _, _, rfl, rfl, s17 _ _ gf16, y7 (by omega), ?_⟩;obtain ⟨b18, T18, gl18, gw18, hf18⟩ := push (fun c o nc e => s17 _ _ (b16 c o nc (b15 c o nc e))) (T16.same s17) (s17 _ _ gl16) (s17 _ _ gw16) (s17 _ _ gf16) hf15 tbr;exact ⟨⟨_, b18, T18, gl18, gw18, zf, hf18, by rw [ar, hl15]; show 9 + i + 1 = 9 + (i + 1); omega⟩, _, _, rfl⟩
abbrev zji : Stmt := top 79
noncomputable def tS (x : Str) : L2.Tm := .con (.str x)
noncomputable def tI (i : Int) : L2.Tm := .con (.int i)
noncomputable def fAT : L2.Tm := .lst [.tup [tI 100, .var 3, .var 4, .var 5], .tup [.var 2, tI 7, .var 4, .var 5], .tup [.var 7, .var 3, .var 4, .var 5]]
noncomputable def fBT : L2.Tm := .add (.var 8) (.lst [.tup [.var 2, .var 3, .tup [], .var 5], .tup [.var 2, .var 3, .add (.var 4) (.tup [.tup [.var 6, .tup []]]), .var 5]])
noncomputable def fCT : L2.Tm := .add (.var 8) (.lst [.tup [.var 2, .var 3, .add (.var 4) (.tup [.tup [tI 0, .tup [.tup [.var 3, tS "both"]]]]), .var 5], .tup [.var 2, .var 3, .tup [], .tup []]])
noncomputable def fDT : L2.Tm := .add (.var 8) (.lst [.tup [.var 2, .add (.var 3) (tI 2), .add (.var 4) (.tup [.tup [tI 0, .tup [.tup [tI 1, tS "both"], .tup [tI 0, tS "both"]]]]), .var 5]])
noncomputable def bAT : L2.Tm := .lst [.tup [tS "raise", .var 2, tI 1], .tup [tS "raise", tI 0, tI 0], .tup [tS "raise", tI 0, tI 100], .tup [tS "await", tI 0, tI 0], .tup [tS "await", tI 0, tI 10000]]
noncomputable def bBT : L2.Tm := .add (.var 9) (.lst [.tup [tS "work", tI 1000], .tup [tS "say", tS "abcdefghi"]])
noncomputable def bCT : L2.Tm := .add (.var 9) (.lst [.tup [tS "come", .var 3], .tup [tS "go", .var 3], .tup [tS "leave", .var 3], .tup [tS "begin", tI 0, .tup []], .tup [tS "begin", .var 6, .tup []]])
noncomputable def bDT : L2.Tm := .add (.var 9) (.lst [.tup [tS "work", .var 7], .tup [tS "raise", .var 7, tI 1], .tup [tS "await", .var 2, .var 7]])
noncomputable def hDT : L2.Tm := .tup [.var 2, .var 3, .var 4, .add (.tup [.add (.ix (.var 5) (tI 0)) (.tup [.var 10])]) (.frm (.var 5) (tI 1))]
theorem Wo {α β : Type} (g : α → β) (l : List α) (x : α) : l.map g ++ [g x] = (l ++ [x]).map g := by rw [az]; rfl
theorem zdt {us : List T} (h : ts.length + us.length ≤ 1000) : Vr (some (.tup ts)) (some (.tup us)) = some (.tup (ts ++ us)) := if_pos h
theorem tmE {tm : L2.Tm} (l : Kd) (t : T) (hl : ∀ p ∈ l, ∃ v, σ[p.1]? = some (some v) ∧ Is H p.2 v) (hd : tm.den l = some t) (k : ∀ v H', Same H H' → Is H' t v → Q v H') : ziw tm σ H Q :=
 ⟨fun _ => False, l, t, ⟨fun c hc => hc.elim, fun p hp => let ⟨v, h1, h2⟩ := hl p hp; ⟨v, h1, h2.off0⟩⟩, hd, fun v H' s i => k v H' s i.off⟩
theorem tmS {S : Addr → Prop} {tm : L2.Tm} (d : Sd S H) (l : Kd) (t : T) (hl : ∀ p ∈ l, ∃ v, σ[p.1]? = some (some v) ∧ Is (off S H) p.2 v) (hd : tm.den l = some t) (k : ∀ v H', Same H H' → Is (off S H') t v → Q v H') : ziw tm σ H Q :=
 ⟨S, l, t, ⟨d, hl⟩, hd, k⟩
theorem zdz {S : Addr → Prop} {tm : L2.Tm} {jk : TS} (σ' : V → L2.St) (hσ : ∀ v, σ.set i (some v) = σ' v) (d : Sd S H) (l : Kd) (t : T) (hl : ∀ p ∈ l, ∃ v, σ[p.1]? = some (some v) ∧ Is (off S H) p.2 v) (hd : tm.den l = some t)
  (k : ∀ v H', Same H H' → Is (off S H') t v → jk D (σ' v) H') : V5 (zl9 (ziw tm) (Ye i)) jk D σ H :=
 tmS d l t hl hd fun v H' s it => by
  show jk D (σ.set i (some v)) H';rw [hσ];exact k v H' s it
noncomputable def zd2 (H : Hp) : Addr → Prop := fun c => ∃ zs, H c = some (.lst zs)
theorem Ze (s : Same H H') : Sd (zd2 H) H' := fun c ⟨zs, e⟩ z => by rw [s _ _ e] at z; cases z
theorem Kt (s : Same H H') : xk H' (off (zd2 H) H') := fun c xs e => by
 unfold L2.off;rw [if_neg fun ⟨zs, z⟩ => by rw [s _ _ z] at e; cases e];exact e
theorem zc4 (s : Same H H') (i : Is (off (zd2 H) H') (.lst ts) v) : ∃ l xs, v = .ref l ∧ H l = none ∧ H' l = some (.lst xs) ∧ L2.IsL H' ts xs := by
 obtain ⟨l, xs, rfl, e, il⟩ := i;have e' : H' l = some (.lst xs) := zew _ _ e;refine ⟨l, xs, rfl, ?_, e', il.mono zew⟩;cases z : H l with
 | none => rfl
 | some o =>
   have := s _ _ z;rw [e'] at this;cases this;unfold L2.off at e;rw [if_pos (show zd2 H l from ⟨xs, z⟩)] at e;cases e
section
variable {h : House} {n : Int}
noncomputable def env0 (h : House) (n : Int) : Kd := [(2, .int h.b), (3, .int h.w), (4, .tup (h.fs.map eC)), (5, .tup (h.ss.map eS)), (6, .int (h.ss.length : Int)), (7, .int n)]
theorem zsh : fAT.den (env0 h n) = some (.lst ((hsA h n).map eH)) := rfl
theorem zsg (hf : h.fs.length ≤ 10) : fBT.den (env0 h n ++ [(8, .lst ((hsA h n).map eH))]) = some (.lst ((hsA h n ++ hsB h).map eH)) := by
 show Vr (some (.lst ((hsA h n).map eH))) (zia (xy (some (.tup [.int h.b, .int h.w, .tup [], .tup (h.ss.map eS)])) (xy (zbq (xy (some (.int h.b)) (xy (some (.int h.w)) (xy (Vr (some (.tup (h.fs.map eC))) (some (.tup [eC (h.ss.length, [])]))) (xy (some (.tup (h.ss.map eS))) (some [])))))) (some [])))) = _;rw [zdt (by rw [ae, ce]; omega), Wo eC h.fs (h.ss.length, [])];rfl
theorem zsf (hf : h.fs.length ≤ 10) : fCT.den (env0 h n ++ [(8, .lst ((hsA h n ++ hsB h).map eH))]) = some (.lst ((hsA h n ++ hsB h ++ hsC h).map eH)) := by
 show Vr (some (.lst ((hsA h n ++ hsB h).map eH))) (zia (xy (zbq (xy (some (.int h.b)) (xy (some (.int h.w)) (xy (Vr (some (.tup (h.fs.map eC))) (some (.tup [eC (0, [(h.w, ("both" : Str))])]))) (xy (some (.tup (h.ss.map eS))) (some [])))))) (xy (some (.tup [.int h.b, .int h.w, .tup [], .tup []])) (some [])))) = _;rw [zdt (by rw [ae, ce]; omega), Wo eC h.fs (0, [(h.w, ("both" : Str))])];rfl
theorem zse (hf : h.fs.length ≤ 10) : fDT.den (env0 h n ++ [(8, .lst ((hsA h n ++ hsB h ++ hsC h).map eH))]) = some (.lst ((hsA h n ++ hsB h ++ hsC h ++ hsD h).map eH)) := by
 show Vr (some (.lst ((hsA h n ++ hsB h ++ hsC h).map eH))) (zia (xy (zbq (xy (some (.int h.b)) (xy (some (.int (h.w + 2))) (xy (Vr (some (.tup (h.fs.map eC))) (some (.tup [eC (0, [(1, ("both" : Str)), (0, ("both" : Str))])]))) (xy (some (.tup (h.ss.map eS))) (some [])))))) (some []))) = _;rw [zdt (by rw [ae, ce]; omega), Wo eC h.fs (0, [(1, ("both" : Str)), (0, ("both" : Str))])];rfl
theorem zps : bAT.den (env0 h n) = some (.lst ((dsA h).map eD)) := rfl
theorem zpr : bBT.den (env0 h n ++ [(9, .lst ((dsA h).map eD))]) = some (.lst ((dsA h ++ dsB).map eD)) := rfl
theorem zpq : bCT.den (env0 h n ++ [(9, .lst ((dsA h ++ dsB).map eD))]) = some (.lst ((dsA h ++ dsB ++ dsC h).map eD)) := rfl
theorem zpp : bDT.den (env0 h n ++ [(9, .lst ((dsA h ++ dsB ++ dsC h).map eD))]) = some (.lst ((dsA h ++ dsB ++ dsC h ++ dsD h n).map eD)) := rfl
theorem zso {x : T} {l : List T} : zbr (x :: l) (some 1) none = l := by
 have e1 : HT.sIx (x :: l).length 0 (some 1) = 1 := by
  unfold HT.sIx;simp
 have e2 : HT.sIx (x :: l).length (x :: l).length none = (x :: l).length := by
  unfold HT.sIx;rfl
 unfold zbr;rw [e1, e2, List.drop_one, List.tail_cons, bi, Nat.add_sub_cancel, ci]
theorem zpo {d : Deed} {s : yb} {ss : List yb} (e : h.ss = s :: ss) (hs : s.length ≤ 10) (hss : ss.length ≤ 10) : hDT.den (env0 h n ++ [(10, eD d)]) = some (eH (Yb h d)) := by
 unfold env0 Yb;rw [e];show zbq (xy (some (.int h.b)) (xy (some (.int h.w)) (xy (some (.tup (h.fs.map eC))) (xy (Vr (zbq (xy (Vr (some (.tup (s.map eD))) (some (.tup [eD d]))) (some []))) (some (.tup (zbr (eS s :: ss.map eS) (some 1) none)))) (some []))))) = _;rw [zso, zdt (by rw [ae, ce]; omega), Wo eD s d];show zbq (xy (some (.int h.b)) (xy (some (.int h.w)) (xy (some (.tup (h.fs.map eC))) (xy (Vr (some (.tup [eS (s ++ [d])])) (some (.tup (ss.map eS)))) (some []))))) = _;rw [zdt (by rw [ae, ce]; omega)];rfl
end
theorem zpk (h : House) : Fro (eH h) := by
 show jd [.int h.b, .int h.w, .tup (h.fs.map eC), .tup (h.ss.map eS)];exact ⟨trivial, trivial, zdj h.fs, zbk h.ss, trivial⟩
theorem zny (hs : List House) : jd (hs.map eH) := jd.all.mpr fun t ht => by obtain ⟨m, _, rfl⟩ := ax.mp ht; exact zpk m
noncomputable def zqy (K : PySem.W.Frag) : Sp := fun vs H Q _ => ∃ (a s : Addr) (ns : List Int) (h : House) (v : V), vs = [.ref a, v] ∧ Tape K H a s ns ∧ Fit h ∧ Is H (eH h) v ∧
 ∀ (l : Addr) (xs : List V) (hs : List House) (H' : Hp), But a H H' → Tape K H' a s ns → H' l = some (.lst xs) → L2.IsL H' (hs.map eH) xs → (∀ b ∈ hs, BadH b) → xs.length ≤ 100 → H l = none → Q (.ref l) H'
noncomputable def ztd : L2.Tm := .sub (.con (.int (10 ^ 30))) (.con (.int 1))
noncomputable def zte : L2.Tm := .con (.int (10 ^ 6))
theorem zjd : FnScope ["deck", "house", "boxes", "places", "firsts", "scripts", "many", "nines", "found", "bad", "deed"] ["deck", "house"] (zi zji) := .of
theorem zo6 (D : Def K mg "_law_e_no_houses" zji) (T : Txt K mg) (o1 : Ok P w K mg base "_law_e_pick" 2 ["deck", "many"] (zi8 K)) : Ok P w K mg base "_law_e_no_houses" 3 ["deck", "house"] (zqy K) := by
 refine vp D zjd (fun vs H Q E ⟨_, _, _, _, _, e, _⟩ => by rw [e]; rfl) fun f cdv A outer sh H vs Q E hr h => ?_;obtain ⟨a, s, ns, h, v, rfl, T0, F, hv, kk⟩ := h;have nd := zjd.nd;refine ⟨_, ze (zaw (pv 1) (Xn rfl (xi (yd (i := 2) nd rfl (Or.inl rfl)) (xi (yd (i := 3) nd rfl (Or.inl rfl)) (xi (yd (i := 4) nd rfl (Or.inl rfl)) (xi (yd (i := 5) nd rfl (Or.inl rfl)) Z2))))))
  (ze (zr (i := 6) nd rfl (Or.inl rfl) (yf yg (by rfl) T.len xp (zc (pv 5) zd)))
  (ze (zr (i := 7) nd rfl (Or.inl rfl) (yc Vh (Yc ztd (by kernel_rfl)) (ya o1 hr (zc (pv 0) (zc (Yc zte (by kernel_rfl)) zd)))))
  (ze (zr (i := 8) nd rfl (Or.inl rfl) (Yc fAT (by kernel_rfl)))
  (ze (zr (i := 8) nd rfl (Or.inl rfl) (Yc fBT (by kernel_rfl)))
  (ze (zr (i := 8) nd rfl (Or.inl rfl) (Yc fCT (by kernel_rfl)))
  (ze (zr (i := 8) nd rfl (Or.inl rfl) (Yc fDT (by kernel_rfl)))
  (ze (zr (i := 9) nd rfl (Or.inl rfl) (Yc bAT (by kernel_rfl)))
  (ze (zr (i := 9) nd rfl (Or.inl rfl) (Yc bBT (by kernel_rfl)))
  (ze (zr (i := 9) nd rfl (Or.inl rfl) (Yc bCT (by kernel_rfl)))
  (ze (zr (i := 9) nd rfl (Or.inl rfl) (Yc bDT (by kernel_rfl)))
  (ze (wr PassesOwn.never rfl (jg (pv 9)) (yd (i := 10) nd rfl (Or.inl rfl))
   (zh (yy (wn PySem.F.plainAttrs_list PySem.F.slot_list_append PySem.F.type_list_append xb (pv 8) (zc (Yc hDT (by kernel_rfl)) zd)))))
  (zh (zn (pv 8)))))))))))))), ?_⟩
 have F4 := F.f4;obtain ⟨ha, bf, bs, xf, xs, rfl, O⟩ := zdf hv;have hsl := O.sl.length;rw [ae] at hsl;refine ⟨_, rfl, ha, _, rfl, SqT.of O.at', rfl, _, _, rfl, _, _, rfl, _, _, rfl, _, _, rfl, rfl, ?_⟩;refine ⟨_, rfl, bs, _, rfl, .inr (SqT.of O.s), ?_⟩;refine tmE [] (.int (10 ^ 30 - 1)) (fun p hp => by cases hp) rfl fun v1 H1 s1 i1 => ?_;cases (show v1 = .int (10 ^ 30 - 1) from i1);have T1 := T0.same s1;refine ⟨_, rfl, tmE [] (.int (10 ^ 6)) (fun p hp => by cases hp) rfl fun v2 H2 s2 i2 => ?_⟩;cases (show v2 = .int (10 ^ 6) from i2);have T2 := T1.same s2;refine ⟨a, s, ns, 10 ^ 6, rfl, T2, by decide, by decide, fun d H3 h0 hlt b3 T3 => ?_⟩;have s02 := s1.trans s2;have b03 : But a H H3 := fun c o nc e => b3 c o nc (s02 _ _ e);have tu : xk H H3 := fun c xs e => T2.tups b3 c xs (s02 _ _ e);have O3 := O.tups tu;refine ⟨_, _, rfl, rfl, ?_⟩;have N : Nin (10 ^ 30 - 1 - d) := by
  refine ⟨?_, ?_⟩
  · have : (10 : Int) ^ 30 = 1000000000000000000000000000000 := by decide
    have : (10 : Int) ^ 6 = 1000000 := by decide
    omega
  · have : (10 : Int) ^ 30 = 1000000000000000000000000000000 := by decide
    omega
 dsimp only;generalize (10 : Int) ^ 30 - 1 - d = n at N ⊢;have iF : Is H3 (.tup (h.fs.map eC)) (.ref bf) := ⟨bf, xf, rfl, O3.f, O3.fl⟩
 have iS : Is H3 (.tup (h.ss.map eS)) (.ref bs) := ⟨bs, xs, rfl, O3.s, O3.sl⟩
 have fn := (Yg F).fn;have ev : ∀ {G H' : Hp} {σ : L2.St}, Same H3 H' → Same G H' → σ[2]? = some (some (.int h.b)) → σ[3]? = some (some (.int h.w)) → σ[4]? = some (some (.ref bf)) → σ[5]? = some (some (.ref bs)) → σ[6]? = some (some (.int (xs.length : Int))) → σ[7]? = some (some (.int n)) →
   ∀ p ∈ env0 h n, ∃ v, σ[p.1]? = some (some v) ∧ Is (off (zd2 G) H') p.2 v := fun {G H' σ} s' sg e2 e3 e4 e5 e6 e7 p hp => by
  simp only [env0, ag, aw, or_false] at hp;rcases hp with rfl | rfl | rfl | rfl | rfl | rfl
  · exact ⟨_, e2, rfl⟩
  · exact ⟨_, e3, rfl⟩
  · exact ⟨_, e4, (iF.mono s').tups (Kt sg) (zdj _)⟩
  · exact ⟨_, e5, (iS.mono s').tups (Kt sg) (zbk _)⟩
  · exact ⟨_, e6, by rw [hsl]; rfl⟩
  · exact ⟨_, e7, rfl⟩
 have ev1 : ∀ {G H' : Hp} {σ : L2.St} {i : Nat} {t : L2.T} {v : V}, (∀ p ∈ env0 h n, ∃ v, σ[p.1]? = some (some v) ∧ Is (off (zd2 G) H') p.2 v) → σ[i]? = some (some v) → Is (off (zd2 G) H') t v → ∀ p ∈ env0 h n ++ [(i, t)], ∃ v, σ[p.1]? = some (some v) ∧ Is (off (zd2 G) H') p.2 v := fun {G H' σ i t v} h1 e it p hp => by
  rcases ba.mp hp with hp | hp
  · exact h1 p hp
  · rw [av.mp hp]; exact ⟨_, e, it⟩
 have r3 := Same.refl H3;show V5 (zl9 (ziw fAT) (Ye 8)) _ _ [some (.ref a), some (.ref ha), some (.int h.b), some (.int h.w), some (.ref bf), some (.ref bs), some (.int (xs.length : Int)), some (.int n), none, none, none] H3;refine zdz (fun v => [some (.ref a), some (.ref ha), some (.int h.b), some (.int h.w), some (.ref bf), some (.ref bs), some (.int (xs.length : Int)), some (.int n), some v, none, none]) (fun _ => rfl) (Ze r3) _ _ (ev r3 r3 rfl rfl rfl rfl rfl rfl) zsh fun v4 H4 s4 i4 => ?_;refine zdz (fun v => [some (.ref a), some (.ref ha), some (.int h.b), some (.int h.w), some (.ref bf), some (.ref bs), some (.int (xs.length : Int)), some (.int n), some v, none, none]) (fun _ => rfl) (Ze s4) _ _ (ev1 (ev s4 s4 rfl rfl rfl rfl rfl rfl) rfl i4) (zsg fn) fun v5 H5 s5 i5 => ?_;have s35 := s4.trans s5;refine zdz (fun v => [some (.ref a), some (.ref ha), some (.int h.b), some (.int h.w), some (.ref bf), some (.ref bs), some (.int (xs.length : Int)), some (.int n), some v, none, none]) (fun _ => rfl) (Ze s35) _ _ (ev1 (ev s35 s35 rfl rfl rfl rfl rfl rfl) rfl i5) (zsf fn) fun v6 H6 s6 i6 => ?_;have s36 := s35.trans s6;refine zdz (fun v => [some (.ref a), some (.ref ha), some (.int h.b), some (.int h.w), some (.ref bf), some (.ref bs), some (.int (xs.length : Int)), some (.int n), some v, none, none]) (fun _ => rfl) (Ze s36) _ _ (ev1 (ev s36 s36 rfl rfl rfl rfl rfl rfl) rfl i6) (zse fn) fun v7 H7 s7 i7 => ?_;have s37 := s36.trans s7;obtain ⟨lf, zs, rfl, hlf3, gf7, hzs7⟩ := zc4 s37 i7;have r7 := Same.refl H7;refine zdz (fun v => [some (.ref a), some (.ref ha), some (.int h.b), some (.int h.w), some (.ref bf), some (.ref bs), some (.int (xs.length : Int)), some (.int n), some (.ref lf), some v, none]) (fun _ => rfl) (Ze r7) _ _ (ev s37 r7 rfl rfl rfl rfl rfl rfl) zps fun v8 H8 s8 i8 => ?_;have s38 := s37.trans s8;refine zdz (fun v => [some (.ref a), some (.ref ha), some (.int h.b), some (.int h.w), some (.ref bf), some (.ref bs), some (.int (xs.length : Int)), some (.int n), some (.ref lf), some v, none]) (fun _ => rfl) (Ze s8) _ _ (ev1 (ev s38 s8 rfl rfl rfl rfl rfl rfl) rfl i8) zpr fun v9 H9 s9 i9 => ?_;have s79 := s8.trans s9;have s39 := s38.trans s9;refine zdz (fun v => [some (.ref a), some (.ref ha), some (.int h.b), some (.int h.w), some (.ref bf), some (.ref bs), some (.int (xs.length : Int)), some (.int n), some (.ref lf), some v, none]) (fun _ => rfl) (Ze s79) _ _ (ev1 (ev s39 s79 rfl rfl rfl rfl rfl rfl) rfl i9) zpq fun v10 H10 s10 i10 => ?_;have s710 := s79.trans s10;have s310 := s39.trans s10;refine zdz (fun v => [some (.ref a), some (.ref ha), some (.int h.b), some (.int h.w), some (.ref bf), some (.ref bs), some (.int (xs.length : Int)), some (.int n), some (.ref lf), some v, none]) (fun _ => rfl) (Ze s710) _ _ (ev1 (ev s310 s710 rfl rfl rfl rfl rfl rfl) rfl i10) zpp fun v11 H11 s11 i11 => ?_;have s711 := s710.trans s11;have s311 := s310.trans s11;obtain ⟨lb, ys, rfl, hlb7, gb, hys⟩ := zc4 s711 i11;have gf := s711 _ _ gf7;have hzs := hzs7.mono s711;have hf8 : ∀ x ∈ hsA h n ++ hsB h ++ hsC h ++ hsD h, BadH x := fun x hx => by
  simp only [ba] at hx;rcases hx with ((hx | hx) | hx) | hx
  · exact zs2 F N x hx
  · exact zs1 F x hx
  · exact zs0 F x hx
  · exact zsz F x hx
 have hf8l : (hsA h n ++ hsB h ++ hsC h ++ hsD h).length = 8 := rfl;have hd15 : ∀ d ∈ dsA h ++ dsB ++ dsC h ++ dsD h n, BadH (Yb h d) := fun d hd => by
  simp only [ba] at hd;rcases hd with ((hd | hd) | hd) | hd
  · exact zp5 F d hd
  · exact zp4 F d hd
  · exact zp3 F d hd
  · exact zp2 F N d hd
 have hd15l : (dsA h ++ dsB ++ dsC h ++ dsD h n).length = 15 := rfl;generalize hsA h n ++ hsB h ++ hsC h ++ hsD h = hs0 at hf8 hf8l hzs;generalize dsA h ++ dsB ++ dsC h ++ dsD h n = ds at hd15 hd15l hys;have T11 := T3.same s311;have b11 : But a H H11 := fun c o nc e => s311 _ _ (b03 c o nc e);obtain ⟨hlfH, lfa⟩ := zba T3 b03 hlf3;have lfb : lf ≠ lb := fun z => by rw [← z, gf7] at hlb7; cases hlb7
 have iF11 := iF.mono s311;have iS11 := iS.mono s311;have hyl := hys.length;rw [ae] at hyl;have hzl := hzs.length;rw [ae] at hzl;obtain ⟨sc, scs, ess⟩ : ∃ sc scs, h.ss = sc :: scs := ⟨_, _, zgb F⟩
 have hsc : sc.length ≤ 10 ∧ scs.length ≤ 10 := by
  refine ⟨((Yg F).s sc (by rw [ess]; exact ao)).1, ?_⟩;have := (Yg F).sn;rw [ess, bi] at this;omega
 refine ⟨_, rfl, lb, rfl, ⟨_, SqL.of gb⟩, ?_⟩;refine Ww (xs := ys) (fun i σ H' => (∃ zs hs, But a H H' ∧ Tape K H' a s ns ∧ xk H11 H' ∧ H' lb = some (.lst ys) ∧ H' lf = some (.lst zs) ∧ L2.IsL H' (hs.map eH) zs ∧ (∀ x ∈ hs, BadH x) ∧ zs.length = 8 + i) ∧ ∃ x10, σ = [some (.ref a), some (.ref ha), some (.int h.b), some (.int h.w), some (.ref bf), some (.ref bs), some (.int (xs.length : Int)), some (.int n), some (.ref lf), some (.ref lb), x10])
  ⟨⟨zs, hs0, b11, T11, fun c xs e => e, gb, gf, hzs, hf8, by rw [hzl, hf8l]⟩, none, rfl⟩ (fun i σ H' _ ⟨⟨_, _, _, _, _, g, _⟩, _⟩ => SqL.of g) ?_ ?_
 rotate_left
 · rintro σ H12 ⟨⟨zs', hs', b12, T12, _, _, gf12, hz12, hb12, hl12⟩, x10, rfl⟩;exact ⟨_, rfl, kk lf zs' hs' H12 b12 T12 gf12 hz12 hb12 (by rw [hl12, hyl, hd15l]; decide) hlfH⟩
 rintro i y σ H12 hy ⟨⟨zs', hs', b12, T12, tu12, gb12, gf12, hz12, hb12, hl12⟩, x10, rfl⟩;have hi : i < ys.length := (c9.mp hy).1;obtain ⟨t, ht, it⟩ := hys.get' hy;rw [ay] at ht;cases ed : ds[i]? with
 | none => rw [ed] at ht; cases ht
 | some d =>
 rw [ed] at ht;cases ht;have hbd := hd15 d (bz ed);have it12 := it.tups tu12 (zsa d);refine ⟨_, rfl, .inl ⟨rfl, _, SqL.of gf12⟩, ?_⟩;refine tmE (env0 h n ++ [(10, eD d)]) (eH (Yb h d)) (fun p hp => ?_) (zpo ess hsc.1 hsc.2) fun v13 H13 s13 i13 => ?_
 · rcases ba.mp hp with hp | hp
   · simp only [env0, ag, aw, or_false] at hp;rcases hp with rfl | rfl | rfl | rfl | rfl | rfl
     · exact ⟨_, rfl, rfl⟩
     · exact ⟨_, rfl, rfl⟩
     · exact ⟨_, rfl, iF11.tups tu12 (zdj _)⟩
     · exact ⟨_, rfl, iS11.tups tu12 (zbk _)⟩
     · exact ⟨_, rfl, by rw [hsl]; rfl⟩
     · exact ⟨_, rfl, rfl⟩
   · rw [av.mp hp]; exact ⟨_, rfl, it12⟩
 have gf13 := s13 _ _ gf12;refine ⟨lf, _, _, rfl, rfl, gf13, y7 (by omega), ?_⟩;have tu13 : xk H13 (upd H13 lf (.lst (zs' ++ [v13]))) := xk.upd gf13 (fun zs z => by cases z);refine ⟨⟨zs' ++ [v13], hs' ++ [Yb h d], ?_, T0.updN hlfH (T12.same s13), fun c xs e => tu13 _ _ (s13 _ _ (tu12 _ _ e)), ?_, zf, ?_, fun x hx => ?_, by rw [ar, hl12]; show 8 + i + 1 = 8 + (i + 1); omega⟩, _, rfl⟩
 · exact But.updN (fun c o nc e => s13 _ _ (b12 c o nc e)) hlfH
 · rw [zk (ak lfb)]; exact s13 _ _ gb12
 · rw [az];exact IsL.append ((hz12.mono s13).tups tu13 (zny hs')) ((IsL.one i13).tups tu13 (zny [Yb h d]))
 · rcases ba.mp hx with hx | hx
   · exact hb12 x hx
   · rw [av.mp hx]; exact hbd
noncomputable def st0 : Stmt := .Pass ⟨0, 0, 0, 0⟩
abbrev qi : Stmt := top 76
abbrev zat : Stmt := top 77
theorem zsp : bootBuiltins "ValueError" = some (.type "ValueError") := by decide +kernel
section
variable {e : Expr} {p1 p2 : Pos}
theorem Zh {n : Str} {D : Addr} (h1 : X.mg "isinstance" = none) (hm : X.mg n = some (.ref D)) (he : PE X e te) (g1 : Gl X "isinstance" := by rfl) (g2 : Gl X n := by rfl) (hd : (n == ("__debug__" : Str)) = false := by decide)
  (hs : starEach [e, .Name n p2] X.env = (false, eval e X.env) :: starEach [.Name n p2] X.env := by rfl) (hp : (backTo pos (starEach [.Name n p2] X.env)).any (·.1) = false := by rfl) (hs2 : starEach [.Name n p2] X.env = (false, eval (.Name n p2) X.env) :: starEach [] X.env := by rfl) :
  PE X (.Call (.Name "isinstance" p1) [e, .Name n p2] [] pos) (tCB (zow X.K) (Yi te (Yi (tC (.ref D)) zea))) :=
 yf zaa g1 h1 zfi (zc he (zc (Wf g2 hm rfl hd) zd hs2) hs) (he := hs) (hpl := hp)
theorem zmo {n : Str} {T : String} (h1 : X.mg "isinstance" = none) (h2 : X.mg n = none) (hb : bootBuiltins n = some (.type T)) (he : PE X e te) (g1 : Gl X "isinstance" := by rfl) (g2 : Gl X n := by rfl) (hn : n ≠ "__name__" := by decide) (hd : (n == ("__debug__" : Str)) = false := by decide)
  (hs : starEach [e, .Name n p2] X.env = (false, eval e X.env) :: starEach [.Name n p2] X.env := by rfl) (hp : (backTo pos (starEach [.Name n p2] X.env)).any (·.1) = false := by rfl) (hs2 : starEach [.Name n p2] X.env = (false, eval (.Name n p2) X.env) :: starEach [] X.env := by rfl) :
  PE X (.Call (.Name "isinstance" p1) [e, .Name n p2] [] pos) (tCB (zow X.K) (Yi te (Yi (tC (.ty T)) zea))) :=
 yf zaa g1 h1 zfi (zc he (zc (zfy g2 h2 hb rfl hn hd) zd hs2) hs) (he := hs) (hpl := hp)
end
structure Kinds (K : PySem.W.Frag) (mg : Str → Option Value) (C : Addr) (i : Nat) : Prop where
 err : zns K C
 two : i = 7 ∨ i = 3
 noVE : mg "ValueError" = none
 ve : PySem.W.kitOne K (.ref C) (.type "ValueError") = some true
 k0 : ∃ a, mg "NoCount" = some (.ref a) ∧ PySem.W.kitOne K (.ref C) (.ref a) = some (decide (0 = i))
 k1 : ∃ a, mg "NoDeed" = some (.ref a) ∧ PySem.W.kitOne K (.ref C) (.ref a) = some (decide (1 = i))
 k2 : ∃ a, mg "NoHand" = some (.ref a) ∧ PySem.W.kitOne K (.ref C) (.ref a) = some (decide (2 = i))
 k3 : ∃ a, mg "NoHouse" = some (.ref a) ∧ PySem.W.kitOne K (.ref C) (.ref a) = some (decide (3 = i))
 k4 : ∃ a, mg "NoName" = some (.ref a) ∧ PySem.W.kitOne K (.ref C) (.ref a) = some (decide (4 = i))
 k5 : ∃ a, mg "NoRow" = some (.ref a) ∧ PySem.W.kitOne K (.ref C) (.ref a) = some (decide (5 = i))
 k6 : ∃ a, mg "NoStand" = some (.ref a) ∧ PySem.W.kitOne K (.ref C) (.ref a) = some (decide (6 = i))
 k7 : ∃ a, mg "NoText" = some (.ref a) ∧ PySem.W.kitOne K (.ref C) (.ref a) = some (decide (7 = i))
 k8 : ∃ a, mg "NoWall" = some (.ref a) ∧ PySem.W.kitOne K (.ref C) (.ref a) = some (decide (8 = i))
 k9 : ∃ a, mg "TooMany" = some (.ref a) ∧ PySem.W.kitOne K (.ref C) (.ref a) = some (decide (9 = i))
structure Errs (K : PySem.W.Frag) (mg : Str → Option Value) (base : Heap) (cH cT cW : Addr) : Prop where
 oH : OwnErr K mg base "NoHouse" cH
 oT : OwnErr K mg base "NoText" cT
 mW : mg "WallError" = some (.ref cW)
 iW : zly base cW
 uH : zd1 base cH cW
 uT : zd1 base cT cW
 kH : Kinds K mg cH 3
 kT : Kinds K mg cT 7
noncomputable def kb (i : Nat) : List Bool := [decide (0 = i), decide (1 = i), decide (2 = i), decide (3 = i), decide (4 = i), decide (5 = i), decide (6 = i), decide (7 = i), decide (8 = i), decide (9 = i)]
theorem zkp (h : i = 7 ∨ i = 3) : (kb i).countP id = 1 := by rcases h with rfl | rfl <;> decide
theorem znw (h : i = 7 ∨ i = 3) : (kb i)[i]? = some true ∧ ∀ m, m < i → (kb i)[m]? = some false := by rcases h with rfl | rfl <;> decide
noncomputable def kwL : List V := [.str "count", .str "deed", .str "hand", .str "house", .str "name", .str "row", .str "stand", .str "text", .str "stopper", .str "many"]
noncomputable def kw (i : Nat) : V := kwL.getD i .non
noncomputable def zq0 (K : PySem.W.Frag) (mg : Str → Option Value) : Sp := fun vs H Q _ => ∃ (a C : Addr) (i : Nat), vs = [.ref a] ∧ H a = some (Exc a C) ∧ Kinds K mg C i ∧ ∀ H', Same H H' → Q (kw i) H'
noncomputable def ztl : Stmt → Expr
 | .Return (some (.Subscript _ i _)) _ => i
 | _ => .Name "x" ⟨0, 0, 0, 0⟩
noncomputable def kwT : L2.Tm := .lst [.con (.str "count"), .con (.str "deed"), .con (.str "hand"), .con (.str "house"), .con (.str "name"), .con (.str "row"), .con (.str "stand"), .con (.str "text"), .con (.str "stopper"), .con (.str "many")]
noncomputable def zry : List T := [.str "count", .str "deed", .str "hand", .str "house", .str "name", .str "row", .str "stand", .str "text", .str "stopper", .str "many"]
theorem zm5 (h : i = 7 ∨ i = 3) (k : IsL H zry ys) : atI ys ((i : Nat) : Int) = some (kw i) := by
 refine we ?_;rcases h with rfl | rfl
 · obtain ⟨v, hv, iv⟩ := k.get (i := 7) (t := .str "text") rfl;cases (show v = .str "text" from iv);exact hv
 · obtain ⟨v, hv, iv⟩ := k.get (i := 3) (t := .str "house") rfl;cases (show v = .str "house" from iv);exact hv
theorem zhr : ∃ (e : Expr) (p q : Pos), xg qi = [(xg qi).getD 0 st0, (xg qi).getD 1 st0, (xg qi).getD 2 st0, (xg qi).getD 3 st0, (xg qi).getD 4 st0, .Return (some (.Subscript e (ztl ((xg qi).getD 5 st0)) p)) q] ∧
 bld noB ["caught", "kinds"] (zi qi) 12 e = some kwT := ⟨_, _, _, rfl, by kernel_rfl⟩
theorem zb5 : FnScope ["caught", "kinds"] ["caught"] (zi qi) := .of
theorem zj7 (D : Def K mg "_law_e_kind" qi) (T : Txt K mg) : Ok P w K mg base "_law_e_kind" 1 ["caught"] (zq0 K mg) := by
 refine vp D zb5 (fun vs H Q E ⟨_, _, _, e, _⟩ => by rw [e]; rfl) fun f cdv A outer s H vs Q E hr h => ?_;obtain ⟨a, C, i, rfl, ha, kd, kk⟩ := h;have nd := zb5.nd;obtain ⟨eL, pL, qL, hbody, hbld⟩ := zhr;rw [hbody];obtain ⟨a0, m0, q0⟩ := kd.k0;obtain ⟨a1, m1, q1⟩ := kd.k1;obtain ⟨a2, m2, q2⟩ := kd.k2;obtain ⟨a3, m3, q3⟩ := kd.k3;obtain ⟨a4, m4, q4⟩ := kd.k4;obtain ⟨a5, m5, q5⟩ := kd.k5;obtain ⟨a6, m6, q6⟩ := kd.k6;obtain ⟨a7, m7, q7⟩ := kd.k7;obtain ⟨a8, m8, q8⟩ := kd.k8;obtain ⟨a9, m9, q9⟩ := kd.k9;refine ⟨_, ze (zr (i := 1) nd rfl (Or.inl rfl) (yr (zc (Zh T.isi m0 (pv 0)) (zc (Zh T.isi m1 (pv 0)) (zc (Zh T.isi m2 (pv 0)) zd)))))
  (ze (zr (i := 1) nd rfl (Or.inl rfl) (yc qd (pv 1) (yr (zc (Zh T.isi m3 (pv 0)) (zc (Zh T.isi m4 (pv 0)) (zc (Zh T.isi m5 (pv 0)) zd))))))
  (ze (zr (i := 1) nd rfl (Or.inl rfl) (yc qd (pv 1) (yr (zc (Zh T.isi m6 (pv 0)) (zc (Zh T.isi m7 (pv 0)) (zc (Zh T.isi m8 (pv 0)) zd))))))
  (ze (zr (i := 1) nd rfl (Or.inl rfl) (yc qd (pv 1) (yr (zc (Zh T.isi m9 (pv 0)) zd))))
  (ze (yh (PW.pt (Yr (zu Xb (wn PySem.F.plainAttrs_list PySem.F.slot_list_count PySem.F.type_list_count zhj (pv 1) (zc xx zd)) zg (ye _)) (j9 (xt (yz (zmo T.isi kd.noVE zsp (pv 0))))))) (zh (zn zl)) zx)
  (zh (zn (zp yi (Yc kwT hbld) (wn PySem.F.plainAttrs_list PySem.F.slot_list_index PySem.F.type_list_index zhh (pv 1) (zc xx zd)) (fun _ _ => rfl)))))))), ?_⟩
 have ek := kd.err;refine ⟨_, rfl, a, C, _, ha, ek, .inl ⟨a0, rfl, q0⟩, _, rfl, a, C, _, ha, ek, .inl ⟨a1, rfl, q1⟩, _, rfl, a, C, _, ha, ek, .inl ⟨a2, rfl, q2⟩, (by show 3 ≤ sizeLine; decide), fun l1 hl1 => ?_⟩;have s1 := Same.new hl1 (.lst [.bl (decide (0 = i)), .bl (decide (1 = i)), .bl (decide (2 = i))]);have g1 : upd H l1 (.lst [.bl (decide (0 = i)), .bl (decide (1 = i)), .bl (decide (2 = i))]) l1 = some (.lst [.bl (decide (0 = i)), .bl (decide (1 = i)), .bl (decide (2 = i))]) := zf;generalize upd H l1 (.lst [.bl (decide (0 = i)), .bl (decide (1 = i)), .bl (decide (2 = i))]) = H1 at s1 g1 ⊢;have ha1 := s1 _ _ ha;refine ⟨_, rfl, _, rfl, a, C, _, ha1, ek, .inl ⟨a3, rfl, q3⟩, _, rfl, a, C, _, ha1, ek, .inl ⟨a4, rfl, q4⟩, _, rfl, a, C, _, ha1, ek, .inl ⟨a5, rfl, q5⟩, (by show 3 ≤ sizeLine; decide), fun l2 hl2 => ?_⟩;have s2 := Same.new hl2 (.lst [.bl (decide (3 = i)), .bl (decide (4 = i)), .bl (decide (5 = i))]);have g2 : upd H1 l2 (.lst [.bl (decide (3 = i)), .bl (decide (4 = i)), .bl (decide (5 = i))]) l2 = some (.lst [.bl (decide (3 = i)), .bl (decide (4 = i)), .bl (decide (5 = i))]) := zf;generalize upd H1 l2 (.lst [.bl (decide (3 = i)), .bl (decide (4 = i)), .bl (decide (5 = i))]) = H2 at s2 g2 ⊢;refine ⟨l1, l2, _, _, rfl, rfl, s2 _ _ g1, g2, (by show 6 ≤ sizeLine; decide), fun l3 hl3 => ?_⟩;have s3 := Same.new hl3 (.lst ((kb i).take 6 |>.map V.bl));have g3 : upd H2 l3 (.lst ((kb i).take 6 |>.map V.bl)) l3 = some (.lst ((kb i).take 6 |>.map V.bl)) := zf;generalize hH3 : upd H2 l3 (.lst ((kb i).take 6 |>.map V.bl)) = H3 at s3 g3;have hH3' : upd H2 l3 (.lst ([.bl (decide (0 = i)), .bl (decide (1 = i)), .bl (decide (2 = i))] ++ [.bl (decide (3 = i)), .bl (decide (4 = i)), .bl (decide (5 = i))])) = H3 := hH3;rw [hH3'];have ha3 := s3 _ _ (s2 _ _ ha1);refine ⟨_, rfl, _, rfl, a, C, _, ha3, ek, .inl ⟨a6, rfl, q6⟩, _, rfl, a, C, _, ha3, ek, .inl ⟨a7, rfl, q7⟩, _, rfl, a, C, _, ha3, ek, .inl ⟨a8, rfl, q8⟩, (by show 3 ≤ sizeLine; decide), fun l4 hl4 => ?_⟩;have s4 := Same.new hl4 (.lst [.bl (decide (6 = i)), .bl (decide (7 = i)), .bl (decide (8 = i))]);have g4 : upd H3 l4 (.lst [.bl (decide (6 = i)), .bl (decide (7 = i)), .bl (decide (8 = i))]) l4 = some (.lst [.bl (decide (6 = i)), .bl (decide (7 = i)), .bl (decide (8 = i))]) := zf;generalize upd H3 l4 (.lst [.bl (decide (6 = i)), .bl (decide (7 = i)), .bl (decide (8 = i))]) = H4 at s4 g4 ⊢;refine ⟨l3, l4, _, _, rfl, rfl, s4 _ _ g3, g4, (by show 9 ≤ sizeLine; decide), fun l5 hl5 => ?_⟩;have s5 := Same.new hl5 (.lst ((kb i).take 9 |>.map V.bl));have g5 : upd H4 l5 (.lst ((kb i).take 9 |>.map V.bl)) l5 = some (.lst ((kb i).take 9 |>.map V.bl)) := zf;generalize hH5 : upd H4 l5 (.lst ((kb i).take 9 |>.map V.bl)) = H5 at s5 g5;have hH5' : upd H4 l5 (.lst (((kb i).take 6 |>.map V.bl) ++ [.bl (decide (6 = i)), .bl (decide (7 = i)), .bl (decide (8 = i))])) = H5 := hH5;rw [hH5'];have ha5 := s5 _ _ (s4 _ _ ha3);refine ⟨_, rfl, _, rfl, a, C, _, ha5, ek, .inl ⟨a9, rfl, q9⟩, (by show 1 ≤ sizeLine; decide), fun l6 hl6 => ?_⟩;have s6 := Same.new hl6 (.lst [.bl (decide (9 = i))]);have g6 : upd H5 l6 (.lst [.bl (decide (9 = i))]) l6 = some (.lst [.bl (decide (9 = i))]) := zf;generalize upd H5 l6 (.lst [.bl (decide (9 = i))]) = H6 at s6 g6 ⊢;refine ⟨l5, l6, _, _, rfl, rfl, s6 _ _ g5, g6, (by show 10 ≤ sizeLine; decide), fun l7 hl7 => ?_⟩;have s7 := Same.new hl7 (.lst ((kb i).map V.bl));have g7 : upd H6 l7 (.lst ((kb i).map V.bl)) l7 = some (.lst ((kb i).map V.bl)) := zf;generalize hH7 : upd H6 l7 (.lst ((kb i).map V.bl)) = H7 at s7 g7;have hH7' : upd H6 l7 (.lst (((kb i).take 9 |>.map V.bl) ++ [.bl (decide (9 = i))])) = H7 := hH7;rw [hH7'];have ha7 := s7 _ _ (s6 _ _ ha5);refine ⟨_, rfl, .inl ⟨rfl, _, SqL.of g7⟩, l7, kb i, rfl, rfl, g7, rfl, _, rfl, ?_⟩;rw [zkp kd.two];refine vm (fun z => absurd z (by simp)) (fun _ => ?_);refine ⟨_, rfl, a, C, _, ha7, ek, .inr ⟨"ValueError", rfl, kd.ve⟩, _, rfl, yl ?_⟩;refine ⟨fun _ => False, [], .lst zry, ⟨fun c hc => hc.elim, fun q hq => by cases hq⟩, by kernel_rfl, fun v8 H8 s8 i8 => ?_⟩;obtain ⟨l8, ys, rfl, g8, hly⟩ := i8.off;have S8 := s1.trans (s2.trans (s3.trans (s4.trans (s5.trans (s6.trans (s7.trans s8))))));have fin : Q (kw i) H8 := kk H8 S8;have g78 := s8 _ _ g7;exact ⟨_, rfl, .inl ⟨rfl, _, SqL.of g78⟩, l7, kb i, i, rfl, rfl, g78, (znw kd.two).1, (znw kd.two).2, l8, ys, _, kw i, rfl, rfl, SqL.of g8, zm5 kd.two hly, fin⟩
noncomputable def WdA (H : Hp) (way : Int) (v : V) (x : Str) : Prop :=
 (way = 0 ∧ ∃ rows, v = .str (vw rows) ∧ RowsOk rows ∧ ((w4 rows = none ∧ x = "text") ∨ ∃ h, w4 rows = some h ∧ Wh (eH h) ∧ ((mWf (eH h) = false ∧ x = "house") ∨ (Good h ∧ mHs h = true ∧ x = "")))) ∨
 (way = 1 ∧ ∃ t, Is H t v ∧ Wh t ∧ mWf t = false ∧ x = "house")
noncomputable def zqn : Sp := fun vs H Q _ => ∃ (way : Int) (v : V) (x : Str), vs = [.int way, v] ∧ WdA H way v x ∧ ∀ H', Same H H' → Q (.str x) H'
theorem zb2 : FnScope ["way", "thing", "caught", "e"] ["way", "thing"] (zi zat) := .of
theorem zj4 {cW : Addr} (D : Def K mg "_law_e_word" zat) (T : Txt K mg) (Er : Errs K mg base cH cT cW) (o1 : OkX P w K mg base "read_house" 24 ["text"] (zoj cT cH)) (o2 : OkX P w K mg base "show_house" 24 ["house"] (zqq cH)) (o4 : Ok P w K mg base "_law_e_kind" 1 ["caught"] (zq0 K mg)) :
  Ok P w K mg base "_law_e_word" 25 ["way", "thing"] zqn := by
 refine vp D zb2 (fun vs H Q E ⟨_, _, _, e, _⟩ => by rw [e]; rfl) fun f cdv A outer s H vs Q E hr h => ?_;obtain ⟨way, v, x, rfl, hA, kk⟩ := h;have nd := zb2.nd;refine ⟨_, ze (zr (i := 2) nd rfl (Or.inl rfl) jr)
  (ze (zoz (E := fun c _ H' => Same H H' ∧ ∃ C i, c = .ref C ∧ Kinds K mg C i ∧ zd1 base C cW ∧ kw i = .str x) (ie := 3) (ic := 2) rfl rfl nd rfl rfl rfl rfl rfl Er.mW Er.iW (fun C' H' z => by obtain ⟨_, C, i, e, _, u, _⟩ := z; cases (Value.ref.inj e); exact u)
   (fun pn => zh (yh (zu wo (pv 0) zg (ye _)) (zh (yy (vg o1 (Xx (Z := fun _ _ => True)) hr (zc (pv 1) zd))))
    (zh (yy (vg o2 (Xx (Z := fun _ _ => True)) hr (zc (pv 1) zd)))))) (by decide) (by decide) (by decide) (fun b hb => by cases hb))
  (ze (yh (zu zj0 (pv 2) jr (ye _)) (zh (zn zl)) zx)
  (zh (zn (ya o4 (hr.mono (show 1 ≤ 24 by decide)) (zc (pv 2) zd)))))), ?_⟩
 refine ⟨?_, fun σ' H' a C' hlen hE hna => ?_⟩
 · refine ⟨_, rfl, rfl, _, rfl, ?_⟩;rcases hA with ⟨rfl, rows, rfl, hR, hk⟩ | ⟨rfl, t, ht, hW, hm, rfl⟩
   · rw [au rfl];refine yp ⟨_, rfl, rows, rfl, hR, ?_⟩;rcases hk with ⟨hn, rfl⟩ | ⟨h, hs, hW, hk⟩
     · exact ⟨fun _ H' s' => ⟨s', cT, 7, rfl, Er.kT, Er.uT, rfl⟩, fun h z => by rw [hn] at z; cases z⟩
     · refine ⟨fun z => (by rw [hs] at z; cases z), fun h' z => ?_⟩;rw [hs] at z;cases z;refine ⟨hW, ?_⟩;rcases hk with ⟨hm, rfl⟩ | ⟨hG, hm, rfl⟩
       · exact .inl ⟨hm, fun H' s' => ⟨s', cH, 3, rfl, Er.kH, Er.uH, rfl⟩⟩
       · refine .inr ⟨hG, hm, fun v' H' s' _ => ?_⟩;refine ⟨_, rfl, rfl, _, rfl, yp ?_⟩;exact kk H' s'
   · rw [bn (by decide)];exact yl ⟨_, rfl, t, v, rfl, ht, hW, hm, fun H' s' => ⟨s', cH, 3, rfl, Er.kH, Er.uH, rfl⟩⟩
 · obtain ⟨sE, C, i, ec, kd, _, ekw⟩ := hE;cases (Value.ref.inj ec);have g4 : ((((σ'.set 3 (some (V.ref a))).set 2 (some (V.ref a)))).set 3 none)[2]? = some (some (V.ref a)) := by
    have hlen : σ'.length = 4 := hlen;rw [List.getElem?_set_ne (by decide), List.getElem?_set_self (by rw [List.length_set, hlen]; decide)]
   have sA : Same H (upd H' a (Exc a C')) := sE.trans (Same.new hna _);refine ⟨_, g4, rfl, _, rfl, vm (fun z => absurd (cb z) (fun y => by cases y)) (fun _ => ?_)⟩;refine ⟨_, g4, a, C', i, rfl, zf, kd, fun H2 s2 => ?_⟩;rw [ekw];exact kk H2 (sA.trans s2)
abbrev W9 : Stmt := top 70
abbrev Zb : Stmt := top 71
abbrev j8 : Stmt := top 72
noncomputable def zq3 : Sp := fun vs H Q _ => ∃ (hd : Addr) (had ms : List Mem) (v : V), vs = [.ref hd, v] ∧ H hd = some (.dK (wt had)) ∧ Is H (eMs ms) v ∧ ms.length ≤ 1000 ∧ ∀ H', Same H H' → Q (.bl (Wp had ms)) H'
theorem Qx : FnScope ["have", "called", "place", "mode"] ["have", "called"] (zi W9) := .of
theorem zep (D : Def K mg "_law_e_may_call" W9) (T : Txt K mg) : Ok P w K mg base "_law_e_may_call" 1 ["have", "called"] zq3 := by
 refine vp D Qx (fun vs H Q E ⟨_, _, _, _, e, _⟩ => by rw [e]; rfl) fun f cdv A outer sh H vs Q E hr h => ?_;obtain ⟨hd, had, ms, v, rfl, hhd, hv, hml0, k⟩ := h;have hu := Ji hr;have nd := Qx.nd;refine ⟨_, ze (wr PassesOwn.never rfl (ql (pv 1)) (Xn rfl (xi (yd (i := 2) nd rfl (Or.inl rfl)) (xi (yd (i := 3) nd rfl (Or.inl rfl)) Z2)))
   (zh (yh (PW.pt (Yr (zoy (zhb hu (pv 2) (pv 0))) (j9 (zu zaz (jv hu (pv 0) (pv 2) (fun _ _ => rfl)) (xu (zc (pv 3) (zc zl zd))) rfl)))) (zh (zn xx)) zx)))
  (zh (zn xx)), ?_⟩
 obtain ⟨am, xm, rfl, ham, hlm⟩ := hv;have hml := hlm.length;rw [ae] at hml;refine ⟨_, rfl, am, rfl, ⟨xm, SqT.of ham⟩, ?_⟩;refine Z6 (xs := xm) (fun i σ H3 => Same H H3 ∧ (ms.take i).all (Yu had) = true ∧ ∃ x2 x3, σ = [some (.ref hd), some (.ref am), x2, x3]) ⟨Same.refl H, rfl, none, none, rfl⟩ (fun i σ H3 hi ⟨s3, _⟩ => SqT.of (s3 _ _ ham)) ?_ ?_
 · rintro i x σ H3 hx ⟨s3, hall, x2, x3, rfl⟩;obtain ⟨tt, htt, hxt⟩ := hlm.get' hx;rw [ay] at htt;obtain ⟨m, hm, rfl⟩ : ∃ m, ms[i]? = some m ∧ Y8 m = tt := by
    cases e : ms[i]? with
    | none => rw [e] at htt; cases htt
    | some z => rw [e] at htt; exact ⟨z, rfl, Option.some.inj htt⟩
   obtain ⟨a6, rfl, ha6⟩ := zcz (hxt.mono s3);refine ⟨a6, _, rfl, SqT.of ha6, rfl, _, _, rfl, _, _, rfl, rfl, ?_⟩;have hhd3 := s3 _ _ hhd;have get3 : qv H3 hd (.int m.1) ((kx had m.1).map V.str) := by
    have q := qv.k (k := (Sum.inl m.1 : Key)) hhd3;rw [Yy] at q;exact q
   have bad : Yu had m = false → Wp had ms = false := fun e => by
    unfold Wp;rw [List.all_eq_false];exact ⟨m, bz hm, by rw [e]; decide⟩
   cases e : kx had m.1 with
   | none =>
     rw [e] at get3;have b := bad (by unfold Yu; rw [e]);refine ⟨_, rfl, _, rfl, hd, _, rfl, get3, _, rfl, yp (yp ?_)⟩;rw [← b];exact k _ s3
   | some x =>
     rw [e] at get3;refine ⟨_, rfl, _, rfl, hd, _, rfl, get3, _, rfl, yl ?_⟩;refine ⟨_, rfl, _, rfl, hd, _, rfl, get3, _, rfl, (by show 2 ≤ sizeLine; decide), fun p2 hp2 => ⟨p2, _, rfl, .inr (SqT.of zf), rfl, rfl, _, rfl, ?_⟩⟩;have s4 := s3.trans (Same.new hp2 (.tup [.str m.2, .str "both"]));generalize upd H3 p2 (.tup [.str m.2, .str "both"]) = H4 at s4 ⊢;rw [if_pos rfl];have ho : Yu had m = inV (.str x) [.str m.2, .str "both"] := by unfold Yu; rw [e]
     cases z : inV (.str x) [.str m.2, .str "both"] with
     | false =>
       have b := bad (by rw [ho, z]);refine yp ?_;rw [← b];exact k _ s4
     | true =>
       refine yl ⟨s4, ?_, _, _, rfl⟩;rw [cm, hm, List.all_append, hall];show (true && (Yu had m && true)) = true;rw [ho, z];rfl
 rintro σ H3 ⟨s3, hall, x2, x3, rfl⟩;rw [hml, ci] at hall;have e : Wp had ms = true := hall;rw [← e];exact k _ s3
theorem zab : bootBuiltins "sorted" = some (.builtin "sorted") := by decide +kernel
theorem But.new (h : H p = none) : But a H (L2.upd H p o) := fun b u _ e => by rw [zk (zj e h)]; exact e
theorem X5 {t2 : TT} {tn : TS} (G : Hp → Prop) (b : Bool) (g : G H) (h1 : ∀ Q : Bool → Hp → Prop, Q b H → t1 σ H Q) (s : ∀ H', G H' → tn D σ H')
  (r : (∀ H', G H' → tn D σ H') → b = true → t2 σ H fun c H1 => if c = true then tb D σ H1 else tn D σ H1) : zl7 (zqm t1 t2) tb tn D σ H := by
 refine h1 _ ?_;cases b with
 | true => exact yp (r s rfl)
 | false => exact yl (yl (s H g))
theorem zl6 {tn : TS} (G : Hp → Prop) (b : Bool) (g : G H) (h1 : ∀ Q : Bool → Hp → Prop, Q b H → t1 σ H Q) (s : ∀ H', G H' → tn D σ H')
  (r : b = true → tb D σ H) : zl7 t1 tb tn D σ H := by
 refine h1 _ ?_;cases b with
 | true => exact yp (r rfl)
 | false => exact yl (s H g)
theorem zfn (R : L2.St → Hp → Prop) (b : Bool) (h1 : ∀ Q : Bool → Hp → Prop, Q b H → t1 σ H Q) (hn : ∀ σ' H', R σ' H' → D.nx σ' H')
  (h0 : b = false → R σ H) (ht : b = true → (∀ σ' H', R σ' H' → D.nx σ' H') → tb D σ H) : zl7 t1 tb Yh D σ H := by
 refine h1 _ ?_;cases b with
 | true => exact yp (ht rfl hn)
 | false => exact yl (hn _ _ (h0 rfl))
abbrev Lat := List (zm × V)
noncomputable def kvL (cs : Lat) : List (Key × V) := cs.map fun x => ((Sum.inl (x.1.1 : Int) : Key), x.2)
noncomputable def kyL (cs : Lat) : List Int := cs.map fun x => (x.1.1 : Int)
theorem zkm (cs : Lat) : (kvL cs).map (·.1) = (kyL cs).map (Sum.inl : Int → Key) := by
 unfold kvL kyL;rw [cp, cp];rfl
theorem zbe : ∀ {cs : Lat}, (kyL cs).Nodup → ∀ {x : zm × V}, x ∈ cs → xz (kvL cs) (Sum.inl (x.1.1 : Int) : Key) = some x.2
 | y :: r, hn, x, hx => by
   unfold kyL at hn;rw [bh, cr] at hn;unfold xz kvL;rw [bh, List.find?_cons];rcases ag.mp hx with rfl | hx
   · rw [au rfl]; rfl
   · have ne : ((Sum.inl (y.1.1 : Int) : Key)) ≠ Sum.inl (x.1.1 : Int) := fun z => hn.1 (by rw [show ((y.1.1 : Nat) : Int) = x.1.1 from Sum.inl.inj z]; exact List.mem_map_of_mem (f := fun x : zm × V => (x.1.1 : Int)) hx);rw [bn ne];exact zbe (cs := r) hn.2 hx
theorem zkw (had : List Mem) : (wt had).map (·.1) = (had.map (·.1)).map (Sum.inl : Int → Key) := by
 unfold wt;rw [cp, cp];rfl
structure LatAt (H : Hp) (lt : Addr) (cs : Lat) : Prop where
 at' : H lt = some (.dK (kvL cs))
 nd : (kyL cs).Nodup
 few : cs.length ≤ 10
 each : ∀ x ∈ cs, Is H (eMs x.1.2) x.2 ∧ x.1.2.length ≤ 10
noncomputable def Vz (had : List Mem) (cs : Lat) : List zm := (cs.map (·.1)).filter fun c => Wp had c.2
noncomputable def zq4 (K : PySem.W.Frag) : Sp := fun vs H Q _ => ∃ (a s : Addr) (ns : List Int) (b : Int) (hd : Addr) (had : List Mem) (lt : Addr) (cs : Lat), vs = [.ref a, .int b, .ref hd, .ref lt] ∧ Tape K H a s ns ∧ 0 ≤ b ∧ b ≤ 99 ∧
 H hd = some (.dK (wt had)) ∧ (had.map (·.1)).Nodup ∧ had.length ≤ 10 ∧ LatAt H lt cs ∧ ∀ d v H', DrD b had (Vz had cs) d → But a H H' → Tape K H' a s ns → Is H' (eD d) v → Q v H'
theorem zrr (h0 : 0 ≤ j) (h1 : j < 4) : ∃ m, atI ([.int 1, .int 1, .int 2, .int 99] : List V) j = some (.int m) ∧ 1 ≤ m ∧ m ≤ 99 := by
 have : j = 0 ∨ j = 1 ∨ j = 2 ∨ j = 3 := by omega
 rcases this with rfl | rfl | rfl | rfl <;> exact ⟨_, rfl, by decide, by decide⟩
theorem zrq (h0 : 0 ≤ j) (h1 : j < 6) : ∃ m, atI ([.int 1, .int 1, .int 2, .int 3, .int 99, .int 9999] : List V) j = some (.int m) ∧ 1 ≤ m ∧ m ≤ 9999 := by
 have : j = 0 ∨ j = 1 ∨ j = 2 ∨ j = 3 ∨ j = 4 ∨ j = 5 := by omega
 rcases this with rfl | rfl | rfl | rfl | rfl | rfl <;> exact ⟨_, rfl, by decide, by decide⟩
theorem zrm (h0 : 0 ≤ j) (h1 : j < 4) : ∃ m, atI ([.int 0, .int 1, .int 7, .int 999] : List V) j = some (.int m) ∧ 0 ≤ m ∧ m ≤ 999 := by
 have : j = 0 ∨ j = 1 ∨ j = 2 ∨ j = 3 := by omega
 rcases this with rfl | rfl | rfl | rfl <;> exact ⟨_, rfl, by decide, by decide⟩
theorem zrn (h0 : 0 ≤ j) (h1 : j < 4) : ∃ m, atI ([.str "a", .str "come", .str "go", .str "zzzzzzzz"] : List V) j = some (.str m) ∧ zqa m := by
 have : j = 0 ∨ j = 1 ∨ j = 2 ∨ j = 3 := by omega
 rcases this with rfl | rfl | rfl | rfl
 · exact ⟨"a", rfl, .inl rfl⟩
 · exact ⟨"come", rfl, .inr (.inl rfl)⟩
 · exact ⟨"go", rfl, .inr (.inr (.inl rfl))⟩
 · exact ⟨"zzzzzzzz", rfl, .inr (.inr (.inr rfl))⟩
theorem zlu {xs : List V} (h0 : 0 ≤ j) (h1 : j < (xs.length : Int)) : ∃ x, atI xs j = some x ∧ x ∈ xs := by
 obtain ⟨n, rfl⟩ : ∃ n : Nat, j = (n : Int) := ⟨j.toNat, by omega⟩
 have hn : n < xs.length := by omega
 exact ⟨xs[n], we (be hn), List.getElem_mem hn⟩
theorem zmx (t : xk H H') {ms : List Mem} (i : Is H (eMs ms) v) : Is H' (eMs ms) v := by
 obtain ⟨a, xs, rfl, h, l⟩ := i;exact ⟨a, xs, rfl, t _ _ h, l.tups t (zgf ms)⟩
theorem LatAt.to {lt : Addr} {cs : Lat} (L : LatAt H lt cs) (t : xk H H') (e : H' lt = H lt) : LatAt H' lt cs := ⟨by rw [e]; exact L.at', L.nd, L.few, fun x hx => ⟨zmx t (L.each x hx).1, (L.each x hx).2⟩⟩
noncomputable def zlw (b : Int) (had : List Mem) (cs : List zm) (pl : Int) (x : V) : Prop := ∃ w d, x = .str w ∧ eD d = .tup [.str w, .int pl] ∧ DrD b had cs d
theorem Wa : FnScope ["deck", "boxes", "have", "later", "way", "had", "place", "some", "fit", "at"] ["deck", "boxes", "have", "later"] (zi Zb) := .of
theorem za6 (D : Def K mg "_law_e_house_deed" Zb) (T : Txt K mg) (o1 : Ok P w K mg base "_law_e_pick" 2 ["deck", "many"] (zi8 K)) (o2 : Ok P w K mg base "_law_e_may_call" 1 ["have", "called"] zq3) : Ok P w K mg base "_law_e_house_deed" 3 ["deck", "boxes", "have", "later"] (zq4 K) := by
 refine vp D Wa (fun vs H Q E ⟨_, _, _, _, _, _, _, _, e, _⟩ => by rw [e]; rfl) fun f cdv A outer sh H vs Q E hr h => ?_;obtain ⟨a, s, ns, nb, hd, had, lt, cs, rfl, hT, hb0, hb9, hhd, hnd, hhl, hL, k⟩ := h;have r1 := hr.mono (show 1 ≤ 2 by decide);have hu := Ji hr;have nd := Wa.nd;refine ⟨_, ze (zr (i := 4) nd rfl (Or.inl rfl) (ya o1 hr (zc (pv 0) (zc zg zd))))
  (ze (zr (i := 5) nd rfl (Or.inl rfl) (yf (Jw rfl) rfl T.sorted zab (zc (pv 2) zd)))
  (ze (yh (PW.pt (Xm (zu zch (pv 4) zg (ye _)) (Z1 (zu zci (pv 1) zg (ye _)))))
   (zh (zn (xu (zc zl (zc (ya o1 hr (zc (pv 0) (zc (pv 1) zd))) (zc (zp yi (yr (zc zg (zc zg (zc zg (zc zg zd))))) (ya o1 hr (zc (pv 0) (zc zg zd))) (fun _ _ => rfl)) zd)))))) zx)
  (ze (yh (PW.pt (Xm (zu zch (pv 4) zg (ye _)) (Z1 (zu zci (pv 1) zg (ye _)))))
   (zh (zn (xu (zc zl (zc (ya o1 hr (zc (pv 0) (zc (pv 1) zd))) (zc (zp yi (yr (zc zg (zc zg (zc zg (zc zg (zc zg (zc zg zd))))))) (ya o1 hr (zc (pv 0) (zc zg zd))) (fun _ _ => rfl)) zd)))))) zx)
  (ze (yh (PW.pt (Xm (zu zch (pv 4) zg (ye _)) (Z1 (zu (zfz hr.units0) (pv 5) (yr zd) (ye _)))))
   (ze (zr (i := 6) nd rfl (Or.inl rfl) (zp yi (pv 5) (ya o1 hr (zc (pv 0) (zc (yf yg rfl T.len xp (zc (pv 5) zd)) zd))) (fun _ _ => rfl)))
   (ze (zr (i := 7) nd rfl (Or.inl rfl) (yr (zc zl zd)))
   (ze (yh (zu Xb (jv hu (pv 2) (pv 6) (fun _ _ => rfl)) zl (ye _)) (zh (zr (i := 7) nd rfl (Or.inl rfl) (yc qd (pv 7) (yr (zc zl (zc zl zd)))))) zx)
   (ze (yh (zu Xb (jv hu (pv 2) (pv 6) (fun _ _ => rfl)) zl (ye _)) (zh (zr (i := 7) nd rfl (Or.inl rfl) (yc qd (pv 7) (yr (zc zl (zc zl zd)))))) zx)
   (zh (zn (xu (zc (zp yi (pv 7) (ya o1 hr (zc (pv 0) (zc (yf yg rfl T.len xp (zc (pv 7) zd)) zd))) (fun _ _ => rfl)) (zc (pv 6) zd))))))))) zx)
  (ze (zcd (i := 8) (own := ["at"]) (cap := [2, 3]) rfl (xr (zi Zb) rfl rfl (by decide +kernel) (by decide +kernel) (by decide +kernel) ⟨⟨_, rfl, .inl rfl, Zd rfl⟩, ⟨_, rfl, .inl rfl, Zd rfl⟩, trivial⟩)
   (jg (yf (Jw rfl) rfl T.sorted zab (zc (pv 3) zd))) (fun _ _ _ _ => yd (i := 0) (by show (["at", "have", "later"] : List Str).Nodup; decide +kernel) rfl (Or.inl rfl))
   (fun _ _ _ _ => zfv (yz (ya o2 r1 (zc (pv 1) (zc (jv hu (pv 2) (pv 0) (fun _ _ => rfl)) zd))))) (fun _ _ _ _ => pv 0) nd rfl rfl (by with_unfolding_all rfl))
  (ze (yh (PW.pt (Xm (zu wo (pv 4) zg (ye _)) (Z1 (zu (zfz hr.units0) (pv 8) (yr zd) (ye _)))))
   (ze (zr (i := 9) nd rfl (Or.inl rfl) (zp yi (pv 8) (ya o1 hr (zc (pv 0) (zc (yf yg rfl T.len xp (zc (pv 8) zd)) zd))) (fun _ _ => rfl)))
   (zh (zn (xu (zc zl (zc (pv 9) (zc (jv hu (pv 3) (pv 9) (fun _ _ => rfl)) zd))))))) zx)
  (ze (yh (zu wo (pv 4) zg (ye _))
   (zh (zn (xu (zc zl (zc (zp yi (yr (zc zl (zc zl (zc zl (zc zl zd))))) (ya o1 hr (zc (pv 0) (zc zg zd))) (fun _ _ => rfl)) zd))))) zx)
  (zh (zn (xu (zc zl (zc (zp yi (yr (zc zg (zc zg (zc zg (zc zg zd))))) (ya o1 hr (zc (pv 0) (zc zg zd))) (fun _ _ => rfl)) zd)))))))))))), ?_⟩
 refine ⟨_, rfl, a, s, ns, 10, rfl, hT, by decide, by decide, fun way H1 w0 w1 b1 t1 => ?_⟩;obtain ⟨p0, r0, ha0, _, _⟩ := hT.at';have hda : hd ≠ a := Ja hhd ha0 (by intro z; cases z);have lta : lt ≠ a := Ja hL.at' ha0 (by intro z; cases z);have hhd1 := b1 _ _ hda hhd;have hnl : (had.map (·.1)).length < 64 := by rw [ae]; omega
 refine ⟨_, rfl, hd, wt had, had.map (·.1), rfl, .inl hhd1, zkw had, hnl, fun ns' l hp ho hl => ?_⟩;have s2 := Same.new hl (.lst (ns'.map V.int));have g2 : upd H1 l (.lst (ns'.map V.int)) l = some (.lst (ns'.map V.int)) := zf;have la : l ≠ a := fun z => by
  obtain ⟨_, _, e, _⟩ := t1.at';rw [z, e] at hl;cases hl
 generalize upd H1 l (.lst (ns'.map V.int)) = H2 at s2 g2 ⊢;have t2 := t1.same s2;have b2 : But a H H2 := b1.trans (Same.but s2);have hhd2 := s2 _ _ hhd1;have hL2 : LatAt H2 lt cs := hL.to (hT.tups b2) (by rw [b2 _ _ lta hL.at', hL.at']);have hnn : ns'.length = had.length := by
  have := hp.length_eq;rw [ae] at this;exact this
 have G0 : But a H2 H2 ∧ Tape K H2 a s ns := ⟨But.refl a H2, t2⟩
 have facts : ∀ H', But a H2 H' ∧ Tape K H' a s ns → H' hd = some (.dK (wt had)) ∧ H' l = some (.lst (ns'.map V.int)) ∧ LatAt H' lt cs := fun H' ⟨b, t⟩ =>
  ⟨b _ _ hda hhd2, b _ _ la g2, hL2.to (t2.tups b) (by rw [b _ _ lta hL2.at', hL2.at'])⟩
 have newer : ∀ {H0 H' : Hp} {p : Addr} {z : HO}, (But a H0 H' ∧ Tape K H' a s ns) → H' p = none → (But a H0 (upd H' p z) ∧ Tape K (upd H' p z) a s ns) := fun {H0 H' p z} g hp => ⟨g.1.trans (But.new hp), g.2.same (Same.new hp _)⟩
 have fresh : ∀ {H' : Hp} {p : Addr}, Tape K H' a s ns → H' p = none → p ≠ a := fun {H' p} t hp z => by
  obtain ⟨_, _, e, _⟩ := t.at';rw [z, e] at hp;cases hp
 dsimp only [V5, Yh];refine X5 (fun H' => But a H2 H' ∧ Tape K H' a s ns) _ G0 (fun Q q => ⟨_, rfl, way, 2, rfl, rfl, _, rfl, q⟩) (fun H4 g4 => ?_) (fun jk _ => ?_);rotate_left
 · refine ⟨_, rfl, _, _, rfl, rfl, _, rfl, vm (fun c2 => ?_) (fun _ => jk H2 G0)⟩;have c2 : nb > 0 := cb c2;refine ⟨_, rfl, _, rfl, a, s, ns, nb, rfl, G0.2, c2, by omega, fun x Hx x0 x1 bx tx => ⟨(by show 4 ≤ sizeLine; decide), fun pl hpl => ⟨_, rfl, a, s, ns, 4, rfl, tx.same (Same.new hpl _), by decide, by decide, fun y Hy y0 y1 by' ty => ?_⟩⟩⟩;obtain ⟨m, hat, m1, m2⟩ := zrr y0 y1;refine ⟨pl, _, y, _, rfl, rfl, SqL.of (by' _ _ (fresh tx hpl) zf), hat, by show 3 ≤ sizeLine; decide, fun q hq => ?_⟩;exact k (.rai x m) _ _ ⟨x0, x1, m1, m2⟩ (b2.trans (G0.1.trans (bx.trans ((But.new hpl).trans (by'.trans (But.new hq)))))) (ty.same (Same.new hq _)) (Is.newTup hq (IsL.three rfl rfl rfl))
 dsimp only [V5, Yh];refine X5 (fun H' => But a H2 H' ∧ Tape K H' a s ns) _ g4 (fun Q q => ⟨_, rfl, way, 4, rfl, rfl, _, rfl, q⟩) (fun H5 g5 => ?_) (fun jk _ => ?_);rotate_left
 · refine ⟨_, rfl, _, _, rfl, rfl, _, rfl, vm (fun c2 => ?_) (fun _ => jk H4 g4)⟩;have c2 : nb > 0 := cb c2;refine ⟨_, rfl, _, rfl, a, s, ns, nb, rfl, g4.2, c2, by omega, fun x Hx x0 x1 bx tx => ⟨(by show 6 ≤ sizeLine; decide), fun pl hpl => ⟨_, rfl, a, s, ns, 6, rfl, tx.same (Same.new hpl _), by decide, by decide, fun y Hy y0 y1 by' ty => ?_⟩⟩⟩;obtain ⟨m, hat, m1, m2⟩ := zrq y0 y1;refine ⟨pl, _, y, _, rfl, rfl, SqL.of (by' _ _ (fresh tx hpl) zf), hat, by show 3 ≤ sizeLine; decide, fun q hq => ?_⟩;exact k (.awa x m) _ _ ⟨x0, x1, m1, m2⟩ (b2.trans (g4.1.trans (bx.trans ((But.new hpl).trans (by'.trans (But.new hq)))))) (ty.same (Same.new hq _)) (Is.newTup hq (IsL.three rfl rfl rfl))
 dsimp only [V5, Yh];refine X5 (fun H' => But a H2 H' ∧ Tape K H' a s ns) _ g5 (fun Q q => ⟨_, rfl, way, 7, rfl, rfl, _, rfl, q⟩) (fun H6 g6 => ?_) (fun jk _ => ?_);rotate_left
 · refine ⟨_, rfl, (by show 0 ≤ sizeLine; decide), fun pe hpe => ⟨l, pe, _, rfl, rfl, SqL.of (facts _ (newer g5 hpe)).2.1, SqL.of zf, _, rfl, vm (fun c2 => ?_) (fun _ => jk _ (newer g5 hpe))⟩⟩;have g5' := newer (z := .lst []) g5 hpe;generalize upd H5 pe (.lst []) = H5' at g5' ⊢;have hpos : 0 < ns'.length := by
    cases ns' with
    | nil => cases c2
    | cons x r => exact Nat.succ_pos _
   have F5 := facts _ g5';refine ⟨_, rfl, _, rfl, _, rfl, l, _, rfl, .inl (SqL.of F5.2.1), a, s, ns, _, rfl, g5'.2, by rw [ae]; omega, by rw [ae]; omega, fun j H6 j0 j1 b6 t6 => ?_⟩;have g6 : But a H2 H6 ∧ Tape K H6 a s ns := ⟨g5'.1.trans b6, t6⟩
   obtain ⟨x, hx, hmem⟩ := zlu j0 j1;obtain ⟨pl, hpl, rfl⟩ := ax.mp hmem;obtain ⟨m, hm, rfl⟩ := ax.mp (hp.mem_iff.mp hpl);refine ⟨l, _, j, _, rfl, rfl, SqL.of (facts _ g6).2.1, hx, ?_⟩;refine ⟨by show 1 ≤ sizeLine; decide, fun p7 hp7 => ?_⟩;have g7 := newer (z := .lst [.str "leave"]) g6 hp7;have q7 : upd H6 p7 (.lst [.str "leave"]) p7 = some (.lst [.str "leave"]) := zf;have p7a := fresh t6 hp7;generalize upd H6 p7 (.lst [.str "leave"]) = H7 at g7 q7 ⊢;have dget : ∀ H', But a H2 H' ∧ Tape K H' a s ns → qv H' hd (.int m.1) (some (.str m.2)) := fun H' g => by
    have q := qv.k (k := (Sum.inl m.1 : Key)) (facts _ g).1;rw [Yy, Yv hnd hm] at q;exact q
   have wl : zlw nb had (Vz had cs) m.1 (.str "leave") := ⟨"leave", .lea m.1, rfl, rfl, m.2, hm⟩
   dsimp only [V5, Yh];refine zfn (fun σ' H' => ∃ q xs, σ' = [some (.ref a), some (.int nb), some (.ref hd), some (.ref lt), some (.int way), some (.ref l), some (.int m.1), some (.ref q), none, none] ∧ (But a H2 H' ∧ Tape K H' a s ns) ∧ H' q = some (.lst xs) ∧ q ≠ a ∧ xs ≠ [] ∧ xs.length ≤ 3 ∧ ∀ x ∈ xs, zlw nb had (Vz had cs) m.1 x)
    (!decide (V.str m.2 = V.str "go")) (fun Q q => ⟨_, rfl, _, rfl, hd, _, rfl, dget _ g7, rfl, _, rfl, q⟩) (fun σ8 H8 r8 => ?_) (fun _ => ⟨p7, _, rfl, g7, q7, p7a, by simp, by show 1 ≤ 3; decide, fun x hx => by rw [av.mp hx]; exact wl⟩) (fun e nx => ?_)
   rotate_left
   · have ne : m.2 ≠ "go" := fun z => by rw [z] at e; simp at e
     have wc : zlw nb had (Vz had cs) m.1 (.str "come") := ⟨"come", .com m.1, rfl, rfl, m.2, hm, ne⟩
     refine ⟨_, rfl, by show 2 ≤ sizeLine; decide, fun pa hpa => ⟨p7, pa, _, _, rfl, rfl, Same.new hpa _ _ _ q7, zf, by show 3 ≤ sizeLine; decide, fun pb hpb => ?_⟩⟩;have g8 := newer (z := .lst [.str "come", .str "come"]) g7 hpa;refine nx _ _ ⟨pb, _, rfl, newer g8 hpb, zf, fresh g8.2 hpb, by simp, by show 3 ≤ 3; decide, fun x hx => ?_⟩;rcases ba.mp hx with hx | hx
     · rw [av.mp hx]; exact wl
     · rcases ag.mp hx with rfl | hx
       · exact wc
       · rw [av.mp hx]; exact wc
   obtain ⟨q8, xs8, rfl, g8, h8, q8a, n8, l8, w8⟩ := r8;dsimp only [V5, Yh];refine zfn (fun σ' H' => ∃ q xs, σ' = [some (.ref a), some (.int nb), some (.ref hd), some (.ref lt), some (.int way), some (.ref l), some (.int m.1), some (.ref q), none, none] ∧ (But a H2 H' ∧ Tape K H' a s ns) ∧ H' q = some (.lst xs) ∧ q ≠ a ∧ xs ≠ [] ∧ xs.length ≤ 5 ∧ ∀ x ∈ xs, zlw nb had (Vz had cs) m.1 x)
    (!decide (V.str m.2 = V.str "come")) (fun Q q => ⟨_, rfl, _, rfl, hd, _, rfl, dget _ g8, rfl, _, rfl, q⟩) (fun σ9 H9 r9 => ?_) (fun _ => ⟨q8, _, rfl, g8, h8, q8a, n8, by omega, w8⟩) (fun e nx => ?_)
   rotate_left
   · have ne : m.2 ≠ "come" := fun z => by rw [z] at e; simp at e
     have wc : zlw nb had (Vz had cs) m.1 (.str "go") := ⟨"go", .goo m.1, rfl, rfl, m.2, hm, ne⟩
     refine ⟨_, rfl, by show 2 ≤ sizeLine; decide, fun pa hpa => ⟨q8, pa, _, _, rfl, rfl, Same.new hpa _ _ _ h8, zf, zw (by show _ + 2 ≤ 1000; omega), fun pb hpb => ?_⟩⟩;have g9 := newer (z := .lst [.str "go", .str "go"]) g8 hpa;refine nx _ _ ⟨pb, _, rfl, newer g9 hpb, zf, fresh g9.2 hpb, by simp, by rw [ar]; show _ + 2 ≤ 5; omega, fun x hx => ?_⟩;rcases ba.mp hx with hx | hx
     · exact w8 x hx
     · rcases ag.mp hx with rfl | hx
       · exact wc
       · rw [av.mp hx]; exact wc
   obtain ⟨q9, xs9, rfl, g9, h9, q9a, n9, l9, w9⟩ := r9;have hp9 : 0 < xs9.length := List.length_pos_iff.mpr n9;refine ⟨_, rfl, _, rfl, _, rfl, q9, _, rfl, .inl (SqL.of h9), a, s, ns, _, rfl, g9.2, by omega, by omega, fun j H10 j0 j1 b10 t10 => ?_⟩;have h10 := b10 _ _ q9a h9;obtain ⟨x, hx, hmem⟩ := zlu j0 j1;obtain ⟨wd, d, rfl, ed, hD⟩ := w9 x hmem;refine ⟨q9, _, j, _, rfl, rfl, SqL.of h10, hx, _, rfl, by show 2 ≤ sizeLine; decide, fun pz hpz => ?_⟩;exact k d _ _ hD (b2.trans (g9.1.trans (b10.trans (But.new hpz)))) (t10.same (Same.new hpz _)) (by rw [ed]; exact Is.newTup hpz (IsL.two rfl rfl))
 have F6 := facts _ g6;have hkl : (kyL cs).length = cs.length := ae _;have hfew := hL.few;refine ⟨_, rfl, lt, kvL cs, kyL cs, rfl, .inl F6.2.2.at', zkm cs, by omega, fun ns2 l2 p2 o2 hl2 => ?_⟩;have g7 := newer (z := .lst (ns2.map V.int)) g6 hl2;have q7 : upd H6 l2 (.lst (ns2.map V.int)) l2 = some (.lst (ns2.map V.int)) := zf;generalize upd H6 l2 (.lst (ns2.map V.int)) = H7 at g7 q7 ⊢;have F7 := facts _ g7;have hn2 : ns2.length ≤ 10 := by have := p2.length_eq; omega
 refine ⟨l2, rfl, ⟨_, SqL.of q7⟩, ?_⟩;refine Y4 (xs := ns2.map V.int) (fun i zs H' => Same H7 H' ∧ zs.length ≤ i ∧ ∀ z ∈ zs, ∃ x ∈ cs, z = .int (x.1.1 : Int) ∧ Wp had x.1.2 = true) ⟨Same.refl H7, ai _, fun z hz => (by cases hz)⟩ (fun i zs H' hi ⟨s', hz, _⟩ => ⟨SqL.of (s' _ _ q7), zw (by rw [ae] at hi; omega)⟩) ?_ ?_
 · rintro i y zs H8 hy ⟨s8, hz8, hall⟩;rw [ay] at hy;cases en : ns2[i]? with
   | none => rw [en] at hy; cases hy
   | some n =>
   rw [en] at hy;cases hy;obtain ⟨x, hx, rfl⟩ := ax.mp (p2.mem_iff.mp (bz en));have dg : qv H8 lt (.int (x.1.1 : Int)) (some x.2) := by
    have q := qv.k (k := (Sum.inl (x.1.1 : Int) : Key)) (s8 _ _ F7.2.2.at');rw [zbe F7.2.2.nd hx] at q;exact q
   obtain ⟨ix, lx⟩ := F7.2.2.each x hx;refine ⟨_, rfl, _, rfl, _, rfl, lt, _, rfl, dg, hd, had, x.1.2, x.2, rfl, s8 _ _ F7.1, ix.mono s8, by omega, fun H9 s9 => ⟨_, rfl, vm (fun c => ⟨_, rfl, ?_⟩) (fun c => ⟨s8.trans s9, Nat.le_succ_of_le hz8, hall⟩)⟩⟩;refine ⟨s8.trans s9, by rw [ar]; exact Nat.succ_le_succ hz8, fun z hz => ?_⟩;rcases ba.mp hz with hz | hz
   · exact hall z hz
   · rw [av.mp hz];exact ⟨x, hx, rfl, c⟩
 rintro zs H8 ⟨s8, hz8, hall⟩ l8 hl8;rw [ae] at hz8;have s9 := s8.trans (Same.new hl8 (.lst zs));have q9 : upd H8 l8 (.lst zs) l8 = some (.lst zs) := zf;have t9 := g7.2.same s9;have l8a := fresh (g7.2.same s8) hl8;generalize upd H8 l8 (.lst zs) = H9 at s9 q9 t9 ⊢;have b9 : But a H H9 := b2.trans (g7.1.trans (Same.but s9));have hL9 : LatAt H9 lt cs := F7.2.2.to (fun b ys e => s9 _ _ e) (by rw [s9 _ _ F7.2.2.at', F7.2.2.at']);have G9 : But a H9 H9 ∧ Tape K H9 a s ns := ⟨But.refl a H9, t9⟩
 have facts9 : ∀ H', But a H9 H' ∧ Tape K H' a s ns → H' l8 = some (.lst zs) ∧ LatAt H' lt cs := fun H' ⟨b, t⟩ => ⟨b _ _ l8a q9, hL9.to (t9.tups b) (by rw [b _ _ lta hL9.at', hL9.at'])⟩
 dsimp only [V5, Yh];refine X5 (fun H' => But a H9 H' ∧ Tape K H' a s ns) _ G9 (fun Q q => ⟨_, rfl, rfl, _, rfl, q⟩) (fun H10 g10 => ?_) (fun jk _ => ?_);rotate_left
 · refine ⟨_, rfl, (by show 0 ≤ sizeLine; decide), fun pe hpe => ⟨l8, pe, _, rfl, rfl, SqL.of (facts9 _ (newer G9 hpe)).1, SqL.of zf, _, rfl, vm (fun c2 => ?_) (fun _ => jk _ (newer G9 hpe))⟩⟩;have g10 := newer (z := .lst []) G9 hpe;generalize upd H9 pe (.lst []) = H10 at g10 ⊢;have hpos : 0 < zs.length := by
    cases zs with
    | nil => cases c2
    | cons x r => exact Nat.succ_pos _
   refine ⟨_, rfl, _, rfl, _, rfl, l8, _, rfl, .inl (SqL.of (facts9 _ g10).1), a, s, ns, _, rfl, g10.2, by omega, by omega, fun j H11 j0 j1 b11 t11 => ?_⟩;have g11 : But a H9 H11 ∧ Tape K H11 a s ns := ⟨g10.1.trans b11, t11⟩
   have F11 := facts9 _ g11;obtain ⟨z, hx, hmem⟩ := zlu j0 j1;obtain ⟨x, hxc, rfl, hmh⟩ := hall z hmem;have dg : qv H11 lt (.int (x.1.1 : Int)) (some x.2) := by
    have q := qv.k (k := (Sum.inl (x.1.1 : Int) : Key)) F11.2.at';rw [zbe F11.2.nd hxc] at q;exact q
   refine ⟨l8, _, j, _, rfl, rfl, SqL.of F11.1, hx, _, rfl, _, rfl, _, rfl, lt, _, rfl, dg, by show 3 ≤ sizeLine; decide, fun pz hpz => ?_⟩;exact k (.beg x.1.1 x.1.2) _ _ (dr.mpr ⟨List.mem_map_of_mem (f := fun x : zm × V => x.1) hxc, hmh⟩) (b9.trans (g11.1.trans (But.new hpz))) (t11.same (Same.new hpz _)) (Is.newTup hpz (IsL.three rfl rfl (F11.2.each x hxc).1))
 dsimp only [V5, Yh];refine zl6 (fun H' => But a H9 H' ∧ Tape K H' a s ns) _ g10 (fun Q q => ⟨_, rfl, rfl, _, rfl, q⟩) (fun H11 g11 => ?_) (fun _ => ?_);rotate_left
 · refine ⟨(by show 4 ≤ sizeLine; decide), fun pl hpl => ⟨_, rfl, a, s, ns, 4, rfl, (newer g10 hpl).2, by decide, by decide, fun y H12 y0 y1 b12 t12 => ?_⟩⟩;obtain ⟨m, hat, m1⟩ := zrn y0 y1;refine ⟨pl, _, y, _, rfl, rfl, SqL.of (b12 _ _ (fresh g10.2 hpl) zf), hat, by show 2 ≤ sizeLine; decide, fun p hp => ?_⟩;exact k (.say m) _ _ m1 (b9.trans ((newer g10 hpl).1.trans (b12.trans (But.new hp)))) (t12.same (Same.new hp _)) (Is.newTup hp (IsL.two rfl rfl))
 refine ⟨(by show 4 ≤ sizeLine; decide), fun pl hpl => ⟨_, rfl, a, s, ns, 4, rfl, (newer g11 hpl).2, by decide, by decide, fun y H12 y0 y1 b12 t12 => ?_⟩⟩;obtain ⟨m, hat, m1, m2⟩ := zrm y0 y1;refine ⟨pl, _, y, _, rfl, rfl, SqL.of (b12 _ _ (fresh g11.2 hpl) zf), hat, by show 2 ≤ sizeLine; decide, fun p hp => ?_⟩;exact k (.wor m) _ _ ⟨m1, m2⟩ (b9.trans ((newer g11 hpl).1.trans (b12.trans (But.new hp)))) (t12.same (Same.new hp _)) (Is.newTup hp (IsL.two rfl rfl))
noncomputable def zq5 (K : PySem.W.Frag) : Sp := fun vs H Q _ => ∃ (a s : Addr) (ns : List Int), vs = [.ref a] ∧ Tape K H a s ns ∧ ∀ h v H', Fit h → But a H H' → Tape K H' a s ns → Is H' (eH h) v → Q v H'
theorem Wv (kn : List (List Mem)) : jd (kn.map eMs) := jd.all.mpr fun t ht => by
 obtain ⟨m, _, rfl⟩ := ax.mp ht;exact zgf m
theorem zrp (h0 : 0 ≤ j) (h1 : j < 5) : ∃ m, atI ([.int 0, .int 1, .int 2, .int 3, .int 99] : List V) j = some (.int m) ∧ 0 ≤ m ∧ m ≤ 99 := by
 have : j = 0 ∨ j = 1 ∨ j = 2 ∨ j = 3 ∨ j = 4 := by omega
 rcases this with rfl | rfl | rfl | rfl | rfl <;> exact ⟨_, rfl, by decide, by decide⟩
theorem zro (h0 : 0 ≤ j) (h1 : j < 4) : ∃ m, atI ([.str "both", .str "both", .str "come", .str "go"] : List V) j = some (.str m) ∧ X2 m := by
 have : j = 0 ∨ j = 1 ∨ j = 2 ∨ j = 3 := by omega
 rcases this with rfl | rfl | rfl | rfl
 · exact ⟨"both", rfl, .inl rfl⟩
 · exact ⟨"both", rfl, .inl rfl⟩
 · exact ⟨"come", rfl, .inr (.inl rfl)⟩
 · exact ⟨"go", rfl, .inr (.inr rfl)⟩
noncomputable def SOK (b : Int) (kn : List (List Mem)) (j : Nat) (sc : yb) (ms : List Mem) : Prop := sc.length ≤ 6 ∧ goA sc ms = true ∧ (jz sc).length ≤ 2 ∧ ∀ d ∈ sc, zak b ms j kn d
structure Tn (H : Hp) (a s cl sl hd lt dl : Addr) (nb : Int) (kn : List (List Mem)) (cv : List V) (rs : List yb) (xs : List V) (i : Nat) (ms : List Mem) (t : Nat) (H' : Hp) (ds : yb) (ys : List V) (cs : Lat) : Prop where
 b : But a H H'
 tp : Y9 H' a s
 c : H' cl = some (.lst cv)
 cl' : L2.IsL H' (kn.map eMs) cv
 sc : H' sl = some (.lst xs)
 sl' : L2.IsL H' (rs.map eS) xs
 h : H' hd = some (.dK (wt (ds.foldl vx ms)))
 l : LatAt H' lt cs
 d : H' dl = some (.lst ys)
 dl' : L2.IsL H' (ds.map eD) ys
 len : ds.length = t
 go : goA ds ms = true
 bg : (jz ds).length ≤ 1
 bg0 : cs ≠ [] → jz ds = []
 lat : ∀ x ∈ cs, i < x.1.1 ∧ kn[x.1.1]? = some x.1.2
 each : ∀ d ∈ ds, zak nb ms i kn d
noncomputable def isB : Deed → Bool
 | .beg _ _ => true
 | _ => false
theorem zdy {d : Deed} : (jz [d]).length = (if isB d = true then 1 else 0) := by cases d <;> rfl
section
variable {cl sl hd lt dl : Addr} {nb : Int} {kn : List (List Mem)} {cv : List V} {rs : List yb} {xs : List V} {ms : List Mem} {t : Nat} {ds : yb} {cs : Lat}
theorem Tn.move (N : Tn H a s cl sl hd lt dl nb kn cv rs xs i ms t H' ds ys cs) (tu : xk H' H2) (b2 : But a H' H2) (t2 : Y9 H2 a s) (ca : cl ≠ a) (sa : sl ≠ a) (ha : hd ≠ a) (la : lt ≠ a) (da : dl ≠ a) : Tn H a s cl sl hd lt dl nb kn cv rs xs i ms t H2 ds ys cs :=
 ⟨N.b.trans b2, t2, b2 _ _ ca N.c, N.cl'.tups tu (Wv kn), b2 _ _ sa N.sc, N.sl'.tups tu (zbk rs), b2 _ _ ha N.h, N.l.to tu (by rw [b2 _ _ la N.l.at', N.l.at']), b2 _ _ da N.d, N.dl'.tups tu (Yf ds), N.len, N.go, N.bg, N.bg0, N.lat, N.each⟩
theorem Tn.next {d : Deed} {cs2 : Lat} (N : Tn H a s cl sl hd lt dl nb kn cv rs xs i ms t H' ds ys cs) (hM : (ms.map (·.1)).Nodup) (hmo : ∀ m ∈ ms, X2 m.2) (iv : Is H' (eD d) v) (hD : DrD nb (ds.foldl vx ms) (Vz (ds.foldl vx ms) cs) d) (tu : xk H' H2) (b2 : But a H H2) (t2 : Y9 H2 a s)
  (hc : H2 cl = H' cl) (hs : H2 sl = H' sl) (hh : H2 hd = some (.dK (wt (vx (ds.foldl vx ms) d)))) (hl : LatAt H2 lt cs2) (hd' : H2 dl = some (.lst (ys ++ [v]))) (hcs : cs2 = [] ∨ (cs2 = cs ∧ isB d = false)) :
  Tn H a s cl sl hd lt dl nb kn cv rs xs i ms (t + 1) H2 (ds ++ [d]) (ys ++ [v]) cs2 := by
 have hsub := zgd ds ms;have hmay : ∀ c ∈ Vz (ds.foldl vx ms) cs, (i < c.1 ∧ kn[c.1]? = some c.2) ∧ Wp (ds.foldl vx ms) c.2 = true := fun c hc => by
  obtain ⟨h1, h2⟩ := dr.mp hc;obtain ⟨x, hx, rfl⟩ := ax.mp h1;exact ⟨N.lat x hx, h2⟩
 have hb0 : isB d = true → jz ds = [] := fun e => by
  refine N.bg0 fun z => ?_;rw [z] at hD;cases d with
  | beg j m => cases hD
  | _ => cases e
 refine ⟨b2, t2, by rw [hc]; exact N.c, N.cl'.tups tu (Wv kn), by rw [hs]; exact N.sc, N.sl'.tups tu (zbk rs), by rw [List.foldl_append]; exact hh, hl, hd', ?_, by rw [ar, N.len]; rfl, ?_, ?_, ?_, ?_, ?_⟩
 · rw [az];exact IsL.append (N.dl'.tups tu (Yf ds)) ((show L2.IsL H' [eD d] [v] from IsL.one iv).tups tu (Yf [d]))
 · rw [zdi, N.go, Kc (Y5 ds ms hM) (fun m hm => hmo m (hsub m hm)) (fun c hc => (hmay c hc).2) hD];rfl
 · rw [Vt, ar, zdy];have := N.bg;by_cases e : isB d = true
   · rw [hb0 e, if_pos e]; decide
   · rw [if_neg e]; omega
 · intro z;rcases hcs with e | ⟨e, e2⟩
   · exact absurd e z
   · rw [e] at z;have h1 := N.bg0 z;have h2 : (jz (ds ++ [d])).length = 0 := by
      rw [Vt, ar, zdy, h1, e2];rfl
     exact dm.mp h2
 · rcases hcs with e | ⟨e, _⟩
   · rw [e]; intro x hx; cases hx
   · rw [e]; exact N.lat
 · intro d' hd'';rcases ba.mp hd'' with h | h
   · exact N.each d' h
   · rw [av.mp h];exact ⟨_, hD.mono hsub (fun c hc => hc), fun c hc => (hmay c hc).1⟩
end
noncomputable def Xu (kn : List (List Mem)) (cv : List V) (i j : Nat) : Lat := (List.range j).map fun t => ((i + 1 + t, kn.getD (i + 1 + t) []), cv.getD (i + 1 + t) .non)
theorem zhp (kn : List (List Mem)) (cv : List V) (i j : Nat) : Xu kn cv i (j + 1) = Xu kn cv i j ++ [((i + 1 + j, kn.getD (i + 1 + j) []), cv.getD (i + 1 + j) .non)] := by
 unfold Xu;rw [List.range_succ, az];rfl
theorem zhq (kn : List (List Mem)) (cv : List V) (i j : Nat) : kyL (Xu kn cv i j) = (List.range j).map fun t => (((i + 1 + t : Nat)) : Int) := by
 unfold kyL Xu;rw [cp];rfl
theorem ze3 (kn : List (List Mem)) (cv : List V) (i j : Nat) : (kyL (Xu kn cv i j)).Nodup := by
 rw [zhq];exact List.Pairwise.map _ (fun a b h z => h (by omega)) (List.nodup_range (n := j))
theorem zkk (kn : List (List Mem)) (cv : List V) (i j : Nat) : ku (kvL (Xu kn cv i j)) (Sum.inl ((i + 1 + j : Nat) : Int) : Key) (cv.getD (i + 1 + j) .non) = kvL (Xu kn cv i (j + 1)) := by
 unfold ku;have e : ((kvL (Xu kn cv i j)).any fun kv => decide (kv.1 = (Sum.inl ((i + 1 + j : Nat) : Int) : Key))) = false := by
  rw [List.any_eq_false];intro kv hkv;unfold kvL Xu at hkv;rw [cp] at hkv;obtain ⟨t, ht, rfl⟩ := ax.mp hkv;have := dj.mp ht;intro z;have z := cb z;have z : ((i + 1 + t : Nat) : Int) = ((i + 1 + j : Nat) : Int) := Sum.inl.inj z;omega
 rw [e, if_neg c8, zhp];unfold kvL;rw [az];rfl
theorem zsi (d : Deed) : (∃ w, d = .lea w) ∨ (∃ j m, d = .beg j m) ∨ (dw d ≠ "leave" ∧ dw d ≠ "begin" ∧ (∀ had, vx had d = had) ∧ isB d = false) := by
 cases d with
 | lea w => exact .inl ⟨w, rfl⟩
 | beg j m => exact .inr (.inl ⟨j, m, rfl⟩)
 | rai i j => exact .inr (.inr ⟨(by decide : ("raise" : Str) ≠ "leave"), (by decide : ("raise" : Str) ≠ "begin"), fun _ => rfl, rfl⟩)
 | awa i j => exact .inr (.inr ⟨(by decide : ("await" : Str) ≠ "leave"), (by decide : ("await" : Str) ≠ "begin"), fun _ => rfl, rfl⟩)
 | com i => exact .inr (.inr ⟨(by decide : ("come" : Str) ≠ "leave"), (by decide : ("come" : Str) ≠ "begin"), fun _ => rfl, rfl⟩)
 | goo i => exact .inr (.inr ⟨(by decide : ("go" : Str) ≠ "leave"), (by decide : ("go" : Str) ≠ "begin"), fun _ => rfl, rfl⟩)
 | wor i => exact .inr (.inr ⟨(by decide : ("work" : Str) ≠ "leave"), (by decide : ("work" : Str) ≠ "begin"), fun _ => rfl, rfl⟩)
 | say i => exact .inr (.inr ⟨(by decide : ("say" : Str) ≠ "leave"), (by decide : ("say" : Str) ≠ "begin"), fun _ => rfl, rfl⟩)
theorem Km : FnScope ["deck", "boxes", "places", "many", "called", "at", "some", "scripts", "have", "later", "other", "script", "turn", "deed", "firsts"] ["deck"] (zi j8) := .of
theorem zhe (D : Def K mg "_law_e_house" j8) (T : Txt K mg) (o1 : Ok P w K mg base "_law_e_pick" 2 ["deck", "many"] (zi8 K)) (o2 : Ok P w K mg base "_law_e_house_deed" 3 ["deck", "boxes", "have", "later"] (zq4 K)) : Ok P w K mg base "_law_e_house" 4 ["deck"] (zq5 K) := by
 refine vp D Km (fun vs H Q E ⟨_, _, _, e, _⟩ => by rw [e]; rfl) fun f cdv A outer sh H vs Q E hr h => ?_;obtain ⟨a, s, ns, rfl, hT, k⟩ := h;have r2 := hr.mono (show 2 ≤ 3 by decide);have hu := Ji hr;have nd := Km.nd;refine ⟨_, ze (zr (i := 1) nd rfl (Or.inl rfl) (zp yi (yr (zc zg (zc zg (zc zg (zc zg (zc zg zd)))))) (ya o1 r2 (zc (pv 0) (zc zg zd))) (fun _ _ => rfl)))
  (ze (zr (i := 2) nd rfl (Or.inl rfl) (ya o1 r2 (zc (pv 0) (zc zg zd))))
  (ze (zr (i := 3) nd rfl (Or.inr rfl) (yc vo zg (ya o1 r2 (zc (pv 0) (zc zg zd)))))
  (ze (zr (i := 4) nd rfl (Or.inr rfl) (yr zd))
  (ze (wr PassesOwn.never rfl (qz rfl T.range (zc (pv 3) zd)) (yd (i := 5) nd rfl (Or.inl rfl))
   (ze (zcd (i := 6) (own := ["place"]) (cap := [0]) rfl (xr (zi j8) rfl rfl (by decide +kernel) (by decide +kernel) (by decide +kernel) ⟨⟨_, rfl, .inl rfl, Zd rfl⟩, trivial⟩) (qz rfl T.range (zc (pv 2) zd))
    (fun _ _ _ _ => yd (i := 0) (by show (["place", "deck"] : List Str).Nodup; decide +kernel) rfl (Or.inl rfl)) (fun _ _ _ _ => zfv (zu zci (ya o1 r2 (zc (pv 1) (zc zg zd))) zg (ye _))) (fun _ _ _ _ => pv 0) nd rfl rfl (by with_unfolding_all rfl))
   (zh (yy (wn PySem.F.plainAttrs_list PySem.F.slot_list_append PySem.F.type_list_append xb (pv 4) (zc (yo yv rfl T.tuple wy (zc (Yd (own := ["place"]) (cap := [0]) rfl (xr (zi j8) rfl rfl (by decide +kernel) (by decide +kernel) (by decide +kernel) ⟨⟨_, rfl, .inl rfl, Zd rfl⟩, trivial⟩) (jg (pv 6))
    (fun _ _ _ _ => yd (i := 0) (by show (["place", "deck"] : List Str).Nodup; decide +kernel) rfl (Or.inl rfl)) (fun _ _ _ _ => wa) (fun _ _ _ _ => xu (zc (pv 0) (zc (zp (r := zov K) yi (yr (zc zl (zc zl (zc zl (zc zl zd))))) (ya o1 r2 (zc (pv 1) (zc zg zd))) (fun _ _ => rfl)) zd)))) zd)) zd))))))
  (ze (zr (i := 7) nd rfl (Or.inl rfl) (yr zd))
  (ze (wr PassesOwn.never rfl (qz rfl T.range (zc (pv 3) zd)) (yd (i := 5) nd rfl (Or.inl rfl))
   (ze (zr (i := 8) nd rfl (Or.inl rfl) (yo (Jx rfl) rfl T.dict zgr (zc (zp yi (pv 4) (pv 5) (fun _ _ => rfl)) zd)))
   (ze (zr (i := 9) nd rfl (Or.inl rfl) zcf)
   (ze (wr PassesOwn.never rfl (zha rfl T.range (zc (yc vo (pv 5) zg) (zc (pv 3) zd))) (yd (i := 10) nd rfl (Or.inl rfl)) (zh (zfu hu (pv 9) (pv 10) (zp yi (pv 4) (pv 10) (fun _ _ => rfl)) rfl)))
   (ze (zr (i := 11) nd rfl (Or.inl rfl) (yr zd))
   (ze (wr PassesOwn.never rfl (qz rfl T.range (zc (ya o1 r2 (zc (pv 0) (zc zg zd))) zd)) (yd (i := 12) nd rfl (Or.inl rfl))
    (ze (zr (i := 13) nd rfl (Or.inl rfl) (ya o2 hr (zc (pv 0) (zc (pv 1) (zc (pv 8) (zc (pv 9) zd))))))
    (ze (yy (wn PySem.F.plainAttrs_list PySem.F.slot_list_append PySem.F.type_list_append xb (pv 11) (zc (pv 13) zd)))
    (ze (yh (zu wo (zp zt (pv 13) zg (fun _ _ => rfl)) zl (ye _)) (zh (yy (zce (pv 8) (zp zt (pv 13) zg (fun _ _ => rfl)) ⟨rfl, rfl, rfl, rfl⟩))) zx)
    (zh (yh (zu wo (zp zt (pv 13) zg (fun _ _ => rfl)) zl (ye _)) (zh (yy (zjx PySem.F.plainAttrs_dict PySem.F.slot_dict_clear PySem.F.type_dict_clear zhi (pv 9)))) zx))))))
   (zh (yy (wn PySem.F.plainAttrs_list PySem.F.slot_list_append PySem.F.type_list_append xb (pv 7) (zc (yo yv rfl T.tuple wy (zc (pv 11) zd)) zd))))))))))
  (ze (zcd (i := 14) (own := ["turn"]) (cap := [0, 3]) rfl (xr (zi j8) rfl rfl (by decide +kernel) (by decide +kernel) (by decide +kernel) ⟨⟨_, rfl, .inl rfl, Zd rfl⟩, ⟨_, rfl, .inl rfl, Zd rfl⟩, trivial⟩) (qz rfl T.range (zc (yc vo zg (ya o1 r2 (zc (pv 0) (zc zg zd)))) zd))
   (fun _ _ _ _ => yd (i := 0) (by show (["turn", "deck", "many"] : List Str).Nodup; decide +kernel) rfl (Or.inl rfl)) (fun _ _ _ _ => wa) (fun _ _ _ _ => ya o1 r2 (zc (pv 1) (zc (pv 2) zd))) nd rfl rfl (by with_unfolding_all rfl))
  (zh (zn (xu (zc (pv 1) (zc (pv 2) (zc (yo yv rfl T.tuple wy (zc (Yd (own := ["at"]) (cap := [4]) rfl (xr (zi j8) rfl rfl (by decide +kernel) (by decide +kernel) (by decide +kernel) ⟨⟨_, rfl, .inl rfl, Zd rfl⟩, trivial⟩) (jg (pv 14))
   (fun _ _ _ _ => yd (i := 0) (by show (["at", "called"] : List Str).Nodup; decide +kernel) rfl (Or.inl rfl)) (fun _ _ _ _ => wa) (fun _ _ _ _ => xu (zc (pv 0) (zc (zp (r := zov K) yi (pv 1) (pv 0) (fun _ _ => rfl)) zd)))) zd)) (zc (yo yv rfl T.tuple wy (zc (pv 7) zd)) zd)))))))))))))), ?_⟩
 have mkT : ∀ {Hx : Hp}, But a H Hx → Y9 Hx a s → Tape K Hx a s ns := fun b h => hT.at2 b h;have fresh : ∀ {H' : Hp} {p : Addr}, Y9 H' a s → H' p = none → p ≠ a := fun {H' p} t hp z => by
  obtain ⟨_, _, e, _⟩ := t;rw [z, e] at hp;cases hp
 have none0 : ∀ {H' : Hp} {p : Addr}, But a H H' → Y9 H' a s → H' p = none → H p = none := fun {H' p} b t hp => by
  cases z : H p with
  | none => rfl
  | some o => rw [b _ _ (fresh t hp) z] at hp; cases hp
 have tpS : ∀ {H1 H2 : Hp}, Y9 H1 a s → Same H1 H2 → Y9 H2 a s := fun t s => by
  obtain ⟨p, r, e, h⟩ := t;exact ⟨p, r, s _ _ e, h⟩
 have tpU : ∀ {H1 : Hp} {z : Addr} {o : HO}, Y9 H1 a s → z ≠ a → Y9 (upd H1 z o) a s := fun t hz => by
  obtain ⟨p, r, e, h⟩ := t;exact ⟨p, r, by rw [zk (ak hz)]; exact e, h⟩
 refine ⟨by show 5 ≤ sizeLine; decide, fun pb hpb => ⟨_, rfl, a, s, ns, 5, rfl, hT.same (Same.new hpb _), by decide, by decide, fun j H1 j0 j1 b1 t1 => ?_⟩⟩;have pba := fresh hT.at' hpb;obtain ⟨nb, hat, nb0, nb9⟩ := zrp j0 j1;refine ⟨pb, _, j, _, rfl, rfl, SqL.of (b1 _ _ pba zf), hat, ?_⟩;have b01 : But a H H1 := (But.new hpb).trans b1;refine ⟨_, rfl, a, s, ns, 4, rfl, t1, by decide, by decide, fun nw H2 x2 y2 b2 t2 => ?_⟩;refine ⟨_, rfl, a, s, ns, 3, rfl, t2, by decide, by decide, fun d3 H3 x3 y3 b3 t3 => ⟨1, d3, rfl, rfl, ?_⟩⟩;obtain ⟨many, hmany⟩ : ∃ many : Nat, 1 + d3 = (many : Int) := ⟨(1 + d3).toNat, by omega⟩
 show Ye 3 (V.int (1 + d3)) _ _ _;rw [hmany];have hm1 : 1 ≤ many := by omega
 have hm3 : many ≤ 3 := by omega
 have b03 : But a H H3 := b01.trans (b2.trans b3);refine ⟨bd _, fun cl hcl => ?_⟩;have cla := fresh t3.at' hcl;have hclH := none0 b03 t3.at' hcl;have s4 := Same.new hcl (.lst []);have g4 : upd H3 cl (.lst []) cl = some (.lst []) := zf;generalize upd H3 cl (.lst []) = H4 at s4 g4 ⊢;have b04 : But a H H4 := b03.trans (Same.but s4);have tp4 := tpS t3.at' s4;refine ⟨_, rfl, (many : Int), rfl, by omega, by omega, ?_⟩;refine j4 (lo := 0) (n := (many : Int).toNat) (fun i σ H' => ∃ (kn : List (List Mem)) (cv : List V) (x5 x6 : Option V), σ = [some (.ref a), some (.int nb), some (.int nw), some (.int (many : Int)), some (.ref cl), x5, x6, none, none, none, none, none, none, none, none] ∧ But a H H' ∧ Y9 H' a s ∧ H' cl = some (.lst cv) ∧ L2.IsL H' (kn.map eMs) cv ∧ kn.length = i ∧ ∀ ms ∈ kn, MemsOk nw ms ∧ ms.length ≤ 6)
  ⟨[], [], none, none, rfl, b04, tp4, g4, rfl, rfl, fun ms hms => (by cases hms)⟩ ?_ ?_
 · rintro i σ H5 hi ⟨kn, cv, x5, x6, rfl, b5, t5, hc5, hl5, hn5, hk5⟩;rw [df] at hi;obtain ⟨nwN, hnw⟩ : ∃ n : Nat, nw = (n : Int) := ⟨nw.toNat, by omega⟩
   refine ⟨_, rfl, nw, rfl, by omega, by omega, ?_⟩;refine zc9 (lo := 0) (n := nw.toNat) (fun j ys H' => But a H H' ∧ But a H5 H' ∧ Y9 H' a s ∧ ∃ ps : List Int, ys = ps.map V.int ∧ ps.Pairwise (· < ·) ∧ (∀ p ∈ ps, 0 ≤ p ∧ p < (j : Int)) ∧ ps.length ≤ j) ⟨b5, But.refl a H5, t5, [], rfl, .nil, fun p hp => (by cases hp), ai _⟩ (fun j ys H' hj ⟨_, _, _, ps, e, _, _, hl⟩ => by rw [e, ae]; exact zw (by omega)) ?_ ?_
   · rintro j ys H6 hj ⟨b6, b56, t6, ps, rfl, hp1, hp2, hp3⟩;refine ⟨_, rfl, a, s, ns, 3, rfl, mkT b6 t6, by decide, by decide, fun x H7 xx0 xx1 b7 t7 => ⟨x, 0, rfl, rfl, _, rfl, vm (fun _ => ⟨_, rfl, ?_⟩) (fun _ => ?_)⟩⟩
     · refine ⟨b6.trans b7, b56.trans b7, t7.at', ps ++ [(0 : Int) + (j : Int)], by rw [az]; rfl, ?_, fun p hp => ?_, by rw [ar]; exact Nat.succ_le_succ hp3⟩
       · refine List.pairwise_append.mpr ⟨hp1, List.pairwise_singleton _ _, fun p hp q hq => ?_⟩;rw [av.mp hq];have := (hp2 p hp).2;omega
       · rcases ba.mp hp with hp | hp
         · have := hp2 p hp;omega
         · rw [av.mp hp];omega
     · exact ⟨b6.trans b7, b56.trans b7, t7.at', ps, rfl, hp1, fun p hp => by have := hp2 p hp; omega, by omega⟩
   rintro ys H6 ⟨b6, b56, t6, ps, rfl, hp1, hp2, hp3⟩ l6 hl6;have l6a := fresh t6 hl6;have s7 := Same.new hl6 (.lst (ps.map V.int));have g7 : upd H6 l6 (.lst (ps.map V.int)) l6 = some (.lst (ps.map V.int)) := zf;have hc6 := b56 _ _ cla hc5;have clx : cl ≠ l6 := zj hc6 hl6;generalize upd H6 l6 (.lst (ps.map V.int)) = H7 at s7 g7 ⊢;have hc7 := s7 _ _ hc6;have b7 : But a H H7 := b6.trans (Same.but s7);have t7 := tpS t6 s7;have hl7 : L2.IsL H7 (kn.map eMs) cv := (hl5.tups ((mkT b5 t5).tups b56) (Wv kn)).mono s7;refine ⟨_, rfl, .inl ⟨rfl, _, SqL.of hc7⟩, _, rfl, l6, rfl, ⟨_, SqL.of g7⟩, ?_⟩;refine Y4 (xs := ps.map V.int) (fun j ys H' => But a H7 H' ∧ Y9 H' a s ∧ ∃ ms : List Mem, L2.IsL H' (ms.map Y8) ys ∧ ms.map (·.1) = ps.take j ∧ ∀ m ∈ ms, X2 m.2) ⟨But.refl a H7, t7, [], rfl, rfl, fun m hm => (by cases hm)⟩ (fun j ys H' hj ⟨b, _, ms, e, em, _⟩ => ⟨SqL.of (b _ _ l6a g7), by
    have h1 := e.length;have h2 := congrArg List.length em;rw [ae] at h1;rw [ae, cg] at h2;exact zw (by omega)⟩) ?_ ?_
   · rintro j y ys H8 hy ⟨b8, t8, ms, e8, em, hm8⟩;rw [ay] at hy;cases ep : ps[j]? with
     | none => rw [ep] at hy; cases hy
     | some pl =>
     rw [ep] at hy;cases hy;refine Vq ?_;refine ⟨_, rfl, by show 4 ≤ sizeLine; decide, fun pm hpm => ⟨_, rfl, a, s, ns, 4, rfl, (mkT (b7.trans b8) t8).same (Same.new hpm _), by decide, by decide, fun q H9 q0 q1 b9 t9 => ?_⟩⟩;obtain ⟨md, hat, hmd⟩ := zro q0 q1;have b79 : But a H7 H9 := b8.trans ((But.new hpm).trans b9);have e9 : L2.IsL H9 (ms.map Y8) ys := (e8.mono (Same.new hpm _)).tups (((mkT (b7.trans b8) t8).same (Same.new hpm _)).tups b9) (zgf ms);refine ⟨pm, _, q, _, rfl, rfl, SqL.of (b9 _ _ (fresh t8 hpm) zf), hat, by show 2 ≤ sizeLine; decide, fun pt hpt => ?_⟩;have s10 := Same.new hpt (.tup [.int pl, .str md]);refine ⟨b79.trans (Same.but s10), tpS t9.at' s10, ms ++ [(pl, md)], ?_, ?_, fun m hm => ?_⟩
     · rw [az];exact IsL.append (e9.mono s10) (IsL.one ⟨pt, _, rfl, zf, IsL.two rfl rfl⟩)
     · rw [az, em, cm, ep];rfl
     · rcases ba.mp hm with hm | hm
       · exact hm8 m hm
       · rw [av.mp hm]; exact hmd
   rintro ys H8 ⟨b8, t8, ms, e8, em, hm8⟩ l8 hl8;rw [ae, ci] at em;have s9 := Same.new hl8 (.lst ys);have g9 : upd H8 l8 (.lst ys) l8 = some (.lst ys) := zf;have hc8 := b8 _ _ cla hc7;have hl8' : L2.IsL H8 (kn.map eMs) cv := hl7.tups ((mkT b7 t7).tups b8) (Wv kn);generalize upd H8 l8 (.lst ys) = H9 at s9 g9 ⊢;refine ⟨l8, ys, rfl, .inl ⟨SqL.of g9, fun q hq => ?_⟩⟩;have s10 := Same.new hq (.tup ys);have g10 : upd H9 q (.tup ys) q = some (.tup ys) := zf;generalize upd H9 q (.tup ys) = H10 at s10 g10 ⊢;have s810 := s9.trans s10;have hc10 := s810 _ _ hc8;have b10 : But a H H10 := (b7.trans b8).trans (Same.but s810);have t10 := tpS t8 s810;refine ⟨cl, _, _, rfl, rfl, hc10, ?_, ?_⟩
   · rw [hl5.length, ae]; exact y7 (by omega)
   have tpx : xk H10 (upd H10 cl (.lst (cv ++ [.ref q]))) := xk.upd hc10 (fun zs z => by cases z);refine ⟨kn ++ [ms], _, _, _, rfl, fun c o n e => by rw [zk (zj e hclH)]; exact b10 c o n e, tpU t10 cla, zf, ?_, by rw [ar, hn5]; rfl, fun m' hm' => ?_⟩
   · rw [az];exact IsL.append ((hl8'.mono s810).tups tpx (Wv kn)) ((show L2.IsL H10 [eMs ms] [.ref q] from IsL.one ⟨q, ys, rfl, g10, e8.mono s810⟩).tups tpx (Wv [ms]))
   · rcases ba.mp hm' with hm' | hm'
     · exact hk5 m' hm'
     · rw [av.mp hm'];have hpl := congrArg List.length em;rw [ae] at hpl;refine ⟨⟨fun m hm => ?_, by rw [em]; exact hp1⟩, by omega⟩;have hmp : m.1 ∈ ps := by rw [← em]; exact List.mem_map_of_mem hm
       have := hp2 m.1 hmp;exact ⟨this.1, by omega, hm8 m hm⟩
 rintro σ H5 ⟨kn, cv, x5, x6, rfl, b5, t5, hc5, hl5, hn5, hk5⟩;rw [df] at hn5;have hkm : kn.length = many := hn5;have hcvl := hl5.length;rw [ae] at hcvl;refine ⟨bd _, fun sl hsl => ?_⟩;have sla := fresh t5 hsl;have hslH := none0 b5 t5 hsl;have cls : cl ≠ sl := zj hc5 hsl;have s6 := Same.new hsl (.lst []);have g6 : upd H5 sl (.lst []) sl = some (.lst []) := zf;generalize upd H5 sl (.lst []) = H6 at s6 g6 ⊢;refine ⟨_, rfl, (many : Int), rfl, by omega, by omega, ?_⟩;refine j4 (lo := 0) (n := (many : Int).toNat) (fun i σ H' => ∃ (rs : List yb) (xs : List V) (y5 y8 y9 y10 y11 y12 y13 : Option V), σ = [some (.ref a), some (.int nb), some (.int nw), some (.int (many : Int)), some (.ref cl), y5, x6, some (.ref sl), y8, y9, y10, y11, y12, y13, none] ∧ But a H H' ∧ Y9 H' a s ∧ H' cl = some (.lst cv) ∧ L2.IsL H' (kn.map eMs) cv ∧ H' sl = some (.lst xs) ∧ L2.IsL H' (rs.map eS) xs ∧ rs.length = i ∧ ∀ (j : Nat) sc ms, rs[j]? = some sc → kn[j]? = some ms → SOK nb kn j sc ms)
  ⟨[], [], _, none, none, none, none, none, none, rfl, b5.trans (Same.but s6), tpS t5 s6, s6 _ _ hc5, hl5.mono s6, g6, rfl, rfl, fun j sc ms z => (by cases z)⟩ ?_ ?_
 · rintro i σ H7 hi ⟨rs, xs, y5, y8, y9, y10, y11, y12, y13, rfl, b7, t7, hc7, hl7, hs7, hx7, hr7, hk7⟩;rw [df] at hi;have e0 : (0 : Int) + (i : Int) = (i : Int) := by omega
   rw [e0];have hki : kn[i]? = some kn[i] := be (by omega);obtain ⟨hMo, hM6⟩ := hk5 _ (bz hki);generalize kn[i] = ms at hki hMo hM6;have hMs := Z3 hMo hM6;have hmo : ∀ m ∈ ms, X2 m.2 := fun m hm => (hMo.each m hm).2.2;have hci : cv[i]? = some cv[i] := be (by omega);obtain ⟨tt, htt, hit⟩ := hl7.get' hci;rw [ay, hki] at htt;cases htt;generalize cv[i] = vi at hci hit;obtain ⟨am, xm, rfl, ham, hlm⟩ := hit;obtain ⟨bs, rfl, hbs⟩ := Xq hlm;refine ⟨_, rfl, _, rfl, cl, _, _, _, rfl, rfl, SqL.of hc7, we hci, am, bs, _, rfl, ham, hbs, fun hd hhd => ?_⟩;rw [Kp hMs.1];have hda := fresh t7 hhd;have hhdH := none0 b7 t7 hhd;have hdc : hd ≠ cl := ak (zj hc7 hhd);have hds : hd ≠ sl := ak (zj hs7 hhd);have s8 := Same.new hhd (.dK (wt ms));have g8 : upd H7 hd (.dK (wt ms)) hd = some (.dK (wt ms)) := zf;generalize upd H7 hd (.dK (wt ms)) = H8 at s8 g8 ⊢;intro lt hlt;have b8 : But a H H8 := b7.trans (Same.but s8);have t8 := tpS t7 s8;have lta := fresh t8 hlt;have hltH := none0 b8 t8 hlt;have ltc : lt ≠ cl := ak (zj (s8 _ _ hc7) hlt);have lts : lt ≠ sl := ak (zj (s8 _ _ hs7) hlt);have lth : lt ≠ hd := ak (zj g8 hlt);have s9 := Same.new hlt (.dK []);have g9 : upd H8 lt (.dK []) lt = some (.dK []) := zf;generalize upd H8 lt (.dK []) = H9 at s9 g9 ⊢;have s79 := s8.trans s9;have b9 : But a H H9 := b8.trans (Same.but s9);have t9 := tpS t8 s9;have hc9 := s79 _ _ hc7;have hs9 := s79 _ _ hs7;have hh9 := s9 _ _ g8;have hl9 := hl7.mono s79;have hx9 := hx7.mono s79;refine ⟨_, rfl, (i : Int), 1, rfl, rfl, _, rfl, (i : Int) + 1, (many : Int), rfl, ⟨by omega, by omega, by omega, by omega⟩, ?_⟩;refine j4 (lo := (i : Int) + 1) (n := ((many : Int) - ((i : Int) + 1)).toNat) (fun j σ H' => ∃ z10 : Option V, σ = [some (.ref a), some (.int nb), some (.int nw), some (.int (many : Int)), some (.ref cl), some (.int (i : Int)), x6, some (.ref sl), some (.ref hd), some (.ref lt), z10, y11, y12, y13, none] ∧ But lt H9 H' ∧ H' lt = some (.dK (kvL (Xu kn cv i j))))
    ⟨y10, rfl, But.refl lt H9, g9⟩ ?_ ?_
   · rintro j σ H10 hj ⟨z10, rfl, b10, g10⟩;have ej : (i : Int) + 1 + (j : Int) = ((i + 1 + j : Nat) : Int) := by omega
     rw [ej];have hcj : cv[i + 1 + j]? = some cv[i + 1 + j] := be (by omega);have hgd : cv.getD (i + 1 + j) .non = cv[i + 1 + j] := by rw [cu, hcj]; rfl
     refine ⟨_, rfl, _, rfl, cl, _, _, _, rfl, rfl, SqL.of (b10 _ _ (ak ltc) hc9), we hcj, _, rfl, _, rfl, lt, _, rfl, zik.k (k := (Sum.inl ((i + 1 + j : Nat) : Int) : Key)) g10 (y7 (by unfold kvL Xu; rw [ae, ae, List.length_range]; omega)), ?_⟩;rw [← hgd, zkk];exact ⟨_, rfl, b10.trans But.upd, zf⟩
   rintro σ H10 ⟨z10, rfl, b10, g10⟩;have hjn : ((many : Int) - ((i : Int) + 1)).toNat = many - (i + 1) := by omega
   rw [hjn] at g10;have tu10 : xk H9 H10 := fun c zs e => b10 _ _ (Ja e g9 (by intro z; cases z)) e;have hb10 : But a H H10 := fun c o n e => b10 _ _ (zj e hltH) (b9 _ _ n e);have t10 : Y9 H10 a s := by
    obtain ⟨p, r, e, h⟩ := t9;exact ⟨p, r, b10 _ _ (ak lta) e, h⟩
   have hl10 : L2.IsL H10 (kn.map eMs) cv := hl9.tups tu10 (Wv kn);have L10 : LatAt H10 lt (Xu kn cv i (many - (i + 1))) := by
    refine ⟨g10, ze3 _ _ _ _, by unfold Xu; rw [ae, List.length_range]; omega, fun x hx => ?_⟩;obtain ⟨t, ht, rfl⟩ := ax.mp hx;have ht := dj.mp ht;have h1 : kn[i + 1 + t]? = some kn[i + 1 + t] := be (by omega);have h2 : cv[i + 1 + t]? = some cv[i + 1 + t] := be (by omega);obtain ⟨tt, htt, hit⟩ := hl10.get' h2;rw [ay, h1] at htt;cases htt;have e1 : kn.getD (i + 1 + t) [] = kn[i + 1 + t] := by rw [cu, h1]; rfl
    have e2 : cv.getD (i + 1 + t) .non = cv[i + 1 + t] := by rw [cu, h2]; rfl
    show Is H10 (eMs (kn.getD (i + 1 + t) [])) (cv.getD (i + 1 + t) .non) ∧ (kn.getD (i + 1 + t) []).length ≤ 10;rw [e1, e2];have := (hk5 _ (bz h1)).2;exact ⟨hit, by omega⟩
   refine ⟨bd _, fun dl hdl => ?_⟩;have dla := fresh t10 hdl;have hdlH := none0 hb10 t10 hdl;have hc10 := b10 _ _ (ak ltc) hc9;have hs10 := b10 _ _ (ak lts) hs9;have hh10 := b10 _ _ (ak lth) hh9;have dlc : dl ≠ cl := ak (zj hc10 hdl);have dls : dl ≠ sl := ak (zj hs10 hdl);have dlh : dl ≠ hd := ak (zj hh10 hdl);have dlt : dl ≠ lt := ak (zj g10 hdl);have s11 := Same.new hdl (.lst []);have g11 : upd H10 dl (.lst []) dl = some (.lst []) := zf;have N11 : Tn H a s cl sl hd lt dl nb kn cv rs xs i ms 0 (upd H10 dl (.lst [])) [] [] (Xu kn cv i (many - (i + 1))) := ⟨hb10.trans (Same.but s11), tpS t10 s11, s11 _ _ hc10, hl10.mono s11, s11 _ _ hs10, (hx9.tups tu10 (zbk rs)).mono s11, s11 _ _ hh10, L10.to (fun b ys e => s11 _ _ e) (by rw [s11 _ _ L10.at', L10.at']), g11, rfl, rfl, rfl, bd _, fun _ => rfl, fun x hx => by
    obtain ⟨t, ht, rfl⟩ := ax.mp hx;have ht := dj.mp ht;have h1 : kn[i + 1 + t]? = some kn[i + 1 + t] := be (by omega);have e1 : kn.getD (i + 1 + t) [] = kn[i + 1 + t] := by rw [cu, h1]; rfl
    show i < i + 1 + t ∧ kn[i + 1 + t]? = some (kn.getD (i + 1 + t) []);rw [e1];exact ⟨by omega, h1⟩, fun d hd => (by cases hd)⟩
   generalize upd H10 dl (.lst []) = H11 at N11 ⊢;refine ⟨_, rfl, a, s, ns, 7, rfl, mkT N11.b N11.tp, by decide, by decide, fun dn H12 n0 n1 b12 t12 => ⟨dn, rfl, by omega, by omega, ?_⟩⟩;have N12 := N11.move ((mkT N11.b N11.tp).tups b12) b12 t12.at' cla sla hda lta dla;refine j4 (lo := 0) (n := dn.toNat) (fun t σ H' => ∃ (ds : yb) (ys : List V) (cs : Lat) (z12 z13 : Option V), σ = [some (.ref a), some (.int nb), some (.int nw), some (.int (many : Int)), some (.ref cl), some (.int (i : Int)), x6, some (.ref sl), some (.ref hd), some (.ref lt), z10, some (.ref dl), z12, z13, none] ∧ Tn H a s cl sl hd lt dl nb kn cv rs xs i ms t H' ds ys cs)
    ⟨[], [], _, y12, y13, rfl, N12⟩ ?_ ?_
   · rintro t σ H13 ht ⟨ds, ys, cs, z12, z13, rfl, N⟩;have hhl := zge ds ms;refine ⟨_, rfl, _, rfl, _, rfl, _, rfl, a, s, ns, nb, hd, ds.foldl vx ms, lt, cs, rfl, mkT N.b N.tp, nb0, nb9, N.h, Y5 ds ms hMs.1, by omega, N.l, fun d v H14 hD b14 t14 iv => ?_⟩;have N14 := N.move ((mkT N.b N.tp).tups b14) b14 t14.at' cla sla hda lta dla;have hyl := N14.dl'.length;rw [ae, N14.len] at hyl;refine ⟨_, rfl, .inl ⟨rfl, _, SqL.of N14.d⟩, _, rfl, dl, _, _, rfl, rfl, N14.d, by rw [hyl]; exact y7 (by omega), ?_⟩;have hD' := hD;have tp15 : xk H14 (upd H14 dl (.lst (ys ++ [v]))) := xk.upd N14.d (fun zs z => by cases z);have g15 : upd H14 dl (.lst (ys ++ [v])) dl = some (.lst (ys ++ [v])) := zf;have c15 : upd H14 dl (.lst (ys ++ [v])) cl = H14 cl := zk (ak dlc);have sc15 : upd H14 dl (.lst (ys ++ [v])) sl = H14 sl := zk (ak dls);have h15 : upd H14 dl (.lst (ys ++ [v])) hd = some (.dK (wt (ds.foldl vx ms))) := by rw [zk (ak dlh)]; exact N14.h
     have L15 : LatAt (upd H14 dl (.lst (ys ++ [v]))) lt cs := N14.l.to tp15 (zk (ak dlt));have b15 : But a H (upd H14 dl (.lst (ys ++ [v]))) := fun c o n e => by rw [zk (zj e hdlH)]; exact N14.b c o n e
     have t15 := tpU (o := .lst (ys ++ [v])) N14.tp dla;obtain ⟨rr, er⟩ := zgj d;have iv' := iv;rw [er] at iv';obtain ⟨ad, zs, rfl, had14, v1, r1, rfl, e1, _⟩ := iv';cases (show v1 = .str (dw d) from e1);generalize upd H14 dl (.lst (ys ++ [.ref ad])) = H15 at tp15 g15 c15 sc15 h15 L15 b15 t15 ⊢;have had15 := tp15 _ _ had14;refine ⟨_, rfl, ad, _, _, _, rfl, rfl, SqT.of had15, at0, rfl, _, rfl, ?_⟩;rcases zsi d with ⟨w', rfl⟩ | ⟨j', m', rfl⟩ | ⟨h1, h2, h3, h4⟩
     · rw [au (show V.str (dw (.lea w')) = V.str "leave" from rfl)];obtain ⟨md, hmd⟩ := hD;obtain ⟨ad', e2, had2⟩ := Zj rfl (show Is H14 (.tup [.str "leave", .int w']) (.ref ad) from iv) fun u hu => hu;cases e2;have had2' := tp15 _ _ had2;have hv : xz (wt (ds.foldl vx ms)) (Sum.inl w' : Key) = some (.str md) := by rw [Yy, Yv (Y5 ds ms hMs.1) hmd]; rfl
       refine yp ⟨_, rfl, hd, rfl, .inl ⟨_, .inl h15⟩, _, rfl, ad, _, _, _, rfl, rfl, SqT.of had2', at1, _, (Sum.inl w' : Key), _, h15, rfl, hv, ?_⟩;rw [zdp];have tp16 : xk H15 (upd H15 hd (.dK (wt (za7 (ds.foldl vx ms) w')))) := xk.upd h15 (fun zs z => by cases z);have had16 := tp16 _ _ had15;have b16 : But a H (upd H15 hd (.dK (wt (za7 (ds.foldl vx ms) w')))) := fun c o n e => by rw [zk (zj e hhdH)]; exact b15 c o n e
       refine ⟨_, rfl, ad, _, _, _, rfl, rfl, SqT.of had16, at0, rfl, _, rfl, ?_⟩;rw [X4 (show dw (.lea w') ≠ "begin" from by show ("leave" : Str) ≠ "begin"; decide)];exact yl ⟨_, _, cs, _, _, rfl, N14.next hMs.1 hmo iv hD' (fun b y e => tp16 _ _ (tp15 _ _ e)) b16 (tpU t15 hda) (by rw [zk (ak hdc)]; exact c15) (by rw [zk (ak hds)]; exact sc15) zf (L15.to tp16 (zk lth)) (by rw [zk dlh]; exact g15) (.inr ⟨rfl, rfl⟩)⟩
     · rw [X4 (show dw (.beg j' m') ≠ "leave" from by show ("begin" : Str) ≠ "leave"; decide)];refine yl ⟨_, rfl, ad, _, _, _, rfl, rfl, SqT.of had15, at0, rfl, _, rfl, ?_⟩;rw [au (show V.str (dw (.beg j' m')) = V.str "begin" from rfl)];refine yp ⟨_, rfl, .inr (.inr (.inl ⟨rfl, .inl ⟨_, L15.at'⟩⟩)), lt, _, rfl, rfl, L15.at', ?_⟩;have tp16 : xk H15 (upd H15 lt (.dK [])) := xk.upd L15.at' (fun zs z => by cases z);have b16 : But a H (upd H15 lt (.dK [])) := fun c o n e => by rw [zk (zj e hltH)]; exact b15 c o n e
       exact ⟨_, _, [], _, _, rfl, N14.next hMs.1 hmo iv hD' (fun b y e => tp16 _ _ (tp15 _ _ e)) b16 (tpU t15 lta) (by rw [zk (ak ltc)]; exact c15) (by rw [zk (ak lts)]; exact sc15) (by rw [zk (ak lth)]; exact h15) ⟨zf, List.nodup_nil, bd _, fun x hx => (by cases hx)⟩ (by rw [zk dlt]; exact g15) (.inl rfl)⟩
     · rw [X4 h1];refine yl ⟨_, rfl, ad, _, _, _, rfl, rfl, SqT.of had15, at0, rfl, _, rfl, ?_⟩;rw [X4 h2];exact yl ⟨_, _, cs, _, _, rfl, N14.next hMs.1 hmo iv hD' tp15 b15 t15 c15 sc15 (by rw [h3]; exact h15) L15 g15 (.inr ⟨rfl, h4⟩)⟩
   rintro σ H13 ⟨ds, ys, cs, z12, z13, rfl, N⟩;have hlen := N.len;refine ⟨_, rfl, .inl ⟨rfl, _, SqL.of N.sc⟩, _, rfl, dl, ys, rfl, .inl ⟨SqL.of N.d, fun q hq => ?_⟩⟩;have s14 := Same.new hq (.tup ys);have g14 : upd H13 q (.tup ys) q = some (.tup ys) := zf;generalize upd H13 q (.tup ys) = H14 at s14 g14 ⊢;have sc14 := s14 _ _ N.sc;have hxl := hx7.length;rw [ae] at hxl;refine ⟨sl, _, _, rfl, rfl, sc14, by rw [hxl]; exact y7 (by omega), ?_⟩;have tp15 : xk H14 (upd H14 sl (.lst (xs ++ [.ref q]))) := xk.upd sc14 (fun zs z => by cases z);have tuA : xk H13 (upd H14 sl (.lst (xs ++ [.ref q]))) := fun b y e => tp15 _ _ (s14 _ _ e);refine ⟨rs ++ [ds], xs ++ [.ref q], _, _, _, _, _, _, _, rfl, fun c o n e => by rw [zk (zj e hslH)]; exact s14 _ _ (N.b c o n e), tpU (tpS N.tp s14) sla, by rw [zk cls]; exact s14 _ _ N.c, N.cl'.tups tuA (Wv kn), zf, ?_, by rw [ar, hr7]; rfl, fun j sc ms' h1 h2 => ?_⟩
   · rw [az];exact IsL.append (N.sl'.tups tuA (zbk rs)) (IsL.one ⟨q, ys, rfl, tp15 _ _ g14, N.dl'.tups tuA (Yf ds)⟩)
   · by_cases hj : j < rs.length
     · rw [d0 hj] at h1;exact hk7 j sc ms' h1 h2
     · have hjl := (c9.mp h1).1;rw [ar, ce] at hjl;have hji : j = rs.length := by omega
       subst hji;rw [List.getElem?_append_right (ai _), Nat.sub_self] at h1;cases h1;rw [hr7, hki] at h2;cases h2;rw [hr7];exact ⟨by rw [hlen]; omega, N.go, by have := N.bg; omega, N.each⟩
 rintro σ H7 ⟨rs, xs, y5, y8, y9, y10, y11, y12, y13, rfl, b7, t7, hc7, hl7, hs7, hx7, hr7, hk7⟩;rw [df] at hr7;refine ⟨_, rfl, a, s, ns, 3, rfl, mkT b7 t7, by decide, by decide, fun f3 H8 f0 f1 b8 t8 => ⟨1, f3, rfl, rfl, 1 + f3, rfl, by omega, by omega, ?_⟩⟩;have b08 := b7.trans b8;refine zc9 (lo := 0) (n := (1 + f3).toNat) (fun j zs H' => But a H8 H' ∧ Y9 H' a s ∧ ∃ fs : List Nat, zs = fs.map (fun (n : Nat) => V.int (n : Int)) ∧ fs.length = j ∧ ∀ n ∈ fs, n < many) ⟨But.refl a H8, t8.at', [], rfl, rfl, fun n hn => (by cases hn)⟩ (fun j zs H' hj ⟨_, _, fs, e, el, _⟩ => by rw [e, ae, el]; exact zw (by omega)) ?_ ?_
 · rintro j zs H9 hj ⟨b9, t9, fs, rfl, el, hf⟩;refine Vq ?_;refine ⟨_, rfl, _, rfl, a, s, ns, (many : Int), rfl, mkT (b08.trans b9) t9, by omega, by omega, fun x H10 xx0 xx1 b10 t10 => ⟨b9.trans b10, t10.at', fs ++ [x.toNat], ?_, by rw [ar, el]; rfl, fun n hn => ?_⟩⟩
   · rw [az];show _ = _ ++ [V.int ((x.toNat : Nat) : Int)];rw [Int.toNat_of_nonneg xx0]
   · rcases ba.mp hn with hn | hn
     · exact hf n hn
     · rw [av.mp hn]; omega
 rintro zs H9 ⟨b9, t9, fs, rfl, el, hf⟩ l9 hl9;have b09 := b08.trans b9;have b79 : But a H7 H9 := b8.trans b9;have tu9 : xk H7 H9 := (mkT b7 t7).tups b79;have s10 := Same.new hl9 (.lst (fs.map fun (n : Nat) => V.int (n : Int)));have g10 : upd H9 l9 (.lst (fs.map fun (n : Nat) => V.int (n : Int))) l9 = some (.lst (fs.map fun (n : Nat) => V.int (n : Int))) := zf;generalize upd H9 l9 (.lst (fs.map fun (n : Nat) => V.int (n : Int))) = H10 at s10 g10 ⊢;have hc10 := s10 _ _ (b79 _ _ cla hc7);have hs10 := s10 _ _ (b79 _ _ sla hs7);have hl10 : L2.IsL H10 (kn.map eMs) cv := (hl7.tups tu9 (Wv kn)).mono s10;have hx10 : L2.IsL H10 (rs.map eS) xs := (hx7.tups tu9 (zbk rs)).mono s10;refine ⟨_, rfl, _, rfl, _, rfl, l9, rfl, ⟨_, SqL.of g10⟩, ?_⟩;refine Y4 (xs := fs.map fun (n : Nat) => V.int (n : Int)) (fun j zs H' => Same H10 H' ∧ L2.IsL H' (((fs.take j).map fun n => ((n, kn.getD n []) : zm)).map eC) zs) ⟨Same.refl H10, rfl⟩ (fun j zs H' hj ⟨s', e⟩ => ⟨SqL.of (s' _ _ g10), by
  have := e.length;rw [ae, ae, cg] at this;exact zw (by omega)⟩) ?_ ?_
 · rintro j y zs H11 hy ⟨s11, e⟩;rw [ay] at hy;cases en : fs[j]? with
   | none => rw [en] at hy; cases hy
   | some n =>
   rw [en] at hy;cases hy;have hnm := hf n (bz en);have h1 : kn[n]? = some kn[n] := be (by omega);have h2 : cv[n]? = some cv[n] := be (by omega);obtain ⟨tt, htt, hit⟩ := (hl10.mono s11).get' h2;rw [ay, h1] at htt;cases htt;have e1 : kn.getD n [] = kn[n] := by rw [cu, h1]; rfl
   refine Vq ?_;refine ⟨_, rfl, _, rfl, _, rfl, cl, _, _, _, rfl, rfl, SqL.of (s11 _ _ hc10), we h2, by show 2 ≤ sizeLine; decide, fun pt hpt => ?_⟩;have s12 := Same.new hpt (.tup [.int (n : Int), cv[n]]);refine ⟨s11.trans s12, ?_⟩;rw [cm, en, az, az];refine IsL.append (e.mono s12) (IsL.one ⟨pt, _, rfl, zf, IsL.two rfl ?_⟩);show Is _ (eMs (kn.getD n [])) _;rw [e1];exact hit.mono s12
 rintro zs H11 ⟨s11, e⟩ l11 hl11;rw [ae, ci] at e;have s12 := Same.new hl11 (.lst zs);have g12 : upd H11 l11 (.lst zs) l11 = some (.lst zs) := zf;generalize upd H11 l11 (.lst zs) = H12 at s12 g12 ⊢;refine ⟨l11, zs, rfl, .inl ⟨SqL.of g12, fun qf hqf => ?_⟩⟩;have s13 := Same.new hqf (.tup zs);have g13 : upd H12 qf (.tup zs) qf = some (.tup zs) := zf;generalize upd H12 qf (.tup zs) = H13 at s13 g13 ⊢;have s1013 := s11.trans (s12.trans s13);refine ⟨_, rfl, sl, xs, rfl, .inl ⟨SqL.of (s1013 _ _ hs10), fun qs hqs => ?_⟩⟩;have s14 := Same.new hqs (.tup xs);have g14 : upd H13 qs (.tup xs) qs = some (.tup xs) := zf;generalize upd H13 qs (.tup xs) = H14 at s14 g14 ⊢;refine ⟨by show 4 ≤ sizeLine; decide, fun qh hqh => ?_⟩;have s15 := Same.new hqh (.tup [.int nb, .int nw, .ref qf, .ref qs]);have s915 := s10.trans (s1013.trans (s14.trans s15));have hkr : kn.length = rs.length := by omega
 have FK : FitK ⟨nb, nw, fs.map fun n => ((n, kn.getD n []) : zm), rs⟩ kn := ⟨hkr, hk5, hk7, fun c hc => by
  obtain ⟨n, hn, rfl⟩ := ax.mp hc;have hlt : n < kn.length := by have := hf n hn; omega
  have h1 : kn[n]? = some kn[n] := be hlt;show kn[n]? = some (kn.getD n []);rw [cu, h1];rfl⟩
 have hfl : (fs.map fun n => ((n, kn.getD n []) : zm)).length = fs.length := ae _;refine k ⟨nb, nw, fs.map fun n => ((n, kn.getD n []) : zm), rs⟩ _ _ ⟨nb0, nb9, by show 0 ≤ nw; omega, by show nw ≤ 3; omega, by show 1 ≤ rs.length; omega, by show rs.length ≤ 3; omega, by show 1 ≤ (fs.map _).length; omega, by show (fs.map _).length ≤ 4; omega, kn, FK⟩ (b09.trans (Same.but s915)) ((mkT b09 t9).same s915) ?_;exact ⟨qh, _, rfl, zf, _, _, rfl, rfl, _, _, rfl, rfl, _, _, rfl, ⟨qf, zs, rfl, (s14.trans s15) _ _ g13, ((((e.mono s12).mono s13).mono s14).mono s15)⟩, _, _, rfl, ⟨qs, xs, rfl, s15 _ _ g14, (((hx10.mono s1013).mono s14).mono s15)⟩, rfl⟩
abbrev zei : Stmt := top 80
noncomputable def zqi (K : PySem.W.Frag) (t : TA) : TE := fun σ H Q => t σ H fun xs H1 => xs.length ≤ sizeLine ∧ ∀ p, H1 p = none → K.lookup p = none → Q (.ref p) (upd H1 p (.lst xs))
theorem zmn {t : TA} (h : PA X es t) : PE X (.List es pos) (zqi X.K t) := by
 intro pins s σ H Q I hq;refine wpAny_List_spliced (thn (h pos pins s σ H _ I hq) fun us s1 ⟨xs, H1, I1, r, z, q⟩ => ⟨by rw [← r.length]; exact z, ?_⟩);have hf : H1 s1.heap.objs.size = none := I1.hok.fresh (ai _);have hk : X.K.lookup s1.heap.objs.size = none := by
  cases e : X.K.lookup s1.heap.objs.size with
  | none => rfl
  | some o => exact absurd (al (I1.kIn _ _ e)) (cj _)
 exact ⟨.ref s1.heap.objs.size, upd H1 s1.heap.objs.size (.lst xs), I1.laid (t' := s1.toks) (fun b u e => ap _ e) (ai _) ⟨z, us, 0, r, bv _ rfl⟩, rfl, q _ hf hk⟩
theorem ze7 {g : TG} (Fi : L2.St → Hp → Prop) (Pv : Nat → L2.St → Hp → Prop) (h0 : Pv 0 σ H) (fin : ∀ σ H, Fi σ H → D.nx σ H)
  (hs : (∀ σ H, Fi σ H → D.nx σ H) → ∀ i σ H, i < n → Pv i σ H → g (.int (lo + i)) σ H fun σ2 H2 => tb { D with nx := Pv (i + 1), ct := Pv (i + 1), bk := D.nx } σ2 H2) (hd : ∀ σ H, Pv n σ H → Fi σ H) :
  ∃ W : Nat → Nat → L2.St → Hp → Prop, (∃ m, W 0 m σ H) ∧ ∀ i m σ H, W i m σ H →
    ((Itr lo n).stop i H ∧ D.nx σ H) ∨ ((Itr lo n).go i H ∧ ∃ N : L2.St → Hp → Prop, (∀ σ' H', N σ' H' → ∃ m', m' < m ∧ W (i + 1) m' σ' H') ∧ ∀ x H', (Itr lo n).yld i H x H' → g x σ H' fun σ2 H2 => tb { D with nx := N, ct := N, bk := D.nx } σ2 H2) :=
 j4 Pv h0 (hs fin) (fun σ H p => fin σ H (hd σ H p))
theorem V3 {d : Nat} : ∀ {ts : List T}, (∀ t ∈ ts, (toD t).depth ≤ d) → PyData.depthAll (kt ts) ≤ d
 | [], _ => bd _
 | t :: ts, h => by
   unfold kt PyData.depthAll;exact Nat.max_le.mpr ⟨h t ao, V3 fun u hu => h u (aq _ hu)⟩
noncomputable def Ya (n : Nat) (t : T) : Prop := (toD t).canLay0 = true ∧ (toD t).depth ≤ n
theorem wj (n : Nat) (i : Int) : Ya n (.int i) := ⟨by unfold toD; rfl, by unfold toD; exact bd _⟩
theorem vz (n : Nat) (h : Cln x) : Ya n (.str x) := ⟨by unfold toD; exact zi1 h, by unfold toD; exact bd _⟩
theorem xo (h : ∀ t ∈ ts, Ya n t) : Ya (n + 1) (.tup ts) := by
 refine ⟨?_, ?_⟩
 · unfold toD PyData.canLay0;exact zpe fun t ht => (h t ht).1
 · unfold toD PyData.depth;exact Nat.succ_le_succ (V3 fun t ht => (h t ht).2)
theorem Ya.up {m : Nat} (h : Ya n t) (hm : n ≤ m) : Ya m t := ⟨h.1, bp h.2 hm⟩
theorem V1 {x y : T} (hx : Ya n x) (hy : Ya n y) : ∀ t ∈ [x, y], Ya n t := fun t ht => by
 rcases ag.mp ht with rfl | ht
 · exact hx
 · rw [av.mp ht]; exact hy
theorem zgh {x y z : T} (hx : Ya n x) (hy : Ya n y) (hz : Ya n z) : ∀ t ∈ [x, y, z], Ya n t := fun t ht => by
 rcases ag.mp ht with rfl | ht
 · exact hx
 · exact V1 hy hz t ht
theorem zk3 {m : Mem} (h : Qc m) : Ya 1 (Y8 m) := xo (V1 (wj 0 _) (vz 0 (by rcases h.2 with e | e | e <;> rw [e] <;> exact wb (by decide +kernel))))
theorem zgg {ms : List Mem} (h : ∀ m ∈ ms, Qc m) : Ya 2 (eMs ms) := xo fun t ht => by
 obtain ⟨m, hm, rfl⟩ := ax.mp ht;exact zk3 (h m hm)
theorem zk5 {c : zm} (h : Qd c) : Ya 3 (eC c) := xo (V1 (wj 2 _) (zgg h.2.2))
theorem zk4 {d : Deed} (h : Yx d) : Ya 3 (eD d) := by
 cases d with
 | rai i j => exact xo (zgh (vz 2 (wb (by decide +kernel))) (wj 2 _) (wj 2 _))
 | awa i j => exact xo (zgh (vz 2 (wb (by decide +kernel))) (wj 2 _) (wj 2 _))
 | com i => exact xo (V1 (vz 2 (wb (by decide +kernel))) (wj 2 _))
 | goo i => exact xo (V1 (vz 2 (wb (by decide +kernel))) (wj 2 _))
 | lea i => exact xo (V1 (vz 2 (wb (by decide +kernel))) (wj 2 _))
 | wor i => exact xo (V1 (vz 2 (wb (by decide +kernel))) (wj 2 _))
 | say x => exact xo (V1 (vz 2 (wb (by decide +kernel))) (vz 2 (zrv h).asc.cln))
 | beg j ms => exact xo (zgh (vz 2 (wb (by decide +kernel))) (wj 2 _) (zgg h.2.2))
theorem ze9 {h : House} (hh : HouT h) : Ya 6 (eH h) := by
 refine xo fun t ht => ?_;rcases ag.mp ht with rfl | ht
 · exact wj 5 _
 · refine zgh (wj 5 _) ((xo (n := 3) fun t ht => ?_).up (by decide)) (xo (n := 4) fun t ht => ?_) t ht
   · obtain ⟨c, hc, rfl⟩ := ax.mp ht;exact zk5 (hh.f c hc)
   · obtain ⟨s, hs, rfl⟩ := ax.mp ht;exact xo (n := 3) fun t ht => by
      obtain ⟨d, hd, rfl⟩ := ax.mp ht;exact zk4 ((hh.s s hs).2 d hd)
noncomputable def zfq (K : PySem.W.Frag) : Sp := fun vs H Q _ => ∃ (a : Addr) (ns : List Int), vs = [.ref a] ∧ SqL K H a (ns.map V.int) ∧ ns.length ≤ 63 ∧ ∀ H', Q (.bl true) H'
theorem zfs : FnScope ["script", "deck", "k", "house", "text", "bad"] ["script"] (zi zei) := .of
theorem zmt {f0 : Addr} (F : Fun K "law" "law" zei f0 fd0) (T : Txt K mg) (o1 : Ok P w K mg base "_law_e_house" 4 ["deck"] (zq5 K)) (o2 : Ok P w K mg base "_law_e_text" 3 ["house"] zqz) (o3 : Ok P w K mg base "_law_e_no_texts" 3 ["deck", "text"] (zqx K)) (o4 : Ok P w K mg base "_law_e_no_houses" 3 ["deck", "house"] (zqy K))
  (o5 : Ok P w K mg base "_law_e_word" 25 ["way", "thing"] zqn) (o6 : OkX P w K mg base "read_house" 24 ["text"] (zoj cT cH)) :
  FnOk P w K mg base CX0 26 f0 fd0 ["script"] (zfq K) := by
 refine F.ok zfs (fun vs H Q E ⟨_, _, e, _⟩ => by rw [e]; rfl) fun cdv A outer sh H vs Q E hr h => ?_;obtain ⟨s, ns, rfl, hS, h63, kk⟩ := h;have nd := zfs.nd;have r4 := hr.mono (show 4 ≤ 25 by decide);have r3 := hr.mono (show 3 ≤ 25 by decide);have r24 := hr.mono (show 24 ≤ 25 by decide);refine ⟨_, ze (zr (i := 1) nd rfl (Or.inl rfl) (zmn (zc (pv 0) (zc zg (zc zg zd)))))
  (ze (wr PassesOwn.never rfl (qz rfl T.range (zc zg zd)) (yd (i := 2) nd rfl (Or.inl rfl))
  (ze (yh (PW.pt (Xm (zu zci (pv 2) zg (ye _)) (Z1 (zu znv (zp yi (pv 1) zg (fun _ _ => rfl)) (yf yg (by rfl) T.len xp (zc (pv 0) zd)) (ye _))))) (zh zjq) zx)
  (ze (zr (i := 3) nd rfl (Or.inl rfl) (ya o1 r4 (zc (pv 1) zd)))
  (ze (zr (i := 4) nd rfl (Or.inl rfl) (ya o2 r3 (zc (pv 3) zd)))
  (ze (wr PassesOwn.never rfl (jg (ya o3 r3 (zc (pv 1) (zc (pv 4) zd)))) (yd (i := 5) nd rfl (Or.inl rfl))
   (zh (yh (zu Xb (ya o5 hr (zc zg (zc (pv 5) zd))) zl (ye _)) (zh (zn xx)) zx)))
  (ze (wr PassesOwn.never rfl (jg (ya o4 r3 (zc (pv 1) (zc (pv 3) zd)))) (yd (i := 5) nd rfl (Or.inl rfl))
   (zh (yh (PW.pt (Yr (zu Xb (ya o5 hr (zc zg (zc (ya o2 r3 (zc (pv 5) zd)) zd))) zl (ye _)) (j9 (zu Xb (ya o5 hr (zc zg (zc (pv 5) zd))) zl (ye _))))) (zh (zn xx)) zx)))
  (zh (yh (PW.pt (Yr (zu Xb (ya o5 hr (zc zg (zc (pv 4) zd))) zl (ye _)) (j9 (zu (zmp hr.units) (vg o6 zem r24 (zc (pv 4) zd)) (pv 3) (ye _))))) (zh (zn xx)) zx))))))))
  (zh (zn xx))), ?_⟩
 refine ⟨_, rfl, (by show 3 ≤ sizeLine; decide), fun a ha hKa => ?_⟩;have sa := Same.new ha (.lst [.ref s, .int 0, .int 0]);have T0 : Tape K (upd H a (.lst [.ref s, .int 0, .int 0])) a s ns := by
  have e : s ≠ a := fun z => by
   rcases hS with (q | ⟨o, q⟩) | ⟨o, its, n, q, _⟩
   · rw [z, ha] at q; cases q
   · rw [z, ha] at q; cases q
   · have hKa : K.lookup a = none := hKa;rw [z, hKa] at q; cases q
  exact ⟨⟨0, 0, zf, Int.le_refl 0, Int.le_refl 0⟩, sa.seq hS, e, h63⟩
 generalize upd H a (.lst [.ref s, .int 0, .int 0]) = H0 at T0 sa ⊢;refine ⟨3, rfl, by decide, by decide, ?_⟩;refine ze7 (lo := 0) (n := (3 : Int).toNat) (fun σ H' => True) (fun i σ H' => Tape K H' a s ns ∧ ∃ x2 x3 x4 x5, σ = [some (.ref s), some (.ref a), x2, x3, x4, x5]) ⟨T0, none, none, none, none, rfl⟩ (fun σ H1 _ => kk _) ?_ (fun σ H' q => trivial);rintro fin i σ H1 hi ⟨T1, x2, x3, x4, x5, rfl⟩;obtain ⟨p1, q1, hta, _, _⟩ := T1.at';dsimp only [V5, Yh];refine X5 (fun H' => H' = H1) _ rfl (fun Q q => ⟨_, rfl, _, _, rfl, rfl, _, rfl, q⟩) (fun H' e => ?_) (fun jk _ => ?_);rotate_left
 · exact ⟨_, rfl, a, _, _, _, rfl, rfl, SqL.of hta, rfl, _, rfl, s, _, rfl, .inl T1.seq, _, _, rfl, rfl, _, rfl, vm (fun _ => fin _ _ trivial) (fun _ => jk H1 rfl)⟩
 subst e;dsimp only [V5, Yh];refine ⟨_, rfl, a, s, ns, rfl, T1, fun h vh H2 Fh b2 T2 hv => ?_⟩;have hh := Yg Fh;have hl := zbl Fh;have hW := Qn hh;have hG := zk2 Fh;have hm := zhz Fh;have hrd := zde hh hl;have okr := Qe hh hl;have fh := ze9 hh;have h20 : (toD (eH h)).depth ≤ 20 := bp fh.2 (by decide);have hfs : h.fs ≠ [] := fun z => by have := Fh.f1; rw [z] at this; cases this
 have hss : h.ss ≠ [] := fun z => by have := Fh.n1; rw [z] at this; cases this
 refine ⟨_, rfl, h, vh, rfl, hv, hh, fun H3 s3 => ?_⟩;have T3 := T2.same s3;have hv3 := hv.mono s3;refine ⟨_, rfl, _, rfl, a, s, ns, h, rfl, T3, hh, hl, hfs, hss, fun l4 xs4 H4 b4 T4 g4 l100 hx4 _ => ⟨l4, rfl, ⟨_, SqL.of g4⟩, ?_⟩⟩;have hv4 : Is H4 (eH h) vh := hv3.tups (T3.tups b4) (zpk h);refine Ww (xs := xs4) (fun j σ H' => Same H4 H' ∧ ∃ y5, σ = [some (.ref s), some (.ref a), some (.int (0 + (i : Int))), some vh, some (.str (wq h)), y5]) ⟨Same.refl H4, _, rfl⟩ (fun j σ H' _ ⟨s', _⟩ => SqL.of (s' _ _ g4)) ?_ ?_
 · rintro j x σ H5 hx ⟨s5, y5, rfl⟩;obtain ⟨rows, rfl, rok, rno⟩ := hx4 x (bz hx);refine ⟨_, rfl, 0, _, "text", rfl, .inl ⟨rfl, rows, rfl, rok, .inl ⟨rno, rfl⟩⟩, fun H6 s6 => ⟨rfl, _, rfl, ?_⟩⟩;rw [au rfl];exact yl ⟨s5.trans s6, _, rfl⟩
 rintro σ H5 ⟨s5, y5, rfl⟩;have T5 := T4.same s5;have hv5 := hv4.mono s5;refine ⟨_, rfl, _, rfl, a, s, ns, h, vh, rfl, T5, Fh, hv5, fun l6 xs6 hs6 H6 b6 T6 g6 i6 hb6 l100' _ => ⟨l6, rfl, ⟨_, SqL.of g6⟩, ?_⟩⟩;have hv6 : Is H6 (eH h) vh := hv5.tups (T5.tups b6) (zpk h);refine Ww (xs := xs6) (fun j σ H' => Same H6 H' ∧ ∃ y5, σ = [some (.ref s), some (.ref a), some (.int (0 + (i : Int))), some vh, some (.str (wq h)), y5]) ⟨Same.refl H6, _, rfl⟩ (fun j σ H' _ ⟨s', _⟩ => SqL.of (s' _ _ g6)) ?_ ?_
 · rintro j x σ H7 hx ⟨s7, y5, rfl⟩;obtain ⟨t, ht, it⟩ := i6.get' hx;rw [ay] at ht;cases eb : hs6[j]? with
   | none => rw [eb] at ht; cases ht
   | some b =>
   rw [eb] at ht;cases ht;have B := hb6 b (bz eb);have it7 := it.mono s7;refine ⟨_, rfl, b, x, rfl, it7, B.T, fun H8 s8 => ?_⟩;refine ⟨0, _, "house", rfl, .inl ⟨rfl, zy b, rfl, Qe B.T B.L, .inr ⟨b, zde B.T B.L, B.W, .inl ⟨B.m, rfl⟩⟩⟩, fun H9 s9 => ⟨rfl, _, rfl, ?_⟩⟩;rw [au rfl];refine yl ⟨_, rfl, 1, _, "house", rfl, .inr ⟨rfl, eH b, it7.mono (s8.trans s9), B.W, B.m, rfl⟩, fun H10 s10 => ⟨rfl, _, rfl, ?_⟩⟩;rw [au rfl];exact yl ⟨s7.trans (s8.trans (s9.trans s10)), _, rfl⟩
 rintro σ H7 ⟨s7, y5, rfl⟩;have T7 := T6.same s7;have hv7 := hv6.mono s7;refine ⟨_, rfl, 0, _, "", rfl, .inl ⟨rfl, zy h, rfl, okr, .inr ⟨h, hrd, hW, .inr ⟨hG, hm, rfl⟩⟩⟩, fun H8 s8 => ⟨rfl, _, rfl, ?_⟩⟩;rw [au rfl];refine yl ⟨_, rfl, zy h, rfl, okr, fun z => (by rw [hrd] at z; cases z), fun h' z => ?_⟩;rw [hrd] at z;cases z;refine ⟨hW, .inr ⟨hG, hm, fun v9 H9 s9 i9 => ?_⟩⟩;refine ⟨_, rfl, eH h, eH h, i9, hv7.mono (s8.trans s9), fh.1, fh.1, h20, _, rfl, ?_⟩;rw [SeqAt.eqv_refl _ fh.1];exact yl ⟨T7.same (s8.trans s9), _, _, _, _, rfl⟩
abbrev NS (K : PySem.W.Frag) (x : Str) (v : Option Value) : Prop := PySem.W.nsIn K mainGlobals x = some v
noncomputable def FD (K : PySem.W.Frag) (x : Str) (st : Stmt) (f : Addr) (fd : FuncData) : Prop := NS K x (some (.ref f)) ∧ Fun K x x st f fd
noncomputable def FE (K : PySem.W.Frag) (x : Str) (st : Stmt) : Prop := ∃ f fd, FD K x st f fd
noncomputable def CI (K : PySem.W.Frag) (x : Str) (i : Int) : Prop := ∃ t, NS K x (some (.int i t))
noncomputable def KO (K : PySem.W.Frag) (C : Addr) (x : Str) (b : Bool) : Prop := ∃ a, NS K x (some (.ref a)) ∧ PySem.W.kitOne K (.ref C) (.ref a) = some b
noncomputable def KT (K : PySem.W.Frag) (a : Addr) (xs : List Str) : Prop := ∀ H, SqT K H a (xs.map V.str)
section
variable {f C D N M : Addr} {oc : Value} {od an : Option Addr} {kV doc pm cdv ct : Value} {b : Bool} {i : Int} {t u v : Tok}
theorem fd_mk (e : PySem.W.nsIn K mainGlobals x = some (some (.ref f))) (l : K.lookup f = some ⟨oc, od, .func (PySem.W.fnOf x x (jx st) (xg st) (zi st) .none kV doc pm an cdv ct), osl⟩) (c : PySem.W.codeIn K cdv x = true) (k : PySem.W.keepIn K (.ref f) = true) :
 FD K x st f (PySem.W.fnOf x x (jx st) (xg st) (zi st) .none kV doc pm an cdv ct) := ⟨e, zpj l c k⟩
theorem fe_mk (e : PySem.W.nsIn K mainGlobals x = some (some (.ref f))) (l : K.lookup f = some ⟨oc, od, .func (PySem.W.fnOf x x (jx st) (xg st) (zi st) .none kV doc pm an cdv ct), osl⟩) (c : PySem.W.codeIn K cdv x = true) (k : PySem.W.keepIn K (.ref f) = true) : FE K x st := ⟨_, _, fd_mk e l c k⟩
theorem FE.d (X : K.In h) (G : h.Ns mainGlobals mg) (a : FE K x st) : Def K mg x st := let ⟨f, fd, e, F⟩ := a; ⟨f, fd, F, PySem.W.mg_of X G e⟩
theorem ci_mk (e : PySem.W.nsIn K mainGlobals x = some (some (.int i t))) : CI K x i := ⟨_, e⟩
theorem CI.d (X : K.In h) (G : h.Ns mainGlobals mg) (e : CI K x i) : ∃ t, mg x = some (.int i t) := let ⟨t, e⟩ := e; ⟨t, PySem.W.mg_of X G e⟩
theorem ko_mk (e : PySem.W.nsIn K mainGlobals x = some (some (.ref a))) (k : PySem.W.kitOne K (.ref C) (.ref a) = some b) : KO K C x b := ⟨_, e, k⟩
theorem KO.d (X : K.In h) (G : h.Ns mainGlobals mg) (e : KO K C x b) : ∃ a, mg x = some (.ref a) ∧ PySem.W.kitOne K (.ref C) (.ref a) = some b := let ⟨t, e, k⟩ := e; ⟨t, PySem.W.mg_of X G e, k⟩
theorem kt1 (l : K.lookup a = some ⟨.type "tuple", od, .seq #[.str x t] n, osl⟩) : KT K a [x] := fun H => .inr ⟨_, _, n, l, rfl, rfl, (by show 1 ≤ sizeLine; decide), .cons ⟨_, rfl⟩ .nil⟩
theorem kt2 (l : K.lookup a = some ⟨.type "tuple", od, .seq #[.str x t, .str y u] n, osl⟩) : KT K a [x, y] := fun H => .inr ⟨_, _, n, l, rfl, rfl, (by show 2 ≤ sizeLine; decide), .cons ⟨_, rfl⟩ (.cons ⟨_, rfl⟩ .nil)⟩
theorem kt3 (l : K.lookup a = some ⟨.type "tuple", od, .seq #[.str x t, .str y u, .str z v] n, osl⟩) : KT K a [x, y, z] := fun H => .inr ⟨_, _, n, l, rfl, rfl, (by show 3 ≤ sizeLine; decide), .cons ⟨_, rfl⟩ (.cons ⟨_, rfl⟩ (.cons ⟨_, rfl⟩ .nil))⟩
abbrev QN (K : PySem.W.Frag) (N : Addr) : Prop := PySem.W.nsIn K N "__class__" = some none ∧ PySem.W.nsIn K N "__getattribute__" = some none ∧ PySem.W.nsIn K N "__getattr__" = some none ∧ PySem.W.nsIn K N "__init__" = some none
theorem QN.all (q : QN K N) : ∀ n ∈ qn, PySem.W.nsIn K N n = some none := fun n hn => by
 obtain ⟨_, _, _, _⟩ := q;simp only [qn, ag, aw, or_false] at hn;rcases hn with rfl | rfl | rfl | rfl <;> assumption
theorem two_mk {nm q nm' q' : Str} {bs sub bs' sub' : List Value} {hd ab hd' ab' : Bool} {sn sn' : List Str} {col col' : Option Bool} {dd dd' : Option Addr} {k0 k1 k2 k3 k5 j0 j1 j2 j3 j5 : Option Value}
 (f1 : K.lookup C = some (excClassObj nm q C N bs (.ref D :: vE) hd sn sub ab col dd k0 k1 k2 k3 k5 "ValueError.__new__")) (f2 : K.lookup D = some (excClassObj nm' q' D M bs' vE hd' sn' sub' ab' col' dd' j0 j1 j2 j3 j5 "ValueError.__new__"))
 (g1 : PySem.W.nsOkIn K N = true) (g2 : PySem.W.nsOkIn K M = true) (h1 : QN K N) (h2 : QN K M) : TwoErr K C D := ⟨⟨_, _, _, _, _, _, _, _, _, _, _, _, _, _, _, f1, g1, h1.all⟩, ⟨_, _, _, _, _, _, _, _, _, _, _, _, _, _, _, f2, g2, h2.all⟩⟩
end
theorem de_mk {dq : Addr} {dep : Nat} {dt0 : Tok} {db0 : Addr} {dt1 : Tok} {db1 : Addr} {dt2 : Tok} {db2 : Addr} {dt3 : Tok} {db3 : Addr} {dt4 : Tok} {db4 : Addr} {dt5 : Tok} {db5 : Addr} {dt6 : Tok} {db6 : Addr} (X : K.In h) (G : h.Ns mainGlobals mg) (e : PySem.W.nsIn K mainGlobals "DEEDS" = some (some (.ref dq))) (e2 : K.lookup dq = some ⟨.type "dict", none, .dict #[⟨hashStr w "raise", .str "raise" dt0, .ref db0⟩, ⟨hashStr w "await", .str "await" dt1, .ref db1⟩, ⟨hashStr w "come", .str "come" dt2, .ref db2⟩, ⟨hashStr w "go", .str "go" dt3, .ref db3⟩, ⟨hashStr w "leave", .str "leave" dt4, .ref db4⟩, ⟨hashStr w "work", .str "work" dt5, .ref db5⟩, ⟨hashStr w "say", .str "say" dt6, .ref db6⟩] dep, #[]⟩)
 (e0 : (dq == sysModules) = false) (l0 : KT K db0 ["number", "number"]) (l1 : KT K db1 ["number", "number"]) (l2 : KT K db2 ["number"]) (l3 : KT K db3 ["number"]) (l4 : KT K db4 ["number"]) (l5 : KT K db5 ["number"]) (l6 : KT K db6 ["letters"]) : zbv w K mg := ⟨dq, db0, db1, db2, db3, db4, db5, db6, PySem.W.mg_of X G e, ⟨e0, by show (["raise", "await", "come", "go", "leave", "work", "say"] : List Str).Nodup; decide +kernel, [("raise", dt0, .ref db0), ("await", dt1, .ref db1), ("come", dt2, .ref db2), ("go", dt3, .ref db3), ("leave", dt4, .ref db4), ("work", dt5, .ref db5), ("say", dt6, .ref db6)], dep, e2, (.cons ⟨rfl, rfl⟩ (.cons ⟨rfl, rfl⟩ (.cons ⟨rfl, rfl⟩ (.cons ⟨rfl, rfl⟩ (.cons ⟨rfl, rfl⟩ (.cons ⟨rfl, rfl⟩ (.cons ⟨rfl, rfl⟩ .nil)))))))⟩, fun H => ⟨l0 H, l1 H, l2 H, l3 H, l4 H, l5 H, l6 H⟩⟩
theorem all_mk {l : PySem.W.OpenLaw} {fa fL cW am15 : Addr} (X : K.In h) (G : h.Ns mainGlobals mg) (hfa : mg "law" = some (.ref fa))
  (b0 : FE K "is_whole" Xj) (b1 : FE K "is_within" Ym) (b2 : FE K "is_tuple_within" qj) (b3 : FE K "is_letters" jt) (b4 : FE K "is_word" Vb) (b5 : FE K "is_box" Q1) (b6 : FE K "is_wall" Vc) (b7 : FE K "is_member" Yn) (b8 : FE K "are_members" Zg) (b9 : FE K "is_calling" Zz) (b10 : FE K "is_deed" Vd) (b11 : FE K "is_script" Za) (b12 : FE K "is_frame" Xk) (b13 : FE K "is_well_formed" vj) (b14 : FE K "brought_by_scripts" Ve) (b15 : FE K "is_small_enough" j7) (b16 : FE K "is_allowed" ju) (b17 : FE K "fits" Q2) (b18 : FE K "is_house" Zy) (b19 : FE K "need_house" Yl) (b20 : FE K "is_number" Z0) (b21 : FE K "read_word" Xf) (b22 : FE K "read_words" ky) (b23 : FE K "show_house" Yk) (b24 : FE K "need_read" Xi) (b25 : FE K "read_head" Xg) (b26 : FE K "read_member" Zx) (b27 : FE K "read_calling" jf) (b28 : FE K "read_deed" Xh) (b29 : FE K "read_scripts_and_firsts" Wb) (b30 : FE K "read_house" kz) (b31 : FE K "_law_e_mixed" zau) (b32 : FE K "_law_e_pick" zeh) (b33 : FE K "_law_e_may_call" W9) (b34 : FE K "_law_e_house_deed" Zb) (b35 : FE K "_law_e_house" j8) (b36 : FE K "_law_e_members_text" Y1) (b37 : FE K "_law_e_deed_text" Xl) (b38 : FE K "_law_e_text" Va) (b39 : FE K "_law_e_kind" qi) (b40 : FE K "_law_e_word" zat) (b41 : FE K "_law_e_no_texts" zjh) (b42 : FE K "_law_e_no_houses" zji) (bL : FD K "law" zei fL dL) (n0 : CI K "BOXES" 0) (n1 : CI K "WALLS" 1) (n2 : CI K "FIRSTS" 2) (n3 : CI K "SCRIPTS" 3) (n4 : CI K "MOST_BOXES" 99) (n5 : CI K "MOST_WALLS" 6) (n6 : CI K "MOST_FIRSTS" 40) (n7 : CI K "MOST_SCRIPTS" 20) (n8 : CI K "MOST_DEEDS_OF_SCRIPT" 80) (n9 : CI K "MOST_HANDS" 60) (n10 : CI K "MOST_DEEDS" 1200) (n11 : CI K "MOST_RAISED" 99) (n12 : CI K "MOST_AWAITED" 9999) (n13 : CI K "MOST_WORKED" 999) (n14 : CI K "MOST_LETTERS" 8) (m15 : NS K "MODES" (some (.ref am15))) (mm15 : KT K am15 ["both", "come", "go"]) (n16 : CI K "MOST_FIGURES" 30) (z : NS K "isinstance" none ∧ NS K "int" none ∧ NS K "bool" none ∧ NS K "str" none ∧ NS K "tuple" none ∧ NS K "dict" none ∧ NS K "list" none ∧ NS K "len" none ∧ NS K "all" none ∧ NS K "sum" none ∧ NS K "range" none ∧ NS K "enumerate" none ∧ NS K "sorted" none ∧ NS K "zip" none ∧ NS K "ValueError" none) (eH : NS K "NoHouse" (some (.ref cH))) (eT : NS K "NoText" (some (.ref cT))) (eW : NS K "WallError" (some (.ref cW))) (tH : TwoErr K cH cW) (kpH : PySem.W.keepIn K (.ref cH) = true) (kvH : PySem.W.kitOne K (.ref cH) (.type "ValueError") = some true) (kkH : KO K cH "NoCount" false ∧ KO K cH "NoDeed" false ∧ KO K cH "NoHand" false ∧ KO K cH "NoHouse" true ∧ KO K cH "NoName" false ∧ KO K cH "NoRow" false ∧ KO K cH "NoStand" false ∧ KO K cH "NoText" false ∧ KO K cH "NoWall" false ∧ KO K cH "TooMany" false) (tT : TwoErr K cT cW) (kpT : PySem.W.keepIn K (.ref cT) = true) (kvT : PySem.W.kitOne K (.ref cT) (.type "ValueError") = some true) (kkT : KO K cT "NoCount" false ∧ KO K cT "NoDeed" false ∧ KO K cT "NoHand" false ∧ KO K cT "NoHouse" false ∧ KO K cT "NoName" false ∧ KO K cT "NoRow" false ∧ KO K cT "NoStand" false ∧ KO K cT "NoText" true ∧ KO K cT "NoWall" false ∧ KO K cT "TooMany" false) (B : zbv w K mg) (hb : ∀ (s : Shared) (v : Value), BindsTo s dL ⟨[v], []⟩ [("script", v)]) :
  ∃ fd : FuncData, (∀ (s : Shared) (v : Value), BindsTo s fd ⟨[v], []⟩ [("script", v)]) ∧ ∀ base : Heap, K.In base → base.Ns mainGlobals mg → FnOk l.prog w K mg base CX0 26 fa fd ["script"] (zfq K) := by
 have e := hfa.symm.trans (PySem.W.mg_of X G bL.1);cases e;obtain ⟨z0, z1, z2, z3, z4, z5, z6, z7, z8, z9, z10, z11, z12, z13, zV⟩ := z;have T : Txt K mg := ⟨n0.d X G, n1.d X G, n2.d X G, n3.d X G, n4.d X G, n5.d X G, n6.d X G, n7.d X G, n8.d X G, n9.d X G, n10.d X G, n11.d X G, n12.d X G, n13.d X G, n14.d X G, ⟨am15, PySem.W.mg_of X G m15, mm15⟩, n16.d X G, PySem.W.mg_none_of X G z0, PySem.W.mg_none_of X G z1, PySem.W.mg_none_of X G z2, PySem.W.mg_none_of X G z3, PySem.W.mg_none_of X G z4, PySem.W.mg_none_of X G z5, PySem.W.mg_none_of X G z6, PySem.W.mg_none_of X G z7, PySem.W.mg_none_of X G z8, PySem.W.mg_none_of X G z9, PySem.W.mg_none_of X G z10, PySem.W.mg_none_of X G z11, PySem.W.mg_none_of X G z12, PySem.W.mg_none_of X G z13⟩
 refine ⟨dL, hb, fun base XB _ => ?_⟩;have F := bL.2;obtain ⟨q0, q1, q2, q3, q4, q5, q6, q7, q8, q9⟩ := kkH;have yH : Kinds K mg cH 3 := ⟨tH.err, by decide, PySem.W.mg_none_of X G zV, kvH, q0.d X G, q1.d X G, q2.d X G, q3.d X G, q4.d X G, q5.d X G, q6.d X G, q7.d X G, q8.d X G, q9.d X G⟩
 clear q0 q1 q2 q3 q4 q5 q6 q7 q8 q9;obtain ⟨q0, q1, q2, q3, q4, q5, q6, q7, q8, q9⟩ := kkT;have yT : Kinds K mg cT 7 := ⟨tT.err, by decide, PySem.W.mg_none_of X G zV, kvT, q0.d X G, q1.d X G, q2.d X G, q3.d X G, q4.d X G, q5.d X G, q6.d X G, q7.d X G, q8.d X G, q9.d X G⟩
 clear q0 q1 q2 q3 q4 q5 q6 q7 q8 q9;have Er : Errs K mg base cH cT cW := ⟨tH.own XB (PySem.W.mg_of X G eH) kpH, tT.own XB (PySem.W.mg_of X G eT) kpT, PySem.W.mg_of X G eW, tH.is XB, tH.under XB, tT.under XB, yH, yT⟩
 have o1 := zcn (P := l.prog) (w := w) (base := base) (b0.d X G) T;have o2 := za3 (b1.d X G) T o1;have o3 := Xp (P := l.prog) (w := w) (base := base) (b2.d X G) T;have o4a := J7 (P := l.prog) (w := w) (base := base) (b3.d X G) T;have o4 := zer (b4.d X G) T o4a;have o5 := zhd (b5.d X G) T o2;have o6 := zes (b6.d X G) T o2;have o7 := za5 (b7.d X G) T o3 o6;have o8 := Q6 (b8.d X G) T o7;have o9 := J8 (b9.d X G) T o3 o2 o8;have o10 := zet (b10.d X G) T o3 o2 o9 o5 o6 o4;have o11 := za4 (b11.d X G) T o3 o10;have o12 := zcq (b12.d X G) T o3 o2;have o13 := Wi (b13.d X G) T o12 o11 o9;have o14 := zeu (P := l.prog) (w := w) (base := base) (b14.d X G) T;have o15 := zco (b15.d X G) T o14;have o16 := J9 (P := l.prog) (w := w) (base := base) (b16.d X G) T;have o17 := zf1 (b17.d X G) T o16 20;have o18 := zcp (b18.d X G) T o13 o15 o17;have n1 := za2 (b19.d X G) T Er.oH o18;have n2 := zcr (P := l.prog) (w := w) (base := base) (b20.d X G) T;have n3 := zcj (b21.d X G) T n2 o4 o4a;have n4 := za0 (b22.d X G) T n3;have n7 := ok_showHouse' (b23.d X G) n1;have n8 := zcm (P := l.prog) (w := w) (b24.d X G) Er.oT;have n9 := zck (b25.d X G) T n4 n8;have n10 := J6 (b26.d X G) T n3 n8;have n11 := Q5 (b27.d X G) T n3 n8 n10;have n12 := zcl (b28.d X G) T B n11 n8 n4;have n13 := zhc (b29.d X G) T Er.oT n11 n12;have n14 := za1 (b30.d X G) T n9 n13 n1;have e1 := zj6 (P := l.prog) (w := w) (base := base) (b31.d X G);have e2 := zms (b32.d X G) T e1;have e3 := zep (P := l.prog) (w := w) (base := base) (b33.d X G) T;have e4 := za6 (b34.d X G) T e2 e3;have e5 := zhe (b35.d X G) T e2 e4;have e6 := zeo (P := l.prog) (w := w) (base := base) (b36.d X G) T;have e7 := zcs (b37.d X G) T e6;have e8 := zeq (b38.d X G) T e6 e7;have e9 := zj7 (P := l.prog) (w := w) (base := base) (b39.d X G) T;have e10 := zj4 (b40.d X G) T Er n14 n7 e9;have e11 := zo5 (b41.d X G) T e2;have e12 := zo6 (b42.d X G) T e2;exact zmt F T e5 e8 e11 e12 e10 n14
theorem walk {l : PySem.W.OpenLaw} {loose : List Str} {XP : (Str → Option Value) → Heap → Prop} {YP : World → Heap → Prop} {d : DefRec} {K : Params → PySem.W.Frag} (hn : l.most = some 63) (hdf : d.params.defaults = [])
  (hY : ∀ (w : World) (h : Heap), YP w h → (K w.params).In h)
  (F : ∀ (w : World) (mg : Str → Option Value) (fa : Addr) (h : Heap), (K w.params).In h → h.Ns mainGlobals mg → mg d.name = some (.ref fa) →
   ∃ fd : FuncData, (∀ (s : Shared) (u : Value), BindsTo s fd ⟨[u], []⟩ [("script", u)]) ∧ ∀ base : Heap, (K w.params).In base → base.Ns mainGlobals mg → FnOk l.prog w (K w.params) mg base CX0 26 fa fd ["script"] (zfq (K w.params))) :
  PySem.W.WalkO q loose XP YP l.row.toRowW d [] (fun f vs => PySem.call f vs) :=
 L2.walk_of (n := 63) (k := 26) (x := "script") (CX := fun _ => CX0) (sp := fun w => zfq (K w.params)) hn (by decide) hdf ⟨rfl, by decide, by decide⟩ hY F (fun _ _ a ns hl _ hS => ⟨a, ns, rfl, hS, hl, fun _ => rfl⟩) fun _ _ _ _ _ z => z
end
end My
-- the names of quick twins that the head would else make (of its heaps, its trees, the program): taken here, the head goes on without them, and the text compiles to less
namespace PySem.W.Fast
def tw11252147860121592720:=0
def tw17228108483814010273:=0
def tw13563884411362641855:=0
def tw124824057989146365:=0
def tw13808581396941066332:=0
def tw750467069772862140:=0
def tw15174257162182212311:=0
def tw15830533531580773156:=0
def tw38921870100627927:=0
def tw18037179379989573654:=0
def tw9927453737320829257:=0
def tw9403719126138108539:=0
def tw4752263737948830016:=0
def tw8285849813727926499:=0
def tw7866276022850441562:=0
def tw9885615255487415959:=0
def tw8337569946919525707:=0
def tw10522592065346512026:=0
def tw13450330183151950999:=0
def tw6708619633699953652:=0
def tw3255899309313018087:=0
def tw3887317402382428717:=0
def tw909783306320469463:=0
def tw12152329970485565196:=0
def tw12166362842736075143:=0
def tw13795946878184962372:=0
def tw8003297955373637306:=0
def tw15292922355944311153:=0
def tw13204975181771640949:=0
def tw15437647624923655889:=0
def tw11919598934185458543:=0
def tw8484848325661047129:=0
def tw17438052799909882199:=0
def tw14987181366794794793:=0
def tw4415816208609130660:=0
def tw8409242045614053844:=0
def tw15693496165026058843:=0
def tw11086000455214865765:=0
def tw12508433026580524032:=0
def tw3028246692935369459:=0
def tw5379564757802757249:=0
def tw72169227950554313:=0
def tw9556905591250972565:=0
def tw15920292489123810226:=0
def tw3969930646008210514:=0
def tw7417108426370952169:=0
def tw5009984095510697248:=0
def tw14473321784963453486:=0
def tw258500317297958461:=0
def tw2765305315289352014:=0
def tw11672753326471662166:=0
def tw15738270052752726030:=0
def tw8205944329102161011:=0
def tw4055575547668816240:=0
def tw3094946932986915536:=0
def tw8550820531594894968:=0
def tw8693528580361577784:=0
def tw5795438801738701092:=0
def tw4571453484326150765:=0
def tw9000600992015558014:=0
def tw7543183829096989886:=0
def tw14615795547204676905:=0
def tw6947516417695739901:=0
def tw4966510234650738145:=0
def tw16135519314497902712:=0
def tw2499107976124705678:=0
def tw12595929425096790499:=0
def tw20951386849253190:=0
def tw16134299126279121495:=0
def tw17784192000919470467:=0
def tw4324852364929572653:=0
def tw7770031526175288924:=0
def tw18357009080161286713:=0
def tw2224350395630612087:=0
def tw16960561282872451348:=0
def tw7762450776693310400:=0
def tw14887292919444432906:=0
def tw9592278215090062802:=0
def tw4075874943036265698:=0
def tw6256118572689824020:=0
def tw5250712024744948055:=0
def tw8678176459534899441:=0
def tw4894374359227922209:=0
def tw18025302561365874152:=0
def tw2153430803073244662:=0
def tw4719237761098444260:=0
def tw14718614248244394335:=0
def tw7327887006359975822:=0
def tw6041664628165715820:=0
def tw4176624586980481078:=0
def tw10315888498044645127:=0
def tw8728699392577332286:=0
def tw17087095119903700039:=0
def tw7134571010952515930:=0
def tw11714398692949282656:=0
def tw8494895803438483005:=0
def tw12315073886948821445:=0
def tw2585239005725327100:=0
def tw8238440873580911037:=0
def tw10403486325376027251:=0
def tw16659780499316912988:=0
def tw11001856100481734917:=0
def tw7038181646455962260:=0
def tw8272956700261002722:=0
def tw4850825453463574776:=0
def tw8404231996385419910:=0
def tw8892770839216709377:=0
def tw12155079062515332178:=0
def tw18370814406503271852:=0
def tw212437362048586093:=0
def tw10873803162331933512:=0
def tw10168482355952502523:=0
def tw7152778012282332370:=0
def tw13123334965982018722:=0
def tw17550565052662459333:=0
def tw3857292048175280242:=0
end PySem.W.Fast

open PySem PySem.W PyProof.Rows
set_option maxRecDepth 100000 in
set_option maxHeartbeats 0 in
theorem PySem.Challenge.cw_meetwall_k67_texts_that_write_no_house_holds : PySem.Challenge.rw_meetwall_k67_texts_that_write_no_house.Holds := by
 w_on; o_law; k_head; (case hw => w_witness2)
 k_fill
 refine My.walk (l := PySem.Challenge.rw_meetwall_k67_texts_that_write_no_house) rfl rfl (fun w h Y => PySem.W.kIn_of Y) ?F
 case F =>
  intro w mg fa h KX G hmg;refine' My.all_mk (w := w) KX G hmg ?_ ?_ ?_ ?_ ?_ ?_ ?_ ?_ ?_ ?_ ?_ ?_ ?_ ?_ ?_ ?_ ?_ ?_ ?_ ?_ ?_ ?_ ?_ ?_ ?_ ?_ ?_ ?_ ?_ ?_ ?_ ?_ ?_ ?_ ?_ ?_ ?_ ?_ ?_ ?_ ?_ ?_ ?_ ?bL ?_ ?_ ?_ ?_ ?_ ?_ ?_ ?_ ?_ ?_ ?_ ?_ ?_ ?_ ?_ ?mo ?mm ?_ ?z ?eH ?eT ?eW ?tH ?kpH ?kvH ?kkH ?tT ?kpT ?kvT ?kkT ?de ?hb
  (case bL => refine' My.fd_mk ?a ?l ?c ?k; (case a => k_is); (case l => k_is); (case c => k_is); (case k => k_is))
  (case hb => exact fun s v => .of_eq rfl)
  (case z => refine ⟨?_, ?_, ?_, ?_, ?_, ?_, ?_, ?_, ?_, ?_, ?_, ?_, ?_, ?_, ?_⟩ <;> (unfold My.NS; k_is))
  (case mo => unfold My.NS; k_is)
  (case mm => refine' My.kt3 ?a; (case a => k_is))
  (case de => refine' My.de_mk (w := w) KX G ?a ?b ?c ?_ ?_ ?_ ?_ ?_ ?_ ?_; (case a => k_is); (case b => k_is); (case c => rfl); all_goals first | (refine' My.kt2 ?a; (case a => k_is)) | (refine' My.kt1 ?a; (case a => k_is)))
  (case eH => unfold My.NS; k_is)
  (case eT => unfold My.NS; k_is)
  (case eW => unfold My.NS; k_is)
  (case tH => (refine' My.two_mk ?f1 ?f2 ?g1 ?g2 ?h1 ?h2; (case f1 => k_is); (case f2 => k_is); (case g1 => kernel_rfl); (case g2 => kernel_rfl); (case h1 => refine ⟨?_, ?_, ?_, ?_⟩ <;> k_is); (case h2 => refine ⟨?_, ?_, ?_, ?_⟩ <;> k_is)))
  (case kpH => k_is)
  (case kvH => kit_is)
  (case kkH => refine ⟨?_, ?_, ?_, ?_, ?_, ?_, ?_, ?_, ?_, ?_⟩ <;> (refine' My.ko_mk ?a ?k; (case a => k_is); (case k => kit_is)))
  (case tT => (refine' My.two_mk ?f1 ?f2 ?g1 ?g2 ?h1 ?h2; (case f1 => k_is); (case f2 => k_is); (case g1 => kernel_rfl); (case g2 => kernel_rfl); (case h1 => refine ⟨?_, ?_, ?_, ?_⟩ <;> k_is); (case h2 => refine ⟨?_, ?_, ?_, ?_⟩ <;> k_is)))
  (case kpT => k_is)
  (case kvT => kit_is)
  (case kkT => refine ⟨?_, ?_, ?_, ?_, ?_, ?_, ?_, ?_, ?_, ?_⟩ <;> (refine' My.ko_mk ?a ?k; (case a => k_is); (case k => kit_is)))
  all_goals first | (refine' My.fe_mk ?a ?l ?c ?k; (case a => k_is); (case l => k_is); (case c => k_is); (case k => k_is)) | (refine' My.ci_mk ?a; (case a => k_is))

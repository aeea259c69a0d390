import PyProof.Rows.All
import Wide.All
import OpenK.AllK
import Wide.FinOn
import Lean
import PyProof.EqAt
import PyProof.EqKinds
import PyProof.TupleCall
import PyProof.TupleKey
import PyProof.DictFindH
import PyProof.NeData
import PyProof.ListRange
import PyProof.ZipIter
import PyProof.Rows.CallKwBuiltin
import PyProof.MinMaxWalk
import KE.KSortTup
import PyProof.DictItems
import PyProof.SetRoads
import PyProof.SetNew
import PyProof.IsRules
import PySem.Challenge.RW_meetwall_k60_loose_ones_by_all_weavings
set_option Elab.async false
set_option linter.all false
set_option maxRecDepth 100000
set_option maxHeartbeats 4000000
noncomputable section
namespace L2
open PySem PySem.Spec PyProof.Rows
noncomputable def _root_.a4:=@wpAny_bind
noncomputable def _root_.a6:=@wpAny_pure
noncomputable def _root_.a7:=@List.length_map
noncomputable def _root_.a8:=@Heap.get?_push_of_some
noncomputable def _root_.a9:=@Nat.le_refl
noncomputable def _root_.aa:=@List.mem_cons
noncomputable def _root_.ac:=@Heap.lt_size
noncomputable def _root_.ae:=@Ne.symm
noncomputable def _root_.ah:=@List.getElem?_eq_getElem
noncomputable def _root_.ai:=@decide_eq_true
noncomputable def _root_.aj:=@List.not_mem_nil
noncomputable def _root_.ak:=@List.mem_singleton
noncomputable def _root_.al:=@List.map_append
noncomputable def _root_.ao:=@List.getElem?_map
noncomputable def _root_.aq:=@List.getD_eq_getElem?_getD
noncomputable def _root_.ar:=@Heap.get?_push_size
noncomputable def _root_.av:=@decide_eq_false
noncomputable def _root_.aw:=@Nat.ne_of_lt
noncomputable def _root_.ax:=@List.size_toArray
noncomputable def _root_.ay:=@Nat.le_trans
noncomputable def _root_.az:=@Bool.false_ne_true
noncomputable def _root_.ba:=@List.length_append
noncomputable def _root_.bc:=@Bool.and_eq_true
noncomputable def _root_.be:=@List.mem_cons_self
noncomputable def _root_.bg:=@Nat.lt_of_lt_of_le
noncomputable def _root_.bh:=@List.getElem?_eq_some_iff
noncomputable def _root_.bi:=@Bool.true_and
noncomputable def _root_.bj:=@List.mem_of_getElem?
noncomputable def _root_.bn:=@List.mem_cons_of_mem
noncomputable def _root_.bo:=@Nat.zero_le
noncomputable def _root_.bp:=@of_decide_eq_true
noncomputable def _root_.bq:=@List.mem_map
noncomputable def _root_.br:=@List.mem_append
noncomputable def _root_.bw:=@Int.toNat_natCast
noncomputable def _root_.bz:=@Int.le_refl
noncomputable def _root_.c0:=@wpAny_call_entry
noncomputable def _root_.c5:=@List.take_add_one
noncomputable def _root_.c6:=@Nat.lt_irrefl
noncomputable def _root_.c7:=@List.nodup_cons
noncomputable def _root_.c8:=@List.take_length
noncomputable def _root_.c9:=@List.length_replicate
noncomputable def _root_.ca:=@wpAny_newObj_type
noncomputable def _root_.cb:=@List.mem_range
noncomputable def _root_.ce:=@Nat.ne_of_gt
noncomputable def _root_.cg:=@Bool.false_and
noncomputable def _root_.ci:=@List.mem_append_right
noncomputable def _root_.cj:=@wpAny_mono
noncomputable def _root_.ck:=@List.length_cons
noncomputable def _root_.cm:=@List.length_singleton
noncomputable def _root_.cn:=@wpAny_isInstance
noncomputable def _root_.cp:=@Array.getElem?_eq_getElem
noncomputable def _root_.cq:=@List.length_range
noncomputable def _root_.cu:=@List.mem_append_left
noncomputable def _root_.cv:=@List.map_map
noncomputable def _root_.cw:=@List.append_nil
noncomputable def _root_.cx:=@List.length_take
noncomputable def _root_.cy:=@Heap.size_push
noncomputable def _root_.cz:=@List.all_eq_true
noncomputable def _root_.d0:=@List.mem_iff_getElem
noncomputable def _root_.d4:=@List.replicate_succ'
noncomputable def _root_.da:=@List.any_eq_true
noncomputable def _root_.dc:=@List.mem_filter
noncomputable def _root_.de:=@List.map_cons
noncomputable def _root_.df:=@Nat.lt_of_le_of_lt
noncomputable def _root_.dg:=@Int.emod_nonneg
noncomputable def _root_.dh:=@List.getElem?_append_left
noncomputable def _root_.di:=@Nat.not_lt_zero
noncomputable def _root_.dj:=@Int.emod_lt_of_pos
noncomputable def _root_.dl:=@List.mem_replicate
noncomputable def _root_.dq:=@Option.isSome_iff_exists
noncomputable def _root_.dv:=@Option.map_eq_some_iff
noncomputable def _root_.dw:=@List.length_filter_le
noncomputable def _root_.dy:=@Array.size_push
noncomputable def _root_.dz:=@List.getElem?_eq_none
noncomputable def _root_.e9:=@Nat.add_le_add_left
noncomputable def _root_.eu:=@List.pairwise_iff_getElem
noncomputable def _root_.ez:=@List.length_eq_zero_iff
abbrev Key := Sum Int Str
noncomputable def Qr : Key → Value → Bool
 | .inl k, v => Value.isInt k v
 | .inr x, v => Value.isStrOf x v
noncomputable def zp1 (w : World) : Key → Int
 | .inl k => hashInt k
 | .inr x => hashStr w x
theorem wb : ∀ {k : Key} {v : Value}, Qr k v = true → (∃ i t, k = Sum.inl i ∧ v = Value.int i t) ∨ (∃ x t, k = Sum.inr x ∧ v = Value.str x t)
 | .inl i, v, h => by
   obtain ⟨t, e⟩ := Value.isInt_shape (k := i) (v := v) h;exact .inl ⟨i, t, rfl, e⟩
 | .inr x, v, h => by
   obtain ⟨t, e⟩ := Value.isStrOf_shape (x := x) (v := v) h;exact .inr ⟨x, t, rfl, e⟩
theorem zfb (i : Int) (t : Tok) : Qr (.inl i) (.int i t) = true := by simp [Qr, Value.isInt]
theorem zfa (x : Str) (t : Tok) : Qr (.inr x) (.str x t) = true := by simp [Qr, Value.isStrOf]
theorem zmk (a b : Int) : decide ((Sum.inl a : Key) = Sum.inl b) = (a == b) := by
 by_cases e : a = b
 · subst e; simp
 · have h : ¬ (Sum.inl a : Key) = Sum.inl b := fun q => e (Sum.inl.inj q);rw [av h];exact (beq_eq_false_iff_ne.mpr e).symm
theorem zmg (a b : Str) : decide ((Sum.inr a : Key) = Sum.inr b) = decide (a = b) := by
 by_cases e : a = b
 · subst e; simp
 · have h : ¬ (Sum.inr a : Key) = Sum.inr b := fun q => e (Sum.inr.inj q);rw [av h, av e]
theorem zmj (a : Int) (b : Str) : decide ((Sum.inl a : Key) = Sum.inr b) = false := av (fun q => nomatch q)
theorem zmh (a : Str) (b : Int) : decide ((Sum.inr a : Key) = Sum.inl b) = false := av (fun q => nomatch q)
noncomputable def yk (prog : Program) (w : World) : PySem.KeyKind prog w Key where
 is := Qr
 hash := zp1 w
 inj := fun v a b ha hb => by
  rcases wb ha with ⟨i, t, rfl, rfl⟩ | ⟨x, t, rfl, rfl⟩
  · rcases wb hb with ⟨j, u, rfl, e⟩ | ⟨y, u, rfl, e⟩
    · injection e with e1 _; rw [e1]
    · exact nomatch e
  · rcases wb hb with ⟨j, u, rfl, e⟩ | ⟨y, u, rfl, e⟩
    · exact nomatch e
    · injection e with e1 _; rw [e1]
 byValue := fun k v h => by
  rcases wb h with ⟨i, t, rfl, rfl⟩ | ⟨x, t, rfl, rfl⟩ <;> rfl
 pyHash := fun hv h => by
  rcases wb hv with ⟨i, t, rfl, rfl⟩ | ⟨x, t, rfl, rfl⟩
  · exact wpAny_pyHash_int h
  · exact wpAny_pyHash_str h
 eqBool := fun hu hv h => by
  rcases wb hu with ⟨i, t, rfl, rfl⟩ | ⟨x, t, rfl, rfl⟩
  · rcases wb hv with ⟨j, u, rfl, rfl⟩ | ⟨y, u, rfl, rfl⟩
    · rw [zmk] at h; exact wpAny_eqBool_int h
    · rw [zmj] at h; exact SeqAt.EqAt.int_str i t y u _ _ _ _ h
  · rcases wb hv with ⟨j, u, rfl, rfl⟩ | ⟨y, u, rfl, rfl⟩
    · rw [zmh] at h; exact SeqAt.EqAt.str_int x t j u _ _ _ _ h
    · rw [zmg] at h; exact wpAny_eqBool_str h
 «strs» := fun k x t v h => by
  rcases wb h with ⟨i, u, rfl, e⟩ | ⟨y, u, rfl, e⟩
  · exact nomatch e
  · injection e with e1 _;subst e1;cases v <;> rfl
theorem zap (prog : Program) (w : World) (i : Int) (t : Tok) : (yk prog w).is (.inl i) (.int i t) = true := zfb i t
theorem zao (prog : Program) (w : World) (x : Str) (t : Tok) : (yk prog w).is (.inr x) (.str x t) = true := zfa x t
inductive V where
 | non | bl (b : Bool) | int (i : Int) | str (x : Str) | byt (b : Array UInt8) | flt (b : UInt64) | ref (a : Addr) | ty (n : String)
 deriving DecidableEq
noncomputable def yw : V → Value → Prop
 | .non, u => u = Value.none
 | .bl b, u => u = Value.bool b
 | .int i, u => ∃ t, u = Value.int i t
 | .str x, u => ∃ t, u = Value.str x t
 | .byt b, u => ∃ t, u = Value.bytes b t
 | .flt b, u => ∃ t, u = Value.float b t
 | .ref a, u => u = Value.ref a
 | .ty n, u => u = Value.type n
abbrev ym : List V → List Value → Prop := Paired yw
theorem ym.length {xs : List V} {us : List Value} (r : ym xs us) : xs.length = us.length := Paired.length r
theorem ym.get : ∀ {xs : List V} {us : List Value} {i : Nat} {x : V}, ym xs us → xs[i]? = some x → ∃ u, us[i]? = some u ∧ yw x u
 | _, _, _, _, .nil, e => by simp at e
 | _, _, 0, _, .cons r _, e => by simp at e; subst e; exact ⟨_, rfl, r⟩
 | _, _, i + 1, x, .cons _ t, e => by
   obtain ⟨u, h1, h2⟩ := ym.get (i := i) (x := x) t (by simpa using e);exact ⟨u, by simpa using h1, h2⟩
theorem ym.set {x : V} {u : Value} (r : yw x u) : ∀ {xs : List V} {us : List Value} (i : Nat), ym xs us → ym (xs.set i x) (us.set i u)
 | _, _, _, .nil => .nil
 | _, _, 0, .cons _ t => .cons r t
 | _, _, i + 1, .cons q t => .cons q (ym.set r i t)
theorem ym.append : ∀ {xs ys : List V} {us ws : List Value}, ym xs us → ym ys ws → ym (xs ++ ys) (us ++ ws)
 | _, _, _, _, .nil, s => s
 | _, _, _, _, .cons r t, s => .cons r (ym.append t s)
theorem ym.take : ∀ {xs : List V} {us : List Value} (n : Nat), ym xs us → ym (xs.take n) (us.take n)
 | _, _, 0, _ => .nil
 | _, _, _ + 1, .nil => .nil
 | _, _, n + 1, .cons r t => .cons r (ym.take n t)
theorem ym.drop : ∀ {xs : List V} {us : List Value} (n : Nat), ym xs us → ym (xs.drop n) (us.drop n)
 | _, _, 0, r => r
 | _, _, _ + 1, .nil => .nil
 | _, _, n + 1, .cons _ t => ym.drop n t
noncomputable def V4 : Option V → Option Value → Prop
 | some v, some u => yw v u
 | none, none => True
 | _, _ => False
noncomputable def KV {κ : Type} : List (κ × V) → List (κ × Value) → Prop := Paired fun (p : κ × V) (q : κ × Value) => p.1 = q.1 ∧ yw p.2 q.2
noncomputable def kV : Key → V
 | .inl i => .int i
 | .inr x => .str x
inductive HO where
 | lst (xs : List V)
 | tup (xs : List V)
 | dK (kvs : List (Key × V)) | dT (kvs : List (List Key × V))
 | set (S : Int → Bool) (n : Nat)
 | ins (C dx : Addr) (fs : List (Str × V))
 | own (x : Addr)
 | xd (fs : List (Str × V))
 | met (f x : Addr)
 | rng (lo hi : Int)
 | frz (o : Obj) (u : HO)
 | tbl (ps : Array Value)
 | ext (φ : Heap → Prop)
abbrev Hp := Addr → Option HO
noncomputable def upd (H : Hp) (a : Addr) (o : HO) : Hp := fun b => if b = a then some o else H b
variable {a b : Addr} {o u : HO} {h h' : Heap} {H : Hp} {P : Program} {w : World}
theorem zf : upd H a o a = some o := by unfold upd; rw [if_pos rfl]
theorem zk (h : b ≠ a) : upd H a o b = H b := by unfold upd; rw [if_neg h]
theorem ke (h : H a = some o) (h' : H b = some u) (d : o ≠ u) : a ≠ b := by
 intro e; subst e; rw [h] at h'; exact d (Option.some.inj h')
theorem zm (h : H a = some o) (h' : H b = none) : a ≠ b := by
 intro e; subst e; rw [h] at h'; cases h'
noncomputable def NoD (h : Heap) (a : Addr) : Prop := ∀ o, h.get? a = some o → o.dict = none
theorem NoD.of {o : Obj} (n : NoD h a) (e : h.get? a = some o) (e' : h'.get? a = some o) : NoD h' a := fun q hq => by rw [e'] at hq; cases hq; exact n o e
theorem NoD.push {h : Heap} {c : Value} {d : Data} {sl : Array (Option Value)} : NoD (h.push { cls := c, dict := none, data := d, slots := sl }) h.objs.size := fun q hq => by
 have e : (h.push { cls := c, dict := none, data := d, slots := sl }).get? h.objs.size = some q := hq;cases hf : ({ cls := c, dict := none, data := d, slots := sl } : Obj).isFreed with
 | false => rw [ar _ hf] at e; cases e; rfl
 | true =>
   simp [Heap.get?, Heap.push, hf] at e;split at e
   · cases e
   · cases e; rfl
section
variable (P : Program) (w : World)
noncomputable def xk (H : Hp) (h : Heap) (a : Addr) : HO → Prop
 | .lst xs => xs.length ≤ sizeLine ∧ ∃ (its : List Value) (n : Nat), ym xs its ∧ h.get? a = some { cls := .type "list", data := .seq its.toArray n }
 | .tup xs => xs.length ≤ sizeLine ∧ ∃ its : List Value, ym xs its ∧ IsTup h a its.toArray ∧ NoD h a
 | .dK kvs => kvs.length ≤ sizeLine ∧ (a == sysModules) = false ∧ ∃ vs, KV kvs vs ∧ h.DictOf (yk P w) a vs
 | .dT kvs => kvs.length ≤ sizeLine ∧ (a == sysModules) = false ∧ ∃ xs : List (List Key × Addr × Value),
  Paired (fun (p : List Key × V) (q : List Key × Addr × Value) => p.1 = q.1 ∧ H q.2.1 = some (.tup (p.1.map kV)) ∧ yw p.2 q.2.2) kvs xs ∧
  ∃ o es ep, h.get? a = some o ∧ o.ExactDict ∧ o.data = .dict es ep ∧ es.toList = xs.map (entryOfKey (tupleKind (yk P w))) ∧ (xs.map (·.1)).Nodup
 | .set S n => h.SetOf (intKind P w) a S n
 | .ins C dx fs => H dx = some (.own a) ∧ fs.length ≤ 1000 ∧ dx ≠ a ∧ h.get? a = some (PySem.W.instObj C dx) ∧
  ∃ mA, h.Ns1 dx mA ∧ (∀ f, V4 (fs.lookup f) (mA f)) ∧ PySem.Within mA (fs.map (·.1))
 | .own _ => ∃ o, h.get? a = some o
 | .xd fs => ∃ mA, h.Ns1 a mA ∧ ∀ f, V4 (fs.lookup f) (mA f)
 | .rng lo hi => ∃ t u v, h.get? a = some { cls := .type "range", data := .fields #[.int lo t, .int hi u, .int 1 v] }
 | .frz o u => h.get? a = some o ∧ xk H h a u
 | .tbl ps => h.get? a = some { cls := .none, data := .fields ps }
 | .met f x => h.get? a = some (PySem.W.methodObj (.ref f) (.ref x))
 | .ext φ => φ h ∧ (∃ o, h.get? a = some o) ∧ ∀ h1 h2 : Heap, φ h1 → (∀ o, h1.get? a = some o → h2.get? a = some o) → φ h2
noncomputable def HOk (H : Hp) (h : Heap) : Prop := ∀ a o, H a = some o → xk P w H h a o
end
section
variable {H' : Hp}
theorem xk.lt (x : xk P w H h a o) : a < h.objs.size := by
 cases o with
 | lst xs => obtain ⟨_, _, _, _, e⟩ := x; exact ac e
 | tup xs => obtain ⟨_, _, _, p, _⟩ := x; exact p.lt
 | dK kvs => obtain ⟨_, _, _, _, o, _, _, e, _⟩ := x; exact ac e
 | dT kvs => obtain ⟨_, _, _, _, o, _, _, e, _⟩ := x; exact ac e
 | set S n => obtain ⟨o, _, _, _, e, _⟩ := x; exact ac e
 | ins C dx fs => obtain ⟨_, _, _, e, _⟩ := x; exact ac e
 | own y => obtain ⟨_, e⟩ := x; exact ac e
 | xd fs => obtain ⟨_, ⟨_, _, _, e, _⟩, _⟩ := x; exact ac e
 | rng lo hi => obtain ⟨_, _, _, e⟩ := x; exact ac e
 | frz ob u => obtain ⟨e, _⟩ := x; exact ac e
 | tbl ps => exact ac (show h.get? a = some _ from x)
 | met f y => exact ac (show h.get? a = some _ from x)
 | ext φ => obtain ⟨_, ⟨_, e⟩, _⟩ := x; exact ac e
theorem Paired.mapP {α β : Type} {F G : α → β → Prop} : ∀ {l₁ : List α} {l₂ : List β}, Paired F l₁ l₂ → (∀ a b, F a b → G a b) → Paired G l₁ l₂
 | _, _, .nil, _ => .nil
 | _, _, .cons r t, f => .cons (f _ _ r) (Paired.mapP t f)
theorem xk.stay (x : xk P w H h a o) (k : ∀ b u, (b = a ∨ H b = some (.own a)) → h.get? b = some u → h'.get? b = some u)
  (ho : ∀ b, H b = some (.own a) → H' b = some (.own a)) (ht : ∀ b xs, H b = some (.tup xs) → H' b = some (.tup xs)) : xk P w H' h' a o := by
 induction o with
 | lst xs => obtain ⟨z, its, n, r, e⟩ := x; exact ⟨z, its, n, r, k _ _ (.inl rfl) e⟩
 | tup xs => obtain ⟨z, its, r, ⟨ob, e, c⟩, nd⟩ := x; exact ⟨z, its, r, ⟨ob, k _ _ (.inl rfl) e, c⟩, nd.of e (k _ _ (.inl rfl) e)⟩
 | dK kvs => obtain ⟨z, y, vs, r, ob, es, ep, e, c⟩ := x; exact ⟨z, y, vs, r, ob, es, ep, k _ _ (.inl rfl) e, c⟩
 | dT kvs =>
   obtain ⟨z, y, xs, r, ob, es, ep, e, c⟩ := x;exact ⟨z, y, xs, Paired.mapP r fun p q z => ⟨z.1, ht _ _ z.2.1, z.2.2⟩, ob, es, ep, k _ _ (.inl rfl) e, c⟩
 | set S n => obtain ⟨ob, es, ep, t, e, c⟩ := x; exact ⟨ob, es, ep, t, k _ _ (.inl rfl) e, c⟩
 | ins C dx fs =>
   obtain ⟨d, z, ne, e, mA, ⟨od, es, ep, e2, c⟩, r⟩ := x;exact ⟨ho _ d, z, ne, k _ _ (.inl rfl) e, mA, ⟨od, es, ep, k _ _ (.inr d) e2, c⟩, r⟩
 | own y => obtain ⟨ob, e⟩ := x; exact ⟨ob, k _ _ (.inl rfl) e⟩
 | xd fs => obtain ⟨mA, ⟨od, es, ep, e, c⟩, r⟩ := x; exact ⟨mA, ⟨od, es, ep, k _ _ (.inl rfl) e, c⟩, r⟩
 | rng lo hi => obtain ⟨t, u, v, e⟩ := x; exact ⟨t, u, v, k _ _ (.inl rfl) e⟩
 | frz ob u ih => obtain ⟨e, q⟩ := x; exact ⟨k _ _ (.inl rfl) e, ih q⟩
 | tbl ps =>
   have e : h.get? a = some { cls := .none, data := .fields ps } := x;show h'.get? a = some { cls := .none, data := .fields ps };exact k a _ (.inl rfl) e
 | met f y =>
   have e : h.get? a = some (PySem.W.methodObj (.ref f) (.ref y)) := x;show h'.get? a = some (PySem.W.methodObj (.ref f) (.ref y));exact k a _ (.inl rfl) e
 | ext φ => obtain ⟨p, ⟨o, e⟩, st⟩ := x; exact ⟨st _ _ p fun o q => k _ _ (.inl rfl) q, ⟨o, k _ _ (.inl rfl) e⟩, st⟩
theorem HOk.lt (x : HOk P w H h) (e : H a = some o) : a < h.objs.size := (x a o e).lt
theorem HOk.fresh (x : HOk P w H h) (e : h.objs.size ≤ a) : H a = none := by
 cases q : H a with
 | none => rfl
 | some u => exact absurd (bg (x.lt q) e) (c6 _)
theorem HOk.kept (x : HOk P w H h) (k : ∀ b u, h.get? b = some u → h'.get? b = some u) : HOk P w H h' := fun a o e =>
 (x a o e).stay (fun b u _ q => k b u q) (fun _ q => q) fun _ _ q => q
theorem HOk.laid (x : HOk P w H h) (k : ∀ b u, h.get? b = some u → h'.get? b = some u) (hp : h.objs.size ≤ a) (new : xk P w (upd H a o) h' a o) : HOk P w (upd H a o) h' := fun b u e => by
 have hn := x.fresh hp;by_cases hb : b = a
 · subst hb; rw [zf] at e; cases e; exact new
 · rw [zk hb] at e;exact (x b u e).stay (fun c v _ q => k c v q) (fun c q => by rw [zk (zm q hn)]; exact q) fun c xs q => by rw [zk (zm q hn)]; exact q
end
noncomputable def Rd (H : Hp) (a : Addr) (u : HO) : Prop := H a = some u ∨ ∃ o, H a = some (.frz o u)
theorem Rd.ok (r : Rd H a u) (x : HOk P w H h) : xk P w H h a u := by
 rcases r with r | ⟨o, r⟩
 · exact x a u r
 · obtain ⟨_, q⟩ := x a _ r;exact q
noncomputable def Mut : Option HO → Prop
 | some (.lst _) => True
 | some (.dK _) => True
 | some (.dT _) => True
 | some (.set _ _) => True
 | some (.ins _ _ _) => True
 | some (.ext _) => True
 | _ => False
section
variable {x e : Addr} {o' : HO}
theorem HOk.write (ok : HOk P w H h) (mu : Mut (H x)) (he : e = x ∨ H e = some (.own x)) (k : ∀ b u, b ≠ e → h.get? b = some u → h'.get? b = some u) (heo : ∃ u, h'.get? e = some u)
  (new : xk P w (upd H x o') h' x o') : HOk P w (upd H x o') h' := fun b u q => by
 have nown : ∀ c y, H c = some (.own y) → c ≠ x := fun c y r z => by subst z; rw [r] at mu; exact mu
 have ntup : ∀ c xs, H c = some (.tup xs) → c ≠ x := fun c xs r z => by subst z; rw [r] at mu; exact mu
 by_cases hb : b = x
 · subst hb; rw [zf] at q; cases q; exact new
 · rw [zk hb] at q;by_cases hbe : b = e
   · have q' : H b = some (.own x) := by
      rcases he with z | z
      · exact absurd (hbe.trans z) hb
      · rw [hbe]; exact z
     rw [q] at q'; cases q';obtain ⟨v, hv⟩ := heo;exact ⟨v, by rw [hbe]; exact hv⟩
   · refine (ok b u q).stay (fun c v hc r => k c v ?_ r) (fun c r => by rw [zk (nown c b r)]; exact r) fun c xs r => by rw [zk (ntup c xs r)]; exact r
     rcases hc with rfl | hc
     · exact hbe
     · rintro rfl;rcases he with z | z
       · exact nown c b hc z
       · rw [hc] at z; cases z; exact hb rfl
end
structure Un (fs ex : List Addr) (H H' : Hp) (h h' : Heap) : Prop where
 keep : ∀ b o, h.get? b = some o → H b = none → b ∉ fs → b ∉ ex → h'.get? b = some o
 slot : ∀ b o, h.get? b = some o → H b = none → b ∈ fs → b ∉ ex → ∃ sl, h'.get? b = some { o with slots := sl }
 free : ∀ b o, h.get? b = some o → H b = none → b ∉ ex → H' b = none
 there : ∀ b o, h.get? b = some o → b ∉ ex → ∃ o', h'.get? b = some o'
 tups : ∀ b xs, H b = some (.tup xs) → H' b = some (.tup xs)
 frzs : ∀ b o u, H b = some (.frz o u) → H' b = some (.frz o u)
 tbls : ∀ b ps, H b = some (.tbl ps) → ∃ more, H' b = some (.tbl (ps ++ more))
section
variable {fs fs' ex ex' : List Addr} {H1 H2 : Hp} {h1 h2 : Heap} {x e : Addr}
theorem Un.any (u : Un fs ex H H1 h h1) {ob : Obj} (q : h.get? b = some ob) (n : H b = none) (hx : b ∉ ex) : ∃ sl, h1.get? b = some { ob with slots := sl } := by
 by_cases hb : b ∈ fs
 · exact u.slot b ob q n hb hx
 · exact ⟨ob.slots, u.keep b ob q n hb hx⟩
theorem Un.kept (k : ∀ b u, h.get? b = some u → h'.get? b = some u) : Un fs ex H H h h' :=
 ⟨fun b ob q _ _ _ => k b ob q, fun b ob q _ _ _ => ⟨ob.slots, k b ob q⟩, fun _ _ _ n _ => n, fun b ob q _ => ⟨ob, k b ob q⟩, fun _ _ q => q, fun _ _ _ q => q, fun _ ps q => ⟨#[], by rw [q]; simp⟩⟩
theorem Un.refl : Un fs ex H H h h := Un.kept fun _ _ q => q
theorem Un.laid (k : ∀ b u, h.get? b = some u → h'.get? b = some u) (hp : h.objs.size ≤ a) (hn : H a = none) : Un fs ex H (upd H a o) h h' where
 keep := fun b u q _ _ _ => k b u q
 slot := fun b u q _ _ _ => ⟨u.slots, k b u q⟩
 free := fun b u q n _ => by rw [zk (aw (bg (ac q) hp))]; exact n
 there := fun b u q _ => ⟨u, k b u q⟩
 tups := fun b xs q => by rw [zk (zm q hn)]; exact q
 frzs := fun b u xs q => by rw [zk (zm q hn)]; exact q
 tbls := fun b ps q => ⟨#[], by rw [zk (zm q hn), q]; simp⟩
theorem Un.write (mu : Mut (H x)) (he : e = x ∨ H e = some (.own x)) (k : ∀ b u, b ≠ e → h.get? b = some u → h'.get? b = some u) (heo : ∃ u, h'.get? e = some u) : Un fs ex H (upd H x o) h h' := by
 have hx : ∀ b, H b = none → b ≠ x := fun b n z => by subst z; rw [n] at mu; exact mu
 have hb : ∀ b, H b = none → b ≠ e := fun b n z => by
  subst z;rcases he with r | r
  · exact hx b n r
  · rw [n] at r; cases r
 have hm : ∀ b u, H b = some u → ¬ Mut (some u) → b ≠ x := fun b u q nm z => by subst z; rw [q] at mu; exact nm mu
 refine ⟨fun b u q n _ _ => k b u (hb b n) q, fun b u q n _ _ => ⟨u.slots, k b u (hb b n) q⟩, fun b u q n _ => by rw [zk (hx b n)]; exact n, fun b u q _ => ?_,
  fun b xs q => by rw [zk (hm b _ q fun z => z)]; exact q, fun b u xs q => by rw [zk (hm b _ q fun z => z)]; exact q, fun b ps q => ⟨#[], by rw [zk (hm b _ q fun z => z), q]; simp⟩⟩
 by_cases hbe : b = e
 · subst hbe; exact heo
 · exact ⟨u, k b u hbe q⟩
end
noncomputable def trk (h : Heap) (H : Hp) : List Addr := (List.range h.objs.size).filter fun a => (H a).isSome
noncomputable def V1 (h : Heap) (H : Hp) : Heap := PySem.W.hideAll h (trk h H)
theorem zfe (h : Heap) (H : Hp) : (V1 h H).objs.size = h.objs.size := PySem.W.hideAll_size _ _
theorem zh2 {o : Obj} (e : h.get? b = some o) (n : H b = none) : (V1 h H).get? b = some o :=
 PySem.W.hideAll_get _ e fun hm => by
  have q : (H b).isSome = true := (dc.mp hm).2;rw [n] at q; simp at q
theorem zjw {o : Obj} (e : (V1 h H).get? b = some o) : h.get? b = some o ∧ H b = none := by
 have e' : h.get? b = some o := PySem.W.of_hideAll (trk h H) e;refine ⟨e', ?_⟩;cases q : H b with
 | none => rfl
 | some x =>
   have hm : b ∈ trk h H := dc.mpr ⟨cb.mpr (ac e'), by simp [q]⟩;have z : (V1 h H).get? b = none := PySem.W.hideAll_none (trk h H) hm;rw [z] at e; cases e
noncomputable def zku (g h : Heap) (L : Addr) : List (Addr × Obj) := (List.range h.objs.size).filterMap fun a => if a = L ∨ (g.get? a).isSome = true then none else (h.get? a).map fun o => (a, o)
noncomputable def we (g h : Heap) (L d : Addr) : List (Addr × Obj) := (zku g h L).filter fun p => decide (p.1 ≠ d)
structure Mod (K : PySem.W.Frag) (mg : Str → Option Value) (base : Heap) : Prop where
 kin : K.In base
 glob : base.Ns mainGlobals mg
 blt : ∃ mb, base.Ns builtinsNs mb ∧ ∀ x : Str, x ≠ "__name__" → mb x = bootBuiltins x
 nolimit : base.NoLimit
structure Cx where
 prog : Program
 w : World
 K : PySem.W.Frag
 mg : Str → Option Value
 base : Heap
 A : Around
 N : List Str
 s₀ : Shared
 H₀ : Hp
 env : Env
 outer : List Env
 stack : List Env
 ex : List Addr
 fn : Str → Bool
 calm : Bool
 pn : List (Addr × Obj)
 xe : Value → Shared → Prop
noncomputable def frs (l : List Env) : List Addr := l.filterMap (·.frame)
variable {A : Around} {pins pins' : List (Addr × Obj)} {σ : List (Option V)} {ch : List Addr} {N : List Str} {i t' : Nat} {s : Shared} {x : Str} {Q : Unit → Shared → Prop} {v : V} {u : Value} {E : Value → Shared → Prop}
abbrev Cx.fs (X : Cx) : List Addr := frs X.outer
noncomputable def Vis (sc : Scope) (x : Str) : Prop := sc.names.lookup x = some .local ∨ sc.names.lookup x = some .cell ∨ sc.names.lookup x = some .free
noncomputable def Loc (sc : Scope) (x : Str) : Prop := sc.names.lookup x = some .local ∨ sc.names.lookup x = some .cell
noncomputable def zpk (env : Env) (h : Heap) (m : Str → Option Value) (x : Str) (u : Value) : Prop :=
 (env.kindOf x = some .local ∧ m x = some u) ∨ ((env.kindOf x = some .cell ∨ env.kindOf x = some .free) ∧ ∃ c, env.cells.lookup x = some c ∧ h.IsCell c (some u))
structure Cx.Ok (X : Cx) : Prop where
 mod : Mod X.K X.mg X.base
 kind : X.env.scope.kind = .function
 glob : X.env.globals = mainGlobals
 blt : X.env.builtins = builtinsNs
 above : X.s₀.heap.objs.size ≤ X.env.locals
 inj : ∀ x y c, X.env.cells.lookup x = some c → X.env.cells.lookup y = some c → x = y
 has : ∀ x, (X.env.kindOf x = some .cell ∨ X.env.kindOf x = some .free) → ∃ c, X.env.cells.lookup x = some c
 cab : ∀ x c, X.fn x = true → X.env.cells.lookup x = some c → X.s₀.heap.objs.size ≤ c
 hd : X.calm = true → X.A.handled = none
 frames : X.A.frames = some X.stack
 stk : X.stack = X.outer ∨ (X.stack = X.env :: X.outer ∧ X.env.frame = some X.env.locals)
 exf : ∀ b ∈ X.ex, b ≠ X.env.locals ∧ ∀ x c, X.env.cells.lookup x = some c → c ≠ b
 bs : ∀ b o, X.base.get? b = some o → X.s₀.heap.get? b = some o ∧ X.H₀ b = none
 bsz : X.base.objs.size ≤ X.s₀.heap.objs.size
 noex : ∀ b o, X.base.get? b = some o → b ∉ X.ex
 exfs : ∀ b ∈ X.ex, b ∉ X.fs
 funs : X.s₀.heap.FunFrames X.base X.outer
 frf : ∀ b ∈ X.fs, X.H₀ b = none
structure Inv (X : Cx) (pins : List (Addr × Obj)) (σ : List (Option V)) (H : Hp) (s : Shared) : Prop where
 ok : X.Ok
 os : s.os = X.s₀.os
 bare : AllBare s.gens
 base : Un X.fs X.ex X.H₀ H X.s₀.heap s.heap
 loc : ∃ m, s.heap.Ns X.env.locals m ∧ ∀ (i : Nat) (x : Str) (v : V), X.N[i]? = some x → σ[i]? = some (some v) → Vis X.env.scope x → ∃ u, yw v u ∧ zpk X.env s.heap m x u
 cell : ∀ x c, X.env.cells.lookup x = some c → ∃ v, s.heap.IsCell c v
 free : H X.env.locals = none
 freeC : ∀ x c, X.env.cells.lookup x = some c → H c = none
 pin : ∀ p ∈ X.pn ++ pins, s.heap.get? p.1 = some p.2 ∧ H p.1 = none ∧ p.1 ≠ X.env.locals ∧ p.1 ∉ X.fs ∧ ∀ v, p.2.data ≠ .cell v
 hok : HOk X.prog X.w H s.heap
 len : σ.length = X.N.length
section
variable {X : Cx} {H' : Hp}
theorem Cx.Ok.nofr (ok : X.Ok) {o : Obj} (e : X.base.get? b = some o) : b ∉ X.fs := fun hb => by
 have := (ok.funs.mem hb).1;rw [e] at this; cases this
theorem Inv.bs (I : Inv X pins σ H s) : ∀ b o, X.base.get? b = some o → s.heap.get? b = some o ∧ H b = none := fun b o e =>
 ⟨I.base.keep b o (I.ok.bs b o e).1 (I.ok.bs b o e).2 (I.ok.nofr e) (I.ok.noex b o e), I.base.free b o (I.ok.bs b o e).1 (I.ok.bs b o e).2 (I.ok.noex b o e)⟩
theorem Inv.bk (I : Inv X pins σ H s) : ∀ b o, X.base.get? b = some o → s.heap.get? b = some o := fun b o e => (I.bs b o e).1
theorem Inv.mod (I : Inv X pins σ H s) : Mod X.K X.mg X.base := I.ok.mod
theorem Inv.kIn (I : Inv X pins σ H s) : X.K.In s.heap := I.ok.mod.kin.keeps I.bk
theorem Inv.lt (I : Inv X pins σ H s) : X.env.locals < s.heap.objs.size := let ⟨_, hn, _⟩ := I.loc; hn.lt
theorem Inv.sz (I : Inv X pins σ H s) : X.s₀.heap.objs.size ≤ s.heap.objs.size := ay I.ok.above (Nat.le_of_lt I.lt)
theorem Inv.nofs (I : Inv X pins σ H s) (h : s.heap.objs.size ≤ a) : a ∉ X.fs := fun hb => by
 obtain ⟨_, o, ho, _⟩ := I.ok.funs.mem hb;exact absurd (bg (ac ho) (ay I.sz h)) (c6 _)
theorem Inv.cne (I : Inv X pins σ H s) : ∀ x c, X.env.cells.lookup x = some c → c ≠ X.env.locals := fun x c e z => by
 obtain ⟨v, o, ho, hd⟩ := I.cell x c e;obtain ⟨m, ⟨o', es, ep, ho', hd', _⟩, _⟩ := I.loc;rw [z, ho'] at ho; cases ho; rw [hd'] at hd; cases hd
theorem Inv.funs (I : Inv X pins σ H s) : s.heap.FunFrames X.base X.outer := by
 have all : ∀ (l : List Env), (∀ b ∈ frs l, b ∈ X.fs) → X.s₀.heap.FunFrames X.base l → s.heap.FunFrames X.base l := by
  intro l;induction l with
  | nil => intro _ _; trivial
  | cons env r ih =>
    intro hs hl;obtain ⟨hk, ⟨L, o, hf, hn, ho, hd⟩, hr⟩ := hl;have hL : L ∈ X.fs := hs L (by unfold frs; rw [List.filterMap_cons, hf]; exact be);obtain ⟨sl, e⟩ := I.base.slot L o ho (I.ok.frf L hL) hL fun z => I.ok.exfs L z hL;exact ⟨hk, ⟨L, _, hf, hn, e, hd⟩, ih (fun b hb => hs b (by unfold frs; rw [List.filterMap_cons, hf]; exact bn _ hb)) hr⟩
 exact all X.outer (fun _ hb => hb) I.ok.funs
theorem Inv.stack (I : Inv X pins σ H s) : s.heap.FunFrames X.base X.stack := by
 rcases I.ok.stk with e | ⟨e, hf⟩
 · rw [e]; exact I.funs
 · rw [e];obtain ⟨m, hn, _⟩ := I.loc;refine .cons (by rw [I.ok.kind]; decide) hf hn ?_ I.funs;exact Heap.get?_none_of_le (ay I.ok.bsz I.ok.above)
theorem Inv.stkSub (I : Inv X pins σ H s) : ∀ b ∈ frs X.stack, b ∈ X.env.locals :: X.fs := fun b hb => by
 rcases I.ok.stk with e | ⟨e, hf⟩
 · rw [e] at hb; exact bn _ hb
 · rw [e] at hb;unfold frs at hb;rw [List.filterMap_cons, hf] at hb;exact hb
theorem Inv.stkFree (I : Inv X pins σ H s) : ∀ b ∈ frs X.stack, H b = none := fun b hb => by
 rcases aa.mp (I.stkSub b hb) with e | hb
 · rw [e]; exact I.free
 · obtain ⟨_, o, ho, _⟩ := I.ok.funs.mem hb;exact I.base.free b o ho (I.ok.frf b hb) fun z => I.ok.exfs b z hb
theorem Inv.step {g' : Array GenState} {d' : Drawn} (I : Inv X pins σ H s)
  (hch : ∀ b ∈ ch, (b ∈ X.ex ∨ X.s₀.heap.objs.size ≤ b) ∧ b ≠ X.env.locals ∧ (∀ x c, X.env.cells.lookup x = some c → c ≠ b) ∧ ∀ p ∈ X.pn ++ pins, p.1 ≠ b)
  (keep : ∀ b o, b ≠ X.env.locals → b ∉ X.fs → b ∉ ch → s.heap.get? b = some o → H b = none → h'.get? b = some o)
  (slot : ∀ b o, b ≠ X.env.locals → b ∈ X.fs → b ∉ ch → s.heap.get? b = some o → H b = none → ∃ sl, h'.get? b = some { o with slots := sl }) (free : ∀ b o, b ∉ ch → s.heap.get? b = some o → H b = none → H' b = none)
  (there : ∀ b o, b ∉ ch → s.heap.get? b = some o → ∃ o', h'.get? b = some o')
  (tups : ∀ b xs, H b = some (.tup xs) → H' b = some (.tup xs)) (frzs : ∀ b o u, H b = some (.frz o u) → H' b = some (.frz o u)) (tbls : ∀ b ps, H b = some (.tbl ps) → ∃ more, H' b = some (.tbl (ps ++ more)))
  (ns : ∀ m, s.heap.Ns X.env.locals m → h'.Ns X.env.locals m) (hok : HOk X.prog X.w H' h') (hg : AllBare g') :
  Inv X pins σ H' { s with heap := h', gens := g', drawn := d', toks := t' } := by
 have neL : ∀ b o, X.s₀.heap.get? b = some o → b ≠ X.env.locals := fun b o e => aw (bg (ac e) I.ok.above);have neC : ∀ b o, X.s₀.heap.get? b = some o → b ∉ X.ex → b ∉ ch := fun b o e hx hb => by
  rcases (hch b hb).1 with z | z
  · exact hx z
  · exact absurd (bg (ac e) z) (c6 _)
 have cellK : ∀ x c, X.env.cells.lookup x = some c → ∀ v, s.heap.IsCell c v → h'.IsCell c v := fun x c e v ⟨o, ho, hd⟩ => by
  have nch : c ∉ ch := fun z => (hch c z).2.2.1 x c e rfl;by_cases hc : c ∈ X.fs
  · obtain ⟨sl, q⟩ := slot c o (I.cne x c e) hc nch ho (I.freeC x c e);exact ⟨_, q, hd⟩
  · exact ⟨o, keep c o (I.cne x c e) hc nch ho (I.freeC x c e), hd⟩
 refine ⟨I.ok, I.os, hg, ⟨fun b o e n hb hx => ?_, fun b o e n hb hx => ?_, fun b o e n hx => ?_, fun b o e hx => ?_, fun b xs e => tups b xs (I.base.tups b xs e), fun b o xs e => frzs b o xs (I.base.frzs b o xs e), fun b ps e => ?_⟩, ?_, fun x c e => ?_, ?_, fun x c e => ?_, fun p hp => ?_, hok, I.len⟩
 · exact keep b o (neL b o e) hb (neC b o e hx) (I.base.keep b o e n hb hx) (I.base.free b o e n hx)
 · obtain ⟨sl, e1⟩ := I.base.slot b o e n hb hx;obtain ⟨sl', e2⟩ := slot b _ (neL b o e) hb (neC b o e hx) e1 (I.base.free b o e n hx);exact ⟨sl', e2⟩
 · obtain ⟨o', e1⟩ := I.base.there b o e hx;exact free b o' (neC b o e hx) e1 (I.base.free b o e n hx)
 · obtain ⟨o', e1⟩ := I.base.there b o e hx;exact there b o' (neC b o e hx) e1
 · obtain ⟨m1, e1⟩ := I.base.tbls b ps e;obtain ⟨m2, e2⟩ := tbls b _ e1;exact ⟨m1 ++ m2, by rw [e2, Array.append_assoc]⟩
 · obtain ⟨m, hn, hl⟩ := I.loc;refine ⟨m, ns m hn, fun i x v e1 e2 e3 => ?_⟩;obtain ⟨u, r, l⟩ := hl i x v e1 e2 e3;refine ⟨u, r, ?_⟩;rcases l with l | ⟨k, c, e, z⟩
   · exact .inl l
   · exact .inr ⟨k, c, e, cellK x c e _ z⟩
 · obtain ⟨v, z⟩ := I.cell x c e;exact ⟨v, cellK x c e v z⟩
 · obtain ⟨m, ⟨o, _, _, ho, _⟩, _⟩ := I.loc;exact free _ o (fun z => (hch _ z).2.1 rfl) ho I.free
 · obtain ⟨v, o, ho, hd⟩ := I.cell x c e;exact free c o (fun z => (hch c z).2.2.1 x c e rfl) ho (I.freeC x c e)
 · obtain ⟨e, n, ne, nf, d⟩ := I.pin p hp;have nch : p.1 ∉ ch := fun z => (hch p.1 z).2.2.2 p hp rfl;exact ⟨keep p.1 p.2 ne nf nch e n, free p.1 p.2 nch e n, ne, nf, d⟩
theorem Inv.un (I : Inv X pins σ H s) (u : Un X.fs [] H H' s.heap h') (hok : HOk X.prog X.w H' h') : Inv X pins σ H' { s with heap := h', toks := t' } := by
 obtain ⟨m, ⟨o, es, ep, ho, r⟩, _⟩ := id I.loc;obtain ⟨sl, hL⟩ := u.any ho I.free (by simp);exact I.step (g' := s.gens) (d' := s.drawn) (ch := []) (fun _ z => nomatch z) (fun b o _ hb _ e n => u.keep b o e n hb (by simp)) (fun b o _ hb _ e n => u.slot b o e n hb (by simp)) (fun b o _ e n => u.free b o e n (by simp)) (fun b o _ e => u.there b o e (by simp)) u.tups u.frzs u.tbls (fun m' hm => by
  obtain ⟨o', es', ep', ho', r'⟩ := hm;rw [ho] at ho'; cases ho';exact ⟨_, es', ep', hL, r'⟩) hok I.bare
theorem Inv.call {g' : Array GenState} {d' : Drawn} (I : Inv X pins σ H s) (u : Un (frs X.stack) ch H H' s.heap h') (hok : HOk X.prog X.w H' h') (hg : AllBare g')
  (hch : ∀ b ∈ ch, (b ∈ X.ex ∨ X.s₀.heap.objs.size ≤ b) ∧ b ≠ X.env.locals ∧ (∀ x c, X.env.cells.lookup x = some c → c ≠ b) ∧ ∀ p ∈ X.pn ++ pins, p.1 ≠ b) :
  Inv X pins σ H' { s with heap := h', gens := g', drawn := d', toks := t' } := by
 obtain ⟨m, ⟨o, es, ep, ho, r⟩, _⟩ := id I.loc;obtain ⟨sl, hL⟩ := u.any ho I.free fun z => (hch _ z).2.1 rfl;exact I.step (ch := ch) hch (fun b o hL hb hc e n => u.keep b o e n (fun z => (aa.mp (I.stkSub b z)).elim hL hb) hc) (fun b o _ _ hc e n => u.any e n hc) (fun b o hc e n => u.free b o e n hc) (fun b o hc e => u.there b o e hc) u.tups u.frzs u.tbls (fun m' hm => by
  obtain ⟨o', es', ep', ho', r'⟩ := hm;rw [ho] at ho'; cases ho';exact ⟨_, es', ep', hL, r'⟩) hok hg
theorem Inv.turned {it : Addr} (I : Inv X pins σ H s) (k : ∀ b o, b ≠ it → s.heap.get? b = some o → h'.get? b = some o) (hn : H it = none) (hL : it ≠ X.env.locals)
  (h1 : it ∈ X.ex ∨ X.s₀.heap.objs.size ≤ it) (h2 : ∀ x c, X.env.cells.lookup x = some c → c ≠ it) (h3 : ∀ p ∈ X.pn ++ pins, p.1 ≠ it) : Inv X pins σ H { s with heap := h', toks := t' } := by
 have nit : ∀ b u, H b = some u → b ≠ it := fun b u e z => by rw [z, hn] at e; cases e
 refine I.step (g' := s.gens) (d' := s.drawn) (ch := [it]) (fun b hb => ?_) (fun b o _ _ hc e _ => k b o (fun z => hc (by simp [z])) e) (fun b o _ _ hc e _ => ⟨o.slots, k b o (fun z => hc (by simp [z])) e⟩) (fun _ _ _ _ n => n)
  (fun b o hc e => ⟨o, k b o (fun z => hc (by simp [z])) e⟩) (fun _ _ e => e) (fun _ _ _ e => e) (fun b ps e => ⟨#[], by rw [e]; simp⟩) (fun m hm => ?_) (fun b u e => ?_) I.bare
 · have e : b = it := by simpa using hb
   subst e;exact ⟨h1, hL, h2, h3⟩
 · obtain ⟨o, es, ep, ho, r⟩ := hm;exact ⟨o, es, ep, k _ o (ae hL) ho, r⟩
 · refine (I.hok b u e).stay (fun c v hc q => k c v ?_ q) (fun _ q => q) fun _ _ q => q;rcases hc with z | z
   · rw [z]; exact nit b u e
   · exact nit c _ z
theorem Inv.tok (I : Inv X pins σ H s) (t : Nat) : Inv X pins σ H { s with toks := t } := I.un (h' := s.heap) (t' := t) Un.refl I.hok
theorem Inv.kept {t' : Nat} (I : Inv X pins σ H s) (k : ∀ b u, s.heap.get? b = some u → h'.get? b = some u) : Inv X pins σ H { s with heap := h', toks := t' } := I.un (Un.kept k) (I.hok.kept k)
theorem Inv.laid {a : Addr} {o : HO} {t' : Nat} (I : Inv X pins σ H s) (k : ∀ b u, s.heap.get? b = some u → h'.get? b = some u) (hp : s.heap.objs.size ≤ a) (new : xk X.prog X.w (upd H a o) h' a o) :
 Inv X pins σ (upd H a o) { s with heap := h', toks := t' } := I.un (Un.laid k hp (I.hok.fresh hp)) (I.hok.laid k hp new)
theorem Inv.write {x e : Addr} {o : HO} {t' : Nat} (I : Inv X pins σ H s) (mu : Mut (H x)) (he : e = x ∨ H e = some (.own x)) (k : ∀ b u, b ≠ e → s.heap.get? b = some u → h'.get? b = some u) (heo : ∃ u, h'.get? e = some u)
 (new : xk X.prog X.w (upd H x o) h' x o) : Inv X pins σ (upd H x o) { s with heap := h', toks := t' } := I.un (Un.write mu he k heo) (I.hok.write mu he k heo new)
theorem Inv.pins_of (I : Inv X pins σ H s) (h : ∀ p ∈ pins', s.heap.get? p.1 = some p.2 ∧ H p.1 = none ∧ p.1 ≠ X.env.locals ∧ p.1 ∉ X.fs ∧ ∀ v, p.2.data ≠ .cell v) : Inv X pins' σ H s :=
 ⟨I.ok, I.os, I.bare, I.base, I.loc, I.cell, I.free, I.freeC, fun p hp => (br.mp hp).elim (fun z => I.pin p (cu _ z)) (h p), I.hok, I.len⟩
theorem zam (hN : N.Nodup) {j : Nat} (a : N[i]? = some x) (b : N[j]? = some x) : i = j := by
 obtain ⟨h1, e1⟩ := bh.mp a;obtain ⟨h2, e2⟩ := bh.mp b;exact (List.getElem_inj hN).mp (e1.trans e2.symm)
theorem V7 {M : Model} (I : Inv X pins σ H s) (hN : X.N.Nodup) (hi : X.N[i]? = some x) (hx : Loc X.env.scope x) (r : yw v u)
  (h : ∀ s', Inv X pins (σ.set i (some v)) H s' → (∃ a, Heap.SameBut a s.heap s'.heap ∧ (a = X.env.locals ∨ X.env.cells.lookup x = some a)) → Q () s') (hf : X.fn x = true ∨ X.env.scope.names.lookup x = some .local := by first | exact .inl rfl | exact .inr rfl | assumption) : wpAny M A (storeName X.env x u) Q E s := by
 obtain ⟨m, hn, hl⟩ := id I.loc;have hcls : (X.env.scope.kind == .class || (X.env.scope.kind == .module && X.env.locals != X.env.globals)) = false := by rw [I.ok.kind]; rfl
 have hiσ : i < σ.length := by rw [I.len]; exact (bh.mp hi).1
 have cne := I.cne;have tracked : ∀ {a : Addr} {h' : Heap}, (∃ o, s.heap.get? a = some o ∧ H a = none) → Heap.SameBut a s.heap h' → HOk X.prog X.w H h' := fun {a h'} ha hs b ob e => by
  obtain ⟨_, _, hfree⟩ := ha;refine (I.hok b ob e).stay (fun c w' hc q => (hs.2 c ?_).trans q) (fun _ q => q) fun _ _ q => q;rintro rfl;rcases hc with rfl | hc
  · rw [hfree] at e; cases e
  · rw [hfree] at hc; cases hc
 rcases hx with hk | hk
 · refine wpAny_storeName_local hk hn (fun h' hn' hs => ?_) hcls;obtain ⟨oL, _, _, hoL, _⟩ := id hn;refine h _ ⟨I.ok, I.os, I.bare, ⟨fun b o e n hb hx => ?_, fun b o e n hb hx => ?_, I.base.free, fun b o e hx => ?_, I.base.tups, I.base.frzs, I.base.tbls⟩, ⟨_, hn', fun j y v' e1 e2 e3 => ?_⟩, fun y c e => ?_, I.free, I.freeC, fun p hp => ?_, tracked ⟨oL, hoL, I.free⟩ hs, by simpa using I.len⟩ ⟨_, hs, .inl rfl⟩
   · exact (hs.2 b (aw (bg (ac e) I.ok.above))).trans (I.base.keep b o e n hb hx)
   · obtain ⟨sl, e1⟩ := I.base.slot b o e n hb hx;exact ⟨sl, (hs.2 b (aw (bg (ac e) I.ok.above))).trans e1⟩
   · obtain ⟨o', e1⟩ := I.base.there b o e hx;exact ⟨o', (hs.2 b (aw (bg (ac e) I.ok.above))).trans e1⟩
   · by_cases hj : j = i
     · subst hj;rw [hi] at e1; cases e1;rw [List.getElem?_set_self hiσ] at e2;cases e2;exact ⟨u, r, .inl ⟨hk, by simp⟩⟩
     · rw [List.getElem?_set_ne (ae hj)] at e2;obtain ⟨u', r', q⟩ := hl j y v' e1 e2 e3;refine ⟨u', r', ?_⟩;rcases q with ⟨k, e⟩ | ⟨k, c, e, z⟩
       · refine .inl ⟨k, ?_⟩;have : y ≠ x := fun e => hj (zam hN e1 (e ▸ hi));simp [this, e]
       · exact .inr ⟨k, c, e, z.sameBut hs (cne y c e)⟩
   · obtain ⟨w', z⟩ := I.cell y c e;exact ⟨w', z.sameBut hs (cne y c e)⟩
   · obtain ⟨e, n, ne, nf, d⟩ := I.pin p hp;exact ⟨(hs.2 p.1 ne).trans e, n, ne, nf, d⟩
 · have hfn : X.fn x = true := by
    rcases hf with z | z
    · exact z
    · rw [z] at hk; cases hk
   obtain ⟨c, hc⟩ := I.ok.has x (.inl hk);obtain ⟨w', z⟩ := I.cell x c hc;refine wpAny_storeName_cell I.ok.kind hk hc z (fun h' hc' hs => ?_);obtain ⟨oc, hoc, hocd⟩ := id z;refine h { s with heap := h' } ⟨I.ok, I.os, I.bare, ⟨fun b o e n hb hx => ?_, fun b o e n hb hx => ?_, I.base.free, fun b o e hx => ?_, I.base.tups, I.base.frzs, I.base.tbls⟩, ⟨m, hn.sameBut hs (ae (cne x c hc)), fun j y v' e1 e2 e3 => ?_⟩, fun y c' e => ?_, I.free, I.freeC, fun p hp => ?_, tracked ⟨oc, hoc, I.freeC x c hc⟩ hs, by simpa using I.len⟩ ⟨c, hs, .inr hc⟩
   · exact (hs.2 b (aw (bg (ac e) (I.ok.cab x c hfn hc)))).trans (I.base.keep b o e n hb hx)
   · obtain ⟨sl, e1⟩ := I.base.slot b o e n hb hx;exact ⟨sl, (hs.2 b (aw (bg (ac e) (I.ok.cab x c hfn hc)))).trans e1⟩
   · obtain ⟨o', e1⟩ := I.base.there b o e hx;exact ⟨o', (hs.2 b (aw (bg (ac e) (I.ok.cab x c hfn hc)))).trans e1⟩
   · by_cases hj : j = i
     · subst hj;rw [hi] at e1; cases e1;rw [List.getElem?_set_self hiσ] at e2;cases e2;exact ⟨u, r, .inr ⟨.inl hk, c, hc, hc'⟩⟩
     · rw [List.getElem?_set_ne (ae hj)] at e2;obtain ⟨u', r', q⟩ := hl j y v' e1 e2 e3;refine ⟨u', r', ?_⟩;rcases q with q | ⟨k, c', e, z'⟩
       · exact .inl q
       · refine .inr ⟨k, c', e, z'.sameBut hs ?_⟩;rintro rfl;exact hj (zam hN e1 (I.ok.inj _ _ _ e hc ▸ hi))
   · by_cases hcc : c' = c
     · subst hcc; exact ⟨_, hc'⟩
     · obtain ⟨w2, z2⟩ := I.cell y c' e;exact ⟨w2, z2.sameBut hs hcc⟩
   · obtain ⟨e, n, ne, nf, d⟩ := I.pin p hp;refine ⟨(hs.2 p.1 ?_).trans e, n, ne, nf, d⟩;intro q;rw [q, hoc] at e;have q' : oc = p.2 := Option.some.inj e;exact d w' (by rw [← q']; exact hocd)
theorem Ko {M : Model} (I : Inv X pins σ H s) (hN : X.N.Nodup) (hi : X.N[i]? = some x) (hx : Loc X.env.scope x) (r : yw v u)
  (h : ∀ s', Inv X pins (σ.set i (some v)) H s' → Q () s') (hf : X.fn x = true ∨ X.env.scope.names.lookup x = some .local := by first | exact .inl rfl | exact .inr rfl | assumption) : wpAny M A (storeName X.env x u) Q E s :=
 V7 I hN hi hx r (fun s' I' _ => h s' I') hf
theorem Inv.call' {s' : Shared} (I : Inv X pins σ H s) (ho : s'.os = s.os) (u : Un (frs X.stack) ch H H' s.heap s'.heap) (hok : HOk X.prog X.w H' s'.heap) (hg : AllBare s'.gens)
  (hch : ∀ b ∈ ch, (b ∈ X.ex ∨ X.s₀.heap.objs.size ≤ b) ∧ b ≠ X.env.locals ∧ (∀ x c, X.env.cells.lookup x = some c → c ≠ b) ∧ ∀ p ∈ X.pn ++ pins, p.1 ≠ b) : Inv X pins σ H' s' := by
 obtain ⟨h', g', d', t', o'⟩ := s';have e : o' = s.os := ho;subst e;exact I.call (g' := g') (t' := t') (d' := d') u hok hg hch
end
abbrev XK := Value → Option Addr → Hp → Prop
abbrev St := List (Option V)
abbrev VK := V → Hp → Prop
abbrev TE := St → Hp → VK → Prop
abbrev TT := St → Hp → (Bool → Hp → Prop) → Prop
abbrev TA := St → Hp → (List V → Hp → Prop) → Prop
structure Ends where
 nx : St → Hp → Prop
 rt : VK
 bk : St → Hp → Prop := fun _ _ => False
 ct : St → Hp → Prop := fun _ _ => False
variable {X : Cx} {c e : Expr} {pos : Pos} {K : PySem.W.Frag} {σ : St} {Q : Value → Shared → Prop}
abbrev TS := Ends → St → Hp → Prop
noncomputable def EP (X : Cx) (pins : List (Addr × Obj)) (σ : St) (Q : VK) (u : Value) (s' : Shared) : Prop := ∃ v H', Inv X pins σ H' s' ∧ yw v u ∧ Q v H'
noncomputable def TP (X : Cx) (pins : List (Addr × Obj)) (σ : St) (Q : Bool → Hp → Prop) (b : Bool) (s' : Shared) : Prop := ∃ H', Inv X pins σ H' s' ∧ Q b H'
noncomputable def AP (X : Cx) (pins : List (Addr × Obj)) (σ : St) (Q : List V → Hp → Prop) (us : List Value) (s' : Shared) : Prop := ∃ vs H', Inv X pins σ H' s' ∧ ym vs us ∧ Q vs H'
noncomputable def SP (X : Cx) (pins : List (Addr × Obj)) (D : Ends) (f : Flow) (s' : Shared) : Prop :=
 match f with
 | .next => ∃ σ' H', Inv X pins σ' H' s' ∧ D.nx σ' H'
 | .brk => ∃ σ' H', Inv X pins σ' H' s' ∧ D.bk σ' H'
 | .cont => ∃ σ' H', Inv X pins σ' H' s' ∧ D.ct σ' H'
 | .ret u => ∃ v σ' H', Inv X pins σ' H' s' ∧ yw v u ∧ D.rt v H'
noncomputable def PE (X : Cx) (e : Expr) (t : TE) : Prop :=
 ∀ (pins : List (Addr × Obj)) (s : Shared) (σ : St) (H : Hp) (Q : VK), Inv X pins σ H s → t σ H Q → wpAny (model X.prog X.w) X.A (eval e X.env) (EP X pins σ Q) X.xe s
noncomputable def PT (X : Cx) (e : Expr) (t : TT) : Prop :=
 ∀ (pins : List (Addr × Obj)) (s : Shared) (σ : St) (H : Hp) (Q : Bool → Hp → Prop), Inv X pins σ H s → t σ H Q → wpAny (model X.prog X.w) X.A (isTrue e X.env (eval e X.env)) (TP X pins σ Q) X.xe s
noncomputable def PW (X : Cx) (e : Expr) (t : TT) : Prop :=
 ∀ (whole : Sem Value) (pins : List (Addr × Obj)) (s : Shared) (σ : St) (H : Hp) (Q : Bool → Hp → Prop), Inv X pins σ H s → t σ H Q → wpAny (model X.prog X.w) X.A (isTrue e X.env whole) (TP X pins σ Q) X.xe s
theorem PW.pt {t : TT} (h : PW X e t) : PT X e t := h _
noncomputable def PA (X : Cx) (es : List Expr) (t : TA) : Prop :=
 ∀ (pos : Pos) (pins : List (Addr × Obj)) (s : Shared) (σ : St) (H : Hp) (Q : List V → Hp → Prop), Inv X pins σ H s → t σ H Q → wpAny (model X.prog X.w) X.A (spliced (backTo pos (starEach es X.env))) (AP X pins σ Q) X.xe s
noncomputable def PS (X : Cx) (st : Stmt) (t : TS) : Prop :=
 ∀ (pins : List (Addr × Obj)) (s : Shared) (σ : St) (H : Hp) (D : Ends), Inv X pins σ H s → t D σ H → wpAny (model X.prog X.w) X.A (exec st X.env) (SP X pins D) X.xe s
noncomputable def PSs (X : Cx) (st : List Stmt) (t : TS) : Prop :=
 ∀ (pins : List (Addr × Obj)) (s : Shared) (σ : St) (H : Hp) (D : Ends), Inv X pins σ H s → t D σ H → wpAny (model X.prog X.w) X.A (execs st X.env) (SP X pins D) X.xe s
theorem thn {α : Type} {t : Sem α} {Q Q' : α → Shared → Prop} {M : Model} (h : wpAny M A t Q E s) (hQ : ∀ a s, Q a s → Q' a s) : wpAny M A t Q' E s := cj h hQ fun _ _ x => x
section
noncomputable def Zo (i : Nat) : TE := fun σ H Q => ∃ v, σ[i]? = some (some v) ∧ Q v H
noncomputable def tC (v : V) : TE := fun _ H Q => Q v H
theorem zgn (hN : X.N[i]? = some x) (hv : Vis X.env.scope x) (hd : (x == ("__debug__" : Str)) = false := by decide) (hcd : (x == ("__classdict__" : Str)) = false := by decide) : PE X (.Name x pos) (Zo i) := by
 intro pins s σ H Q I h;obtain ⟨v, e, h⟩ := h;obtain ⟨m, hn, hl⟩ := I.loc;obtain ⟨u, r, l⟩ := hl i x v hN e hv;have fin : EP X pins σ Q u s := ⟨v, H, I, r, h⟩
 rcases l with ⟨hk, hm⟩ | ⟨hk, c, hc, hcell⟩
 · exact wpAny_Name (wpAny_loadName_local I.ok.kind hk hn hm fin) hd
 · rcases hk with hk | hk
   · exact wpAny_Name (wpAny_loadName_cell I.ok.kind hk hc hcell fin) hd
   · exact wpAny_Name (wpAny_loadName_free I.ok.kind hk hc hcell fin hcd) hd
theorem zh {i j pos} : PE X (.Constant (.int i) j pos) (tC (.int i)) := fun _ _ _ H _ I h => wpAny_Constant_int ⟨.int i, H, I.tok _, ⟨_, rfl⟩, h⟩
theorem xj {b j pos} : PE X (.Constant (.bool b) j pos) (tC (.bl b)) := fun _ _ _ H _ I h => Constant_bool ⟨.bl b, H, I, rfl, h⟩
theorem wk {j pos} : PE X (.Constant .none j pos) (tC .non) := fun _ _ _ H _ I h => Constant_none ⟨.non, H, I, rfl, h⟩
theorem yi {x j pos} : PE X (.Constant (.str x) j pos) (tC (.str x)) := fun _ _ _ H _ I h => Calls.Constant_str ⟨.str x, H, I.tok _, ⟨_, rfl⟩, h⟩
noncomputable def Gl (X : Cx) (x : Str) : Prop := X.env.kindOf x = some .globalImplicit
theorem J6 (I : Inv X pins σ H s) (hg : Gl X x) (hm : X.mg x = some u) (h : Q u s)
  (hd : (x == ("__debug__" : Str)) = false := by decide) : wpAny (model X.prog X.w) X.A (eval (.Name x pos) X.env) Q E s :=
 Calls.Name_function_global I.ok.kind hg (Calls.loadGlobal_global (by rw [I.ok.glob]; exact I.mod.glob.keeps I.bk) hm h) hd
theorem Zy (I : Inv X pins σ H s) (hg : Gl X x) (hm : X.mg x = none) (hv : bootBuiltins x = some u) (h : Q u s)
  (hn : x ≠ "__name__" := by decide) (hd : (x == ("__debug__" : Str)) = false := by decide) : wpAny (model X.prog X.w) X.A (eval (.Name x pos) X.env) Q E s := by
 obtain ⟨mb, h1, h2⟩ := I.mod.blt;exact Calls.Name_function_global I.ok.kind hg (Calls.loadGlobal_builtin (by rw [I.ok.glob]; exact I.mod.glob.keeps I.bk) hm (by rw [I.ok.blt]; exact h1.keeps I.bk) ((h2 x hn).trans hv) h) hd
theorem zjn (hg : Gl X x) (hm : X.mg x = some u) (r : yw v u) (hd : (x == ("__debug__" : Str)) = false := by decide) : PE X (.Name x pos) (tC v) :=
 fun _ _ _ H _ I h => J6 I hg hm ⟨v, H, I, r, h⟩ hd
theorem zjp (hg : Gl X x) (hm : X.mg x = none) (hv : bootBuiltins x = some u) (r : yw v u) (hn : x ≠ "__name__" := by decide) (hd : (x == ("__debug__" : Str)) = false := by decide) : PE X (.Name x pos) (tC v) :=
 fun _ _ _ H _ I h => Zy I hg hm hv ⟨v, H, I, r, h⟩ hn hd
variable {a b : Expr} {ta tb : TE}
noncomputable def PC (X : Cx) (op : CmpOp) (a b : Expr) (t : TE) : Prop :=
 ∀ (pins : List (Addr × Obj)) (s : Shared) (σ : St) (H : Hp) (Q : VK), Inv X pins σ H s → t σ H Q →
   wpAny (model X.prog X.w) X.A (eval a X.env) (fun v s₁ => wpAny (model X.prog X.w) X.A (eval b X.env) (fun u s₂ => wpAny (model X.prog X.w) X.A (compareOp op v u) (EP X pins σ Q) X.xe s₂) X.xe s₁) X.xe s
theorem zan (b : Expr) {op : CmpOp} (h : op ≠ .In) (h2 : op ≠ .NotIn) : behindInMarks op b = false := by
 have e1 : (op == CmpOp.In) = false := by cases op <;> first | rfl | exact absurd rfl h
 have e2 : (op == CmpOp.NotIn) = false := by cases op <;> first | rfl | exact absurd rfl h2
 cases b <;> simp [behindInMarks, e1, e2]
noncomputable def tB (t : TE) : TT := fun σ H Q => t σ H fun x H1 => ∃ c, x = .bl c ∧ Q c H1
theorem zgq {op : CmpOp} {t : TE} (h : PC X op a b t) (h1 : behindInMarks op b = false := by first | exact zan _ (by decide) (by decide) | rfl) : PE X (.Compare a [op] [b] pos) t := fun pins s σ H Q I hw => wpAny_Compare1 (h pins s σ H Q I hw) h1
theorem zb1 {op : CmpOp} {t : TE} (h : PC X op a b t) (h1 : behindInMarks op b = false := by first | exact zan _ (by decide) (by decide) | rfl) : PT X (.Compare a [op] [b] pos) (tB t) := by
 intro pins s σ H Q I hw;refine wpAny_isTrue_Compare1 (thn (h pins s σ H _ I hw) fun v s1 h1 => thn h1 fun u s2 h2 => thn h2 fun c s3 ⟨x, H1, I1, r1, q1⟩ => ?_) h1;obtain ⟨d, rfl, q⟩ := q1;cases r1;exact wpAny_truthy_bool ⟨H1, I1, q⟩
theorem yh {t : TE} (h : PE X e t) (he : ∀ whole, isTrue e X.env whole = (do let v ← whole; standAt e.pos; holding [v] (truthy v)) := by intro _; rfl) : PT X e (tB t) := by
 intro pins s σ H Q I hw;refine isTrue_plain (thn (h pins s σ H _ I hw) fun v s1 ⟨x, H1, I1, r1, q1⟩ => ?_) (he _);obtain ⟨d, rfl, q⟩ := q1;cases r1;exact wpAny_truthy_bool ⟨H1, I1, q⟩
variable {tA tB' : TT} {we : List Expr}
noncomputable def zpv (t u : TT) : TT := fun σ H Q => t σ H fun c H1 => if c = true then u σ H1 Q else Q false H1
noncomputable def tOr (t u : TT) : TT := fun σ H Q => t σ H fun c H1 => if c = true then Q true H1 else u σ H1 Q
noncomputable def zpq (t : TT) : TT := fun σ H Q => t σ H fun c H1 => Q (!c) H1
theorem j6 (ha : PT X a tA) : PW X (.BoolOp .And [a] pos) tA := by
 intro wh pins s σ H Q I h;refine isTrue_and (thn (ha pins s σ H Q I h) fun c s1 e => ?_);cases c with
 | true => exact isTrue_and_nil e
 | false => exact e
theorem wf (ha : PT X a tA) : PW X (.BoolOp .Or [a] pos) tA := by
 intro wh pins s σ H Q I h;refine isTrue_or (thn (ha pins s σ H Q I h) fun c s1 e => ?_);cases c with
 | false => exact isTrue_or_nil e
 | true => exact e
theorem Zu (ha : PT X a tA) (hb : PW X (.BoolOp .And (b :: we) pos) tB') : PW X (.BoolOp .And (a :: b :: we) pos) (zpv tA tB') := by
 intro wh pins s σ H Q I h;refine isTrue_and (thn (ha pins s σ H _ I h) fun c s1 ⟨H1, I1, q1⟩ => ?_);cases c with
 | true => exact hb wh pins s1 σ H1 Q I1 q1
 | false => exact ⟨H1, I1, q1⟩
theorem wj (ha : PT X a tA) (hb : PW X (.BoolOp .Or (b :: we) pos) tB') : PW X (.BoolOp .Or (a :: b :: we) pos) (tOr tA tB') := by
 intro wh pins s σ H Q I h;refine isTrue_or (thn (ha pins s σ H _ I h) fun c s1 ⟨H1, I1, q1⟩ => ?_);cases c with
 | true => exact ⟨H1, I1, q1⟩
 | false => exact hb wh pins s1 σ H1 Q I1 q1
theorem yu (ha : PT X a tA) : PT X (.UnaryOp .Not a pos) (zpq tA) := by
 intro pins s σ H Q I h;exact isTrue_not (ha pins s σ H (fun c H1 => Q (!c) H1) I h)
noncomputable def zk2 (ta tb : TE) : TE := fun σ H Q => ta σ H fun x H1 => ∃ c, x = .bl c ∧ if c = true then tb σ H1 Q else Q (.bl false) H1
noncomputable def zpp (ta tb : TE) : TE := fun σ H Q => ta σ H fun x H1 => ∃ c, x = .bl c ∧ if c = true then Q (.bl true) H1 else tb σ H1 Q
noncomputable def zk0 (ta : TE) : TE := fun σ H Q => ta σ H fun x H1 => ∃ c, x = .bl c ∧ Q (.bl (!c)) H1
theorem v4 {op} {t : TE} (h : PE X a t) : PE X (.BoolOp op [a] pos) t := fun pins s σ H Q I hw => BoolOp_one (h pins s σ H Q I hw)
theorem qa (ha : PE X a ta) (hb : PE X (.BoolOp .And (b :: we) pos) tb) : PE X (.BoolOp .And (a :: b :: we) pos) (zk2 ta tb) := by
 intro pins s σ H Q I h;refine BoolOp_and (thn (ha pins s σ H _ I h) fun v s1 ⟨x, H1, I1, r1, q1⟩ => ?_);obtain ⟨c, rfl, q1⟩ := q1;cases r1;refine wpAny_truthy_bool ?_;cases c with
 | true => exact hb pins s1 σ H1 Q I1 q1
 | false => exact ⟨.bl false, H1, I1, rfl, q1⟩
theorem zos (ha : PE X a ta) (hb : PE X (.BoolOp .Or (b :: we) pos) tb) : PE X (.BoolOp .Or (a :: b :: we) pos) (zpp ta tb) := by
 intro pins s σ H Q I h;refine BoolOp_or (thn (ha pins s σ H _ I h) fun v s1 ⟨x, H1, I1, r1, q1⟩ => ?_);obtain ⟨c, rfl, q1⟩ := q1;cases r1;refine wpAny_truthy_bool ?_;cases c with
 | false => exact hb pins s1 σ H1 Q I1 q1
 | true => exact ⟨.bl true, H1, I1, rfl, q1⟩
theorem Jo (ha : PE X a ta) : PE X (.UnaryOp .Not a pos) (zk0 ta) := by
 intro pins s σ H Q I h;refine UnaryOp_ (thn (ha pins s σ H _ I h) fun v s1 ⟨x, H1, I1, r1, q1⟩ => ?_);obtain ⟨c, rfl, q1⟩ := q1;cases r1;exact not_of (wpAny_truthy_bool ⟨.bl (!c), H1, I1, rfl, q1⟩)
noncomputable def tIf (t : TT) (ta tb : TE) : TE := fun σ H Q => t σ H fun c H1 => if c = true then ta σ H1 Q else tb σ H1 Q
theorem zgp (hc : PT X c tA) (ha : PE X a ta) (hb : PE X b tb) : PE X (.IfExp c a b pos) (tIf tA ta tb) := by
 intro pins s σ H Q I h;refine wpAny_IfExp (thn (hc pins s σ H _ I h) fun d s1 ⟨H1, I1, q1⟩ => ?_);cases d with
 | true => exact ha pins s1 σ H1 Q I1 q1
 | false => exact hb pins s1 σ H1 Q I1 q1
end
noncomputable def SqL (K : PySem.W.Frag) (H : Hp) (a : Addr) (xs : List V) : Prop :=
 Rd H a (.lst xs) ∨
  ∃ (o : Obj) (its : Array Value) (n : Nat), K.lookup a = some o ∧ o.cls = .type "list" ∧ o.dict = none ∧ o.data = .seq its n ∧ its.size ≤ sizeLine ∧ ym xs its.toList
noncomputable def SqT (K : PySem.W.Frag) (H : Hp) (a : Addr) (xs : List V) : Prop :=
 Rd H a (.tup xs) ∨
  ∃ (o : Obj) (its : Array Value) (n : Nat), K.lookup a = some o ∧ o.cls = .type "tuple" ∧ o.data = .seq its n ∧ its.size ≤ sizeLine ∧ ym xs its.toList
noncomputable def zqa : Value → Option V
 | .none => some .non
 | .bool b => some (.bl b)
 | .int i _ => some (.int i)
 | .str x _ => some (.str x)
 | .bytes b _ => some (.byt b)
 | .float b _ => some (.flt b)
 | .ref a => some (.ref a)
 | .type n => some (.ty n)
 | _ => none
theorem yw.abs {x : V} (r : yw x u) : zqa u = some x := by
 cases x with
 | non => cases r; rfl
 | bl _ => cases r; rfl
 | int _ => obtain ⟨t, rfl⟩ := r; rfl
 | str _ => obtain ⟨t, rfl⟩ := r; rfl
 | byt _ => obtain ⟨t, rfl⟩ := r; rfl
 | flt _ => obtain ⟨t, rfl⟩ := r; rfl
 | ref _ => cases r; rfl
 | ty _ => cases r; rfl
theorem yw.inj {x y : V} {u : Value} (r : yw x u) (q : yw y u) : x = y := Option.some.inj (r.abs.symm.trans q.abs)
theorem ym.inj : ∀ {xs ys : List V} {us : List Value}, ym xs us → ym ys us → xs = ys
 | _, _, _, .nil, .nil => rfl
 | _, _, _, .cons r t, .cons r' t' => by rw [r.inj r', ym.inj t t']
section
variable {xs ys : List V}
theorem SqL.of (h : H a = some (.lst xs)) : SqL K H a xs := .inl (.inl h)
theorem SqT.of (h : H a = some (.tup xs)) : SqT K H a xs := .inl (.inl h)
theorem Inv.list (I : Inv X pins σ H s) (h : SqL X.K H a xs) : ∃ its : List Value, ym xs its ∧ PlainL s.heap a its.toArray ∧ xs.length ≤ sizeLine := by
 rcases h with h | ⟨o, its, n, hk, hc, hd, hs, hz, r⟩
 · obtain ⟨z, its, n, r, e⟩ := h.ok I.hok;exact ⟨its, r, ⟨_, n, e, rfl, rfl, rfl⟩, z⟩
 · refine ⟨its.toList, r, ⟨o, n, I.kIn a o hk, hc, hd, by simpa using hs⟩, ?_⟩;have e := r.length;simp only [Array.length_toList] at e;omega
theorem Inv.tuple (I : Inv X pins σ H s) (h : SqT X.K H a xs) : ∃ its : List Value, ym xs its ∧ IsTup s.heap a its.toArray ∧ xs.length ≤ sizeLine := by
 rcases h with h | ⟨o, its, n, hk, hc, hs, hz, r⟩
 · obtain ⟨z, its, r, p, _⟩ := h.ok I.hok;exact ⟨its, r, p, z⟩
 · refine ⟨its.toList, r, ⟨o, I.kIn a o hk, hc, n, by simpa using hs⟩, ?_⟩;have e := r.length;simp only [Array.length_toList] at e;omega
theorem Inv.list_inj (I : Inv X pins σ H s) (h : SqL X.K H a xs) (h' : SqL X.K H a ys) : xs = ys := by
 obtain ⟨its, r, ⟨o, n, e, _, _, d⟩, _⟩ := I.list h;obtain ⟨its', r', ⟨o', n', e', _, _, d'⟩, _⟩ := I.list h';rw [e] at e'; cases e';rw [d] at d';injection d' with d1 _;have : its = its' := by simpa using congrArg Array.toList d1
 subst this;exact r.inj r'
theorem Inv.tuple_inj (I : Inv X pins σ H s) (h : SqT X.K H a xs) (h' : SqT X.K H a ys) : xs = ys := by
 obtain ⟨its, r, ⟨o, e, _, n, d⟩, _⟩ := I.tuple h;obtain ⟨its', r', ⟨o', e', _, n', d'⟩, _⟩ := I.tuple h';rw [e] at e'; cases e';rw [d] at d';injection d' with d1 _;have : its = its' := by simpa using congrArg Array.toList d1
 subst this;exact r.inj r'
end
abbrev Cx.wish (X : Cx) (E : Value → Shared → Prop) : Cx := { X with xe := E }
abbrev Cx.nox (X : Cx) : Cx := X.wish fun _ _ => False
theorem Cx.Ok.wish {X : Cx} (ok : X.Ok) (E : Value → Shared → Prop) : (X.wish E).Ok :=
 ⟨ok.mod, ok.kind, ok.glob, ok.blt, ok.above, ok.inj, ok.has, ok.cab, ok.hd, ok.frames, ok.stk, ok.exf, ok.bs, ok.bsz, ok.noex, ok.exfs, ok.funs, ok.frf⟩
theorem Cx.Ok.unwish (ok : (X.wish E).Ok) : X.Ok :=
 ⟨ok.mod, ok.kind, ok.glob, ok.blt, ok.above, ok.inj, ok.has, ok.cab, ok.hd, ok.frames, ok.stk, ok.exf, ok.bs, ok.bsz, ok.noex, ok.exfs, ok.funs, ok.frf⟩
section
theorem Inv.wish (I : Inv X pins σ H s) (E : Value → Shared → Prop) : Inv (X.wish E) pins σ H s := ⟨I.ok.wish E, I.os, I.bare, I.base, I.loc, I.cell, I.free, I.freeC, I.pin, I.hok, I.len⟩
theorem Inv.unwish (I : Inv (X.wish E) pins σ H s) : Inv X pins σ H s := ⟨I.ok.unwish, I.os, I.bare, I.base, I.loc, I.cell, I.free, I.freeC, I.pin, I.hok, I.len⟩
theorem SP.unwish {D : Ends} {f : Flow} {s' : Shared} (h : SP (X.wish E) pins D f s') : SP X pins D f s' := by
 cases f with
 | next => obtain ⟨σ', H', I, q⟩ := h; exact ⟨σ', H', I.unwish, q⟩
 | brk => obtain ⟨σ', H', I, q⟩ := h; exact ⟨σ', H', I.unwish, q⟩
 | cont => obtain ⟨σ', H', I, q⟩ := h; exact ⟨σ', H', I.unwish, q⟩
 | ret u => obtain ⟨v, σ', H', I, r, q⟩ := h; exact ⟨v, σ', H', I.unwish, r, q⟩
theorem PSs.nox {st : List Stmt} {t : TS} (h : PSs X.nox st t) : PSs X st t := fun pins s σ H D I hw =>
 cj (h pins s σ H D (I.wish _) hw) (fun _ _ q => q.unwish) fun _ _ z => False.elim z
end
section
variable {st : Stmt} {we : List Stmt} {t u : TS} {te : TE}
noncomputable def kj : TS := fun D σ H => D.nx σ H
noncomputable def Xu (t u : TS) : TS := fun D σ H => t { D with nx := u D } σ H
theorem zr : PSs X [] kj := fun _ _ σ H _ I h => wpAny_execs_nil ⟨σ, H, I, h⟩
theorem ze (h1 : PS X st t) (h2 : PSs X we u) : PSs X (st :: we) (Xu t u) := by
 intro pins s σ H D I h;refine wpAny_execs_cons (thn (h1 pins s σ H { D with nx := u D } I h) fun f s1 q => ?_);cases f with
 | next =>
   obtain ⟨σ', H', I', q⟩ := q;exact h2 pins s1 σ' H' D I' q
 | ret v => exact q
 | brk => exact q
 | cont => exact q
theorem zi (h1 : PS X st t) : PSs X [st] t := by
 intro pins s σ H D I h;refine wpAny_execs_cons (thn (h1 pins s σ H D I h) fun f s1 q => ?_);cases f with
 | next => exact wpAny_execs_nil q
 | ret v => exact q
 | brk => exact q
 | cont => exact q
theorem Inv.quiet (I : Inv X pins σ H s) : interactive X.env = false := by simp [interactive, I.ok.kind]
noncomputable def znl (te : TE) : TS := fun D σ H => te σ H fun _ H1 => D.nx σ H1
theorem vz (he : PE X e te) (hs : swapsWith e none pos.line X.env = pure false := by rfl) : PS X (.Expr e pos) (znl te) := by
 intro pins s σ H D I h;exact wpAny_Expr_any (thn (he pins s σ H _ I h) fun v s1 ⟨x, H1, I1, r1, q1⟩ => ⟨σ, H1, I1, q1⟩) I.quiet hs
noncomputable def zng (te : TE) : TS := fun D σ H => te σ H D.rt
theorem zp (he : PE X e te) : PS X (.Return (some e) pos) (zng te) := by
 intro pins s σ H D I h;exact wpAny_Return_some (thn (he pins s σ H _ I h) fun v s1 ⟨x, H1, I1, r1, q1⟩ => ⟨x, σ, H1, I1, r1, q1⟩)
noncomputable def Vt (c : TT) (t u : TS) : TS := fun D σ H => c σ H fun b H1 => if b = true then t D σ H1 else u D σ H1
theorem yc {a b : List Stmt} {tc : TT} (hc : PT X c tc) (ha : PSs X a t) (hb : PSs X b u) : PS X (.If c a b pos) (Vt tc t u) := by
 intro pins s σ H D I h;refine wpAny_If (thn (hc pins s σ H _ I h) fun d s1 ⟨H1, I1, q1⟩ => ?_);cases d with
 | true => exact ha pins s1 σ H1 D I1 q1
 | false => exact hb pins s1 σ H1 D I1 q1
noncomputable def zlj : TS := fun _ _ _ => False
theorem jt : PS X st zlj := fun _ _ _ _ _ _ h => h.elim
end
abbrev TG := V → St → Hp → (St → Hp → Prop) → Prop
variable {es : List Expr} {body : List Stmt} {te : TE}
abbrev TGs := List V → St → Hp → (St → Hp → Prop) → Prop
noncomputable def PG (X : Cx) (target : Expr) (t : TG) : Prop :=
 ∀ (pins : List (Addr × Obj)) (s : Shared) (σ : St) (H : Hp) (v : V) (u : Value) (Q : St → Hp → Prop), Inv X pins σ H s → yw v u → t v σ H Q →
   wpAny (model X.prog X.w) X.A (assign target X.env u) (fun _ s' => ∃ σ' H', Inv X pins σ' H' s' ∧ Q σ' H') X.xe s
noncomputable def PGs (X : Cx) (ts : List Expr) (t : TGs) : Prop :=
 ∀ (pins : List (Addr × Obj)) (s : Shared) (σ : St) (H : Hp) (vs : List V) (us : List Value) (Q : St → Hp → Prop), Inv X pins σ H s → ym vs us → t vs σ H Q →
   wpAny (model X.prog X.w) X.A (assignInOrder ((assignEach ts X.env).map (·.2)) us) (fun _ s' => ∃ σ' H', Inv X pins σ' H' s' ∧ Q σ' H') X.xe s
abbrev zis := V → V → V → Hp → (Hp → Prop) → Prop
noncomputable def zm4 (X : Cx) (t : zis) : Prop :=
 ∀ (pins : List (Addr × Obj)) (s : Shared) (σ : St) (H : Hp) (o i v : V) (ov iv u : Value) (Q : Hp → Prop), Inv X pins σ H s → yw o ov → yw i iv → yw v u → t o i v H Q →
   wpAny (model X.prog X.w) X.A (setItem ov iv u) (fun _ s' => ∃ H', Inv X pins σ H' s' ∧ Q H') X.xe s
abbrev TIp := V → V → Hp → VK → Prop
noncomputable def PIp (X : Cx) (op : Operator) (t : TIp) : Prop :=
 ∀ (pins : List (Addr × Obj)) (s : Shared) (σ : St) (H : Hp) (x y : V) (v u : Value) (Q : VK), Inv X pins σ H s → yw x v → yw y u → t x y H Q →
   wpAny (model X.prog X.w) X.A (inplaceOp op v u) (EP X pins σ Q) X.xe s
section
noncomputable def wz (i : Nat) : TG := fun v σ H Q => Q (σ.set i (some v)) H
theorem zu (hN : X.N.Nodup) (hi : X.N[i]? = some x) (hx : Loc X.env.scope x) (hf : X.fn x = true ∨ X.env.scope.names.lookup x = some .local := by first | exact .inl rfl | exact .inr rfl | assumption) : PG X (.Name x pos) (wz i) := by
 intro pins s σ H v u Q I r h;exact wpAny_assign_Name (Ko I hN hi hx r (fun s' I' => ⟨_, H, I', h⟩) hf)
noncomputable def zh7 : TGs := fun vs σ H Q => vs = [] ∧ Q σ H
noncomputable def Yt (t : TG) (u : TGs) : TGs := fun vs σ H Q => ∃ v r, vs = v :: r ∧ t v σ H fun σ' H' => u r σ' H' Q
theorem vc : PGs X [] zh7 := by
 intro pins s σ H vs us Q I r h;obtain ⟨e, h⟩ := h;subst e;cases r;exact assignInOrder_nil ⟨σ, H, I, h⟩
theorem yl {t : TG} {u : TGs} (h1 : PG X e t) (h2 : PGs X es u)
  (hs : (assignEach (e :: es) X.env).map (·.2) = assign e X.env :: (assignEach es X.env).map (·.2) := by rfl) : PGs X (e :: es) (Yt t u) := by
 intro pins s σ H vs us Q I r h;obtain ⟨v, vr, e1, h⟩ := h;subst e1;cases r with
 | cons r rr =>
   rw [hs];refine assignInOrder_cons (thn (h1 pins s σ H _ _ _ I r h) fun _ s1 ⟨σ1, H1, I1, q1⟩ => ?_);exact h2 pins s1 σ1 H1 _ _ Q I1 rr q1
noncomputable def zh6 (K : PySem.W.Frag) (n : Nat) (t : TGs) : TG := fun v σ H Q => ∃ a xs, v = .ref a ∧ SqT K H a xs ∧ xs.length = n ∧ t xs σ H Q
theorem qo {k : Nat} {t : TGs} {n : Nat} (hc : X.calm = true) (h : PGs X es t)
  (hn : (assignEach es X.env).length = n := by rfl) (hst : (assignEach es X.env).findIdx? (·.1) = none := by rfl) : PG X (.Tuple es k pos) (zh6 X.K n t) := by
 intro pins s σ H v u Q I r hw;obtain ⟨a, xs, e1, hq, hl, hw⟩ := hw;subst e1;cases r;obtain ⟨its, rv, ht, hz⟩ := I.tuple hq;refine assign_Tuple_tuple (I.ok.hd hc) ht (by simp [hn, ← hl, rv.length]) hst fun h' hx => ?_;have I1 : Inv X pins σ H { s with heap := h' } := I.kept (t' := s.toks) fun b o e => hx b o (aw (ac e)) e;exact h pins _ σ H xs _ Q I1 (by simpa using rv) hw
noncomputable def zp5 (to ti : TE) (t : zis) : TG := fun v σ H Q => to σ H fun o H1 => ti σ H1 fun i H2 => t o i v H2 fun H3 => Q σ H3
theorem j7 {o i : Expr} {to ti : TE} {t : zis} (ho : PE X o to) (hi : PE X i ti) (hs : zm4 X t)
  (ha : ∀ v, assign (.Subscript o i pos) X.env v = (do
   let ov ← holding [v] (eval o X.env);let iv ← holding [v, ov] (eval i X.env)
   standAt pos
   holding [v, ov, iv] (setItem ov iv v)
   release [v, ov, iv] []) := by intro _; rfl) : PG X (.Subscript o i pos) (zp5 to ti t) := by
 intro pins s σ H v u Q I r h;rw [ha];refine a4 (wpAny_holding (thn (ho pins s σ H _ I h) fun ov s1 ⟨x, H1, I1, r1, q1⟩ => ?_));refine a4 (wpAny_holding (thn (hi pins s1 σ H1 _ I1 q1) fun iv s2 ⟨y, H2, I2, r2, q2⟩ => ?_));refine a4 (wpAny_standAt (a4 (wpAny_holding (thn (hs pins s2 σ H2 x y v ov iv u _ I2 r1 r2 r q2) fun _ s3 ⟨H3, I3, q3⟩ => ?_))));exact wpAny_release ⟨σ, H3, I3, q3⟩
noncomputable def Y5 (te : TE) (g : TG) : TS := fun D σ H => te σ H fun x H1 => g x σ H1 D.nx
theorem ql {tg : Expr} {g : TG} (he : PE X e te) (hg : PG X tg g) (hs : swapsWithSole [tg] e pos.line X.env = pure false := by rfl) (hw : swappedStores [tg] e X.env = pure none := by rfl)
  (h1 : (assignEach [tg] X.env).map (·.2) = [assign tg X.env] := by rfl) : PS X (.Assign [tg] e pos) (Y5 te g) := by
 intro pins s σ H D I h;refine wpAny_Assign_stores (thn (he pins s σ H _ I h) fun v s1 ⟨x, H1, I1, r1, q1⟩ => ?_) hs hw;rw [h1];exact thn (hg pins s1 σ H1 x v _ I1 r1 q1) fun _ s2 q => q
theorem ya {pos' : Pos} (hN : X.N.Nodup) (hi : X.N[i]? = some x) (hx : Loc X.env.scope x) (he : PE X e te) (hs : swapsWith e (some (.Name x pos')) pos.line X.env = pure false := by rfl) (hf : X.fn x = true ∨ X.env.scope.names.lookup x = some .local := by first | exact .inl rfl | exact .inr rfl | assumption) :
  PS X (.Assign [.Name x pos'] e pos) (Y5 te (wz i)) := by
 intro pins s σ H D I h;refine wpAny_Assign_Name (thn (he pins s σ H _ I h) fun v s1 ⟨y, H1, I1, r1, q1⟩ => ?_) hs;exact Ko I1 hN hi hx r1 (fun s2 I2 => ⟨_, H1, I2, q1⟩) hf
noncomputable def znn (to ti te : TE) (tget : V → V → Hp → VK → Prop) (tip : TIp) (tset : zis) : TS := fun D σ H => to σ H fun o H1 => ti σ H1 fun i H2 => tget o i H2 fun x H3 => te σ H3 fun y H4 => tip x y H4 fun z H5 => tset o i z H5 fun H6 => D.nx σ H6
noncomputable def zpj (X : Cx) (t : V → V → Hp → VK → Prop) : Prop :=
 ∀ (pins : List (Addr × Obj)) (s : Shared) (σ : St) (H : Hp) (o i : V) (ov iv : Value) (Q : VK), Inv X pins σ H s → yw o ov → yw i iv → t o i H Q →
   wpAny (model X.prog X.w) X.A (getItem ov iv) (EP X pins σ Q) X.xe s
theorem zdh {o i : Expr} {to ti : TE} {tget : V → V → Hp → VK → Prop} {tip : TIp} {tset : zis} {op : Operator} {tpos : Pos} (ho : PE X o to) (hi : PE X i ti) (hg : zpj X tget) (he : PE X e te) (hp : PIp X op tip) (hs : zm4 X tset)
  (ha : ∀ ov iv new, augStore i ov iv new = (do holding [new, ov, iv] (setItem ov iv new); release [new, ov, iv] []; pure .next) := by intros; rfl) : PS X (.AugAssign (.Subscript o i tpos) op e pos) (znn to ti te tget tip tset) := by
 intro pins s σ H D I h;refine wpAny_AugAssign_SubscriptAny (thn (ho pins s σ H _ I h) fun ov s1 ⟨x1, H1, I1, r1, q1⟩ => ?_) ha;refine thn (hi pins s1 σ H1 _ I1 q1) fun iv s2 ⟨x2, H2, I2, r2, q2⟩ => ?_;refine thn (hg pins s2 σ H2 x1 x2 ov iv _ I2 r1 r2 q2) fun old s3 ⟨x3, H3, I3, r3, q3⟩ => ?_;refine thn (he pins s3 σ H3 _ I3 q3) fun v s4 ⟨x4, H4, I4, r4, q4⟩ => ?_;refine thn (hp pins s4 σ H4 x3 x4 old v _ I4 r3 r4 q4) fun new s5 ⟨x5, H5, I5, r5, q5⟩ => ?_;exact thn (hs pins s5 σ H5 x1 x2 x5 ov iv new _ I5 r1 r2 r5 q5) fun _ s6 ⟨H6, I6, q6⟩ => ⟨σ, H6, I6, q6⟩
noncomputable def ipI (f : Int → Int → Int) : TIp := fun x y H Q => ∃ i j, x = .int i ∧ y = .int j ∧ Q (.int (f i j)) H
theorem zh1 : PIp X .Add (ipI fun i j => i + j) := by
 intro pins s σ H x y v u Q I r1 r2 h;obtain ⟨i, j, e1, e2, q⟩ := h;subst e1; subst e2;obtain ⟨t, rfl⟩ := r1;obtain ⟨t', rfl⟩ := r2;exact iadd_int ⟨.int _, H, I.tok _, ⟨_, rfl⟩, q⟩
end
section
noncomputable def zli (c : TT) (tb : TS) : TS := fun D σ H => ∃ W : Nat → St → Hp → Prop, (∃ m, W m σ H) ∧ ∀ m σ H, W m σ H →
 c σ H fun b H1 => if b = true then ∃ N : St → Hp → Prop, (∀ σ' H', N σ' H' → ∃ m', m' < m ∧ W m' σ' H') ∧ tb { D with nx := N, ct := N, bk := D.nx } σ H1 else D.nx σ H1
theorem K8 {tc : TT} {tb : TS} (hp : PassesOwn (model X.prog X.w) X.A X.env X.xe) (hc : PT X c tc) (hb : PSs X body tb) : PS X (.While c body [] pos) (zli tc tb) := by
 intro pins s σ H D I h;obtain ⟨W, ⟨m0, w0⟩, turn⟩ := h;refine wpAny_While (codeAny_whileLoop (fun n s' => ∃ σ' H', Inv X pins σ' H' s' ∧ W n σ' H') ?_ m0 ⟨σ, H, I, w0⟩);rintro n s1 ⟨σ1, H1, I1, w1⟩;refine wpAny_passesOwn hp (thn (hc pins s1 σ1 H1 _ I1 (turn n σ1 H1 w1)) fun b s2 ⟨H2, I2, q2⟩ => ?_);cases b with
 | true =>
   obtain ⟨N, hN, q2⟩ := q2;rw [if_pos rfl];refine wpAny_passesOwn hp (thn (hb pins s2 σ1 H2 _ I2 q2) fun f s3 q3 => ?_);cases f with
   | next =>
     obtain ⟨σ3, H3, I3, n3⟩ := q3;obtain ⟨m', hm, w3⟩ := hN σ3 H3 n3;exact ⟨m', hm, σ3, H3, I3, w3⟩
   | cont =>
     obtain ⟨σ3, H3, I3, n3⟩ := q3;obtain ⟨m', hm, w3⟩ := hN σ3 H3 n3;exact ⟨m', hm, σ3, H3, I3, w3⟩
   | brk => exact q3
   | ret v => exact q3
 | false =>
   rw [if_neg az];exact wpAny_execs_nil ⟨σ1, H2, I2, q2⟩
end
structure It where
 go : Nat → Hp → Prop
 yld : Nat → Hp → V → Hp → Prop
 stop : Nat → Hp → Prop
noncomputable def X2 (X : Cx) (pins : List (Addr × Obj)) (H : Hp) (b : Addr) : Prop :=
 H b = none ∧ b ≠ X.env.locals ∧ b ∉ X.fs ∧ (b ∈ X.ex ∨ X.s₀.heap.objs.size ≤ b) ∧ (∀ x c, X.env.cells.lookup x = some c → c ≠ b) ∧ ∀ p ∈ X.pn ++ pins, p.1 ≠ b
theorem Inv.fpOk {H' : Hp} (I : Inv X pins σ H s) (hb : s.heap.objs.size ≤ b) (hn : H' b = none) : X2 X pins H' b := by
 refine ⟨hn, ce (bg I.lt hb), I.nofs hb, .inr (ay I.sz hb), fun x c e z => ?_, fun p hp z => ?_⟩
 · obtain ⟨v, q⟩ := I.cell x c e;exact absurd (bg q.lt (by rw [z]; exact hb)) (c6 _)
 · exact absurd (bg (ac (I.pin p hp).1) (by rw [z]; exact hb)) (c6 _)
structure Turn (P : Program) (w : World) (K : PySem.W.Frag) (tg : Expr) (J : It) (fp : List Addr) (it : Addr) (tn : Nat → Heap → Prop) : Prop where
 mem : it ∈ fp
 obj : ∀ i h, tn i h → ∀ b ∈ fp, ∃ o, h.get? b = some o ∧ ∀ v, o.data ≠ .cell v
 keep : ∀ i h h', tn i h → (∀ b ∈ fp, ∀ o, h.get? b = some o → h'.get? b = some o) → tn i h'
 item : ∀ (X : Cx), X.prog = P → X.w = w → X.K = K → X.calm = true → ∀ (i : Nat) (pins : List (Addr × Obj)) (s : Shared) (σ : St) (H : Hp) (E : Value → Shared → Prop), Inv X pins σ H s → (∀ b ∈ fp, X2 X pins H b) → tn i s.heap → J.go i H →
  wpAny (model P w) X.A (pyNext (.ref it)) (fun r s1 => ∃ u, r = some u ∧
   wpAny (model P w) X.A (letOwnedTupleGo tg (.ref it) u) (fun _ s2 => ∃ x H', Inv X pins σ H' s2 ∧ yw x u ∧ J.yld i H x H' ∧ tn (i + 1) s2.heap ∧ ∀ b ∈ fp, H' b = none) E s1) E s
 done : ∀ (X : Cx), X.prog = P → X.w = w → X.K = K → X.calm = true → ∀ (i : Nat) (pins : List (Addr × Obj)) (s : Shared) (σ : St) (H : Hp) (E : Value → Shared → Prop), Inv X pins σ H s → (∀ b ∈ fp, X2 X pins H b) → tn i s.heap → J.stop i H →
  wpAny (model P w) X.A (pyNext (.ref it)) (fun r s1 => r = none ∧ Inv X pins σ H s1) E s
 self : ∀ (A : Around) (i : Nat) (s : Shared) (Q : Value → Shared → Prop) (E : Value → Shared → Prop), tn i s.heap → Q (.ref it) s → wpAny (model P w) A (pyIter (.ref it)) Q E s
abbrev TI := St → Hp → (It → Hp → Prop) → Prop
noncomputable def PIE (X : Cx) (pins : List (Addr × Obj)) (σ : St) (tg : Expr) (R : It → Hp → Prop) (itv : Value) (s2 : Shared) : Prop :=
 ∃ (it : Addr) (fp : List Addr) (tn : Nat → Heap → Prop) (J : It) (H' : Hp), itv = .ref it ∧ Inv X pins σ H' s2 ∧ Turn X.prog X.w X.K tg J fp it tn ∧ tn 0 s2.heap ∧ (∀ b ∈ fp, X2 X pins H' b) ∧ R J H'
noncomputable def PI (X : Cx) (tg iter : Expr) (wi : TI) : Prop :=
 ∀ (pins : List (Addr × Obj)) (s : Shared) (σ : St) (H : Hp) (R : It → Hp → Prop), Inv X pins σ H s → wi σ H R →
   wpAny (model X.prog X.w) X.A (eval iter X.env) (fun v s1 => wpAny (model X.prog X.w) X.A (pyIter v) (PIE X pins σ tg R) X.xe s1) X.xe s
variable {C dx f : Addr} {osl : Array (Option Value)} {D : Ends} {l o tg value : Expr} {fd : FuncData} {base : Heap} {lo : Int} {pl : List (Addr × Obj)} {kvs : List (Key × V)} {ks : List Key} {ps : List Str} {vs xs : List V} {ds its us : List Value} {k n : Nat} {apos p : Pos} {prog : Program} {scope : Scope} {name qual : Str} {mA mg : Str → Option Value} {id : String} {ta tl : TE} {g : TG} {tb : TS} {y : V} {r : Value}
theorem za1 {M : Model} {it : Addr} {o : Obj} {n : String} {vs : Array Value} {Q : Unit → Shared → Prop} (ho : s.heap.get? it = some o) (hc : o.cls = .type n) (hd : o.data = .fields vs)
  (hn : ["enumerate", "zip", "dict_itemiterator", "dict_reverseitemiterator", "odict_iterator", "itertools.zip_longest", "itertools.pairwise"].contains n = false) (hQ : Q () s) : wpAny M A (letOwnedTupleGo tg (.ref it) u) Q E s := by
 unfold letOwnedTupleGo;cases tg <;> first
  | exact a6 hQ
  | (cases u <;> first
   | exact a6 hQ
   | (refine a4 (wpAny_load ho ?_)
      rw [hc, hd];show wpAny M A (if (["enumerate", "zip", "dict_itemiterator", "dict_reverseitemiterator", "odict_iterator", "itertools.zip_longest", "itertools.pairwise"].contains n && vs[0]? == some (rawInt _)) = true then _ else _) Q E s;rw [if_neg (by intro h; rw [hn, cg] at h; cases h)];exact a6 hQ))
noncomputable def Itl (K : PySem.W.Frag) (a : Addr) : It :=
 ⟨fun i H => ∃ xs x, SqL K H a xs ∧ xs[i]? = some x, fun i H x H' => H' = H ∧ ∀ xs, SqL K H a xs → xs[i]? = some x, fun i H => ∃ xs, SqL K H a xs ∧ xs.length ≤ i⟩
noncomputable def Itt (K : PySem.W.Frag) (a : Addr) : It :=
 ⟨fun i H => ∃ xs x, SqT K H a xs ∧ xs[i]? = some x, fun i H x H' => H' = H ∧ ∀ xs, SqT K H a xs → xs[i]? = some x, fun i H => ∃ xs, SqT K H a xs ∧ xs.length ≤ i⟩
noncomputable def Itr (lo : Int) (n : Nat) : It := ⟨fun i _ => i < n, fun i H x H' => H' = H ∧ x = .int (lo + i), fun i _ => n ≤ i⟩
theorem zee (a it : Addr) : Turn P w K tg (Itl K a) [it] it (fun i h => h.IsListIter it a i) where
 mem := by simp
 obj := fun i h st b hb => by
  have e : b = it := by simpa using hb
  subst e;obtain ⟨o, e, c, d⟩ := st;exact ⟨o, e, fun v z => by rw [d] at z; cases z⟩
 keep := fun i h h' st k => st.at fun o e => k it (by simp) o e
 item := by
  intro X hP hw hK hc i pins s σ H E I hf st hg;subst hP hw hK;obtain ⟨xs, x, hq, hx⟩ := hg;obtain ⟨its, rv, p, hz⟩ := I.list hq;obtain ⟨u, hu, ru⟩ := rv.get hx;obtain ⟨f0, f1, f2, f3, f4, f5⟩ := hf it (by simp);refine wpAny_pyNext_list_item st p.isList (x := u) (by simpa using hu) fun h' st' sb => ?_;have I1 : Inv X pins σ H { s with heap := h' } := I.turned (t' := s.toks) (fun b o hb e => (sb.2 b hb).trans e) f0 f1 f3 f4 f5;obtain ⟨o, e, c, d⟩ := id st';exact ⟨u, rfl, za1 (s := { s with heap := h' }) e c d (by decide) ⟨x, H, I1, ru, ⟨rfl, fun ys hy => by rw [I.list_inj hy hq]; exact hx⟩, st', fun b hb => (hf b hb).1⟩⟩
 done := by
  intro X hP hw hK hc i pins s σ H E I hf st hg;subst hP hw hK;obtain ⟨xs, hq, hx⟩ := hg;obtain ⟨its, rv, p, hz⟩ := I.list hq;obtain ⟨f0, f1, f2, f3, f4, f5⟩ := hf it (by simp);have hl := rv.length;exact wpAny_pyNext_list_end (I.ok.hd hc) st p.isList (by simp; omega) fun h' eb => ⟨rfl, I.turned (t' := s.toks) (fun b o hb e => eb b o hb e) f0 f1 f3 f4 f5⟩
 self := fun _ _ _ _ _ st h => wpAny_pyIter_listiter st h
theorem zbl (a it : Addr) : Turn P w K tg (Itt K a) [it] it (fun i h => h.IsTupleIter it a i) where
 mem := by simp
 obj := fun i h st b hb => by
  have e : b = it := by simpa using hb
  subst e;obtain ⟨o, e, c, d⟩ := st;exact ⟨o, e, fun v z => by rw [d] at z; cases z⟩
 keep := fun i h h' st k => st.at fun o e => k it (by simp) o e
 item := by
  intro X hP hw hK hc i pins s σ H E I hf st hg;subst hP hw hK;obtain ⟨xs, x, hq, hx⟩ := hg;obtain ⟨its, rv, p, hz⟩ := I.tuple hq;obtain ⟨u, hu, ru⟩ := rv.get hx;obtain ⟨f0, f1, f2, f3, f4, f5⟩ := hf it (by simp);refine wpAny_pyNext_tuple_item st (show s.heap.IsTuple a its.toArray from p) (x := u) (by simpa using hu) fun h' st' sb => ?_;have I1 : Inv X pins σ H { s with heap := h' } := I.turned (t' := s.toks) (fun b o hb e => (sb.2 b hb).trans e) f0 f1 f3 f4 f5;obtain ⟨o, e, c, d⟩ := id st';exact ⟨u, rfl, za1 (s := { s with heap := h' }) e c d (by decide) ⟨x, H, I1, ru, ⟨rfl, fun ys hy => by rw [I.tuple_inj hy hq]; exact hx⟩, st', fun b hb => (hf b hb).1⟩⟩
 done := by
  intro X hP hw hK hc i pins s σ H E I hf st hg;subst hP hw hK;obtain ⟨xs, hq, hx⟩ := hg;obtain ⟨its, rv, p, hz⟩ := I.tuple hq;obtain ⟨f0, f1, f2, f3, f4, f5⟩ := hf it (by simp);have hl := rv.length;exact wpAny_pyNext_tuple_end (I.ok.hd hc) st (show s.heap.IsTuple a its.toArray from p) (by simp; omega) fun h' eb => ⟨rfl, I.turned (t' := s.toks) (fun b o hb e => eb b o hb e) f0 f1 f3 f4 f5⟩
 self := fun _ _ _ _ _ st h => wpAny_pyIter_tupleiter st h
theorem zbm (it : Addr) (lo : Int) (n : Nat) : Turn P w K tg (Itr lo n) [it] it (fun i h => IsRangeIter h it (lo + (i : Nat) * 1) ((n : Int) - (i : Nat)) 1) where
 mem := by simp
 obj := fun i h st b hb => by
  have e : b = it := by simpa using hb
  subst e;exact ⟨_, st, fun v z => by
   have z' : Data.fields _ = Data.cell v := z;cases z'⟩
 keep := fun i h h' st k => k it (by simp) _ st
 item := by
  intro X hP hw hK hc i pins s σ H E I hf st hg;subst hP hw hK;obtain ⟨f0, f1, f2, f3, f4, f5⟩ := hf it (by simp);have W := Walks.range (prog := X.prog) (w := X.w) (I.ok.hd hc) it lo 1 n;refine W.item i s _ _ hg st fun v h' tk hv st' kk => ?_;obtain ⟨t, rfl⟩ := hv;have I1 : Inv X pins σ H { s with heap := h', toks := tk } := I.turned (fun b o hb e => kk b o (by simpa using hb) e) f0 f1 f3 f4 f5;refine ⟨_, rfl, za1 (s := { s with heap := h', toks := tk }) (n := "range_iterator") st' rfl rfl (by decide) ⟨.int (lo + i), H, I1, ⟨t, ?_⟩, ⟨rfl, rfl⟩, st', fun b hb => (hf b hb).1⟩⟩;rw [Int.mul_one]
 done := by
  intro X hP hw hK hc i pins s σ H E I hf st hg;subst hP hw hK;obtain ⟨f0, f1, f2, f3, f4, f5⟩ := hf it (by simp);exact wpAny_pyNext_range_end (I.ok.hd hc) st (by have : n ≤ i := hg; omega) fun h' eb => ⟨rfl, I.turned (t' := s.toks) (fun b o hb e => eb b o hb e) f0 f1 f3 f4 f5⟩
 self := fun _ _ _ _ _ st h => wpAny_pyIter_rangeiter st h
section
noncomputable def zo8 (K : PySem.W.Frag) (tl : TE) : TI := fun σ H R => tl σ H fun x H1 => ∃ a, x = .ref a ∧ (∃ xs, SqL K H1 a xs) ∧ R (Itl K a) H1
noncomputable def zp3 (K : PySem.W.Frag) (tl : TE) : TI := fun σ H R => tl σ H fun x H1 => ∃ a, x = .ref a ∧ (∃ xs, SqT K H1 a xs) ∧ R (Itt K a) H1
theorem wn (hl : PE X l tl) : PI X tg l (zo8 X.K tl) := by
 intro pins s σ H R I h;refine thn (hl pins s σ H _ I h) fun v s1 ⟨x, H1, I1, r1, q1⟩ => ?_;obtain ⟨a, e, ⟨xs, hq⟩, q⟩ := q1;subst e;cases r1;obtain ⟨its, rv, p, hz⟩ := I1.list hq;refine wpAny_pyIter_list p.isList ?_;refine ⟨s1.heap.objs.size, [s1.heap.objs.size], _, _, H1, rfl, I1.kept (t' := s1.toks) fun b o e => a8 _ e, zee a _, ⟨_, ar _ rfl, rfl, rfl⟩, fun b hb => ?_, q⟩;have e : b = s1.heap.objs.size := by simpa using hb
 subst e;exact I1.fpOk (a9 _) (I1.hok.fresh (a9 _))
theorem qm (hl : PE X l tl) : PI X tg l (zp3 X.K tl) := by
 intro pins s σ H R I h;refine thn (hl pins s σ H _ I h) fun v s1 ⟨x, H1, I1, r1, q1⟩ => ?_;obtain ⟨a, e, ⟨xs, hq⟩, q⟩ := q1;subst e;cases r1;obtain ⟨its, rv, p, hz⟩ := I1.tuple hq;refine wpAny_pyIter_tuple (show s1.heap.IsTuple a its.toArray from p) ?_;refine ⟨s1.heap.objs.size, [s1.heap.objs.size], _, _, H1, rfl, I1.kept (t' := s1.toks) fun b o e => a8 _ e, zbl a _, ⟨_, ar _ rfl, rfl, rfl⟩, fun b hb => ?_, q⟩;have e : b = s1.heap.objs.size := by simpa using hb
 subst e;exact I1.fpOk (a9 _) (I1.hok.fresh (a9 _))
theorem zgi {R : It → Hp → Prop} {hi : Int} {t u v : Tok} {tk : Nat} (I : Inv X pins σ H s) (h1 : -(2 ^ 62) ≤ lo) (h2 : lo < 2 ^ 62) (h3 : -(2 ^ 62) ≤ hi) (h4 : hi < 2 ^ 62)
  (q : R (Itr lo (hi - lo).toNat) H) : wpAny (model X.prog X.w) X.A (pyIter (.ref s.heap.objs.size)) (PIE X pins σ tg R) E { s with heap := s.heap.push { cls := .type "range", data := .fields #[.int lo t, .int hi u, .int 1 v] }, toks := tk } := by
 refine wpAny_pyIter_range (IsRange.new ..) (small_one h1 h2 h3 h4) ?_;have I1 : Inv X pins σ H { s with heap := s.heap.push { cls := .type "range", data := .fields #[.int lo t, .int hi u, .int 1 v] }, toks := tk } := I.kept fun b o e => a8 _ e;refine ⟨(s.heap.push { cls := .type "range", data := .fields #[.int lo t, .int hi u, .int 1 v] }).objs.size, [(s.heap.push { cls := .type "range", data := .fields #[.int lo t, .int hi u, .int 1 v] }).objs.size], _, _, H, rfl,
  I1.kept (t' := tk) fun b o e => a8 _ e, zbm _ lo (hi - lo).toNat, ?_, fun b hb => ?_, q⟩
 · have e1 : lo + ((0 : Nat) : Int) * 1 = lo := by simp
   have e2 : (((hi - lo).toNat : Nat) : Int) - ((0 : Nat) : Int) = Builtin.Range.rangeSize lo hi 1 := by rw [rangeSize_one]; split <;> omega
   show IsRangeIter _ _ (lo + ((0 : Nat) : Int) * 1) ((((hi - lo).toNat : Nat) : Int) - ((0 : Nat) : Int)) 1;rw [e1, e2];exact ar _ rfl
 · have e : b = (s.heap.push { cls := .type "range", data := .fields #[.int lo t, .int hi u, .int 1 v] }).objs.size := by simpa using hb
   subst e;exact I1.fpOk (a9 _) (I1.hok.fresh (a9 _))
noncomputable def zo7 (ta : TA) : TI := fun σ H R => ta σ H fun vs H1 => ∃ j : Int, vs = [.int j] ∧ -(2 ^ 62) ≤ j ∧ j < 2 ^ 62 ∧ R (Itr 0 j.toNat) H1
theorem xu {a : Expr} {ta : TA} (hg : Gl X "range") (hm : X.mg "range" = none) (ha : PA X [a] ta) (hs : starEach [a] X.env = [(false, eval a X.env)] := by rfl) : PI X tg (.Call (.Name "range" p) [a] [] pos) (zo7 ta) := by
 intro pins s σ H R I h;refine Call_ (Zy I hg hm boot_range (PyProof.Rows.callWith_type1 (thn (ha pos pins s σ H _ I h) fun us s1 ⟨vs, H1, I1, r1, q1⟩ => ?_) hs rfl));obtain ⟨j, e, q1, q2, q⟩ := q1;subst e;cases r1 with
 | cons r rr =>
   cases rr;obtain ⟨t, rfl⟩ := r;exact call_range_1 (zgi I1 (by omega) (by omega) q1 q2 (by simpa using q))
noncomputable def zpu (wi : TI) (g : TG) (tb : TS) : TS := fun D σ H => wi σ H fun J H1 => ∃ W : Nat → Nat → St → Hp → Prop, (∃ m, W 0 m σ H1) ∧ ∀ i m σ H, W i m σ H →
 (J.stop i H ∧ D.nx σ H) ∨ (J.go i H ∧ ∃ N : St → Hp → Prop, (∀ σ' H', N σ' H' → ∃ m', m' < m ∧ W (i + 1) m' σ' H') ∧ ∀ x H', J.yld i H x H' → g x σ H' fun σ2 H2 => tb { D with nx := N, ct := N, bk := D.nx } σ2 H2)
noncomputable def Wy (fp : List Addr) (h : Heap) : List (Addr × Obj) := fp.filterMap fun b => (h.get? b).map fun o => (b, o)
theorem j8 {fp : List Addr} {o : Obj} (hb : b ∈ fp) (e : h.get? b = some o) : (b, o) ∈ Wy fp h := List.mem_filterMap.mpr ⟨b, hb, by rw [e]; rfl⟩
theorem ze1 {fp : List Addr} {p : Addr × Obj} (hp : p ∈ Wy fp h) : p.1 ∈ fp ∧ h.get? p.1 = some p.2 := by
 obtain ⟨b, hb, e⟩ := List.mem_filterMap.mp hp;cases q : h.get? b with
 | none => rw [q] at e; cases e
 | some o =>
   rw [q] at e;have e' : (b, o) = p := Option.some.inj e;subst e';exact ⟨hb, q⟩
theorem Inv.pinned {fp : List Addr} (I : Inv X pins σ H s) (hf : ∀ b ∈ fp, X2 X pins H b) (ho : ∀ b ∈ fp, ∃ o, s.heap.get? b = some o ∧ ∀ v, o.data ≠ .cell v) : Inv X (pins ++ Wy fp s.heap) σ H s :=
 I.pins_of fun p hp => (br.mp hp).elim (fun z => I.pin p (ci _ z)) fun z => by
  obtain ⟨hb, e⟩ := ze1 z;obtain ⟨f0, f1, f2, _⟩ := hf p.1 hb;obtain ⟨o, e', d⟩ := ho p.1 hb;rw [e] at e'; cases e';exact ⟨e, f0, f1, f2, d⟩
theorem Inv.unpinned (I : Inv X (pins ++ pl) σ H s) : Inv X pins σ H s := I.pins_of fun p hp => I.pin p (ci _ (cu _ hp))
theorem vy {iter : Expr} {wi : TI} (hp : PassesOwn (model X.prog X.w) X.A X.env X.xe) (hc : X.calm = true) (hi : PI X tg iter wi) (hg : PG X tg g) (hb : PSs X body tb)
  (hs : ∀ x, foldedSetIterable iter X.env x = pure x := by intro _; rfl) : PS X (.For tg iter body [] pos) (zpu wi g tb) := by
 intro pins s σ H D I h;refine wpAny_For (thn (hi pins s σ H _ I h) fun v s1 h1 => thn h1 fun itv s2 h2 => ?_) hs;obtain ⟨it, fp, tn, J, H2, e, I2, T, st2, f2, W, ⟨m0, w0⟩, turn⟩ := h2;subst e;have stat : ∀ {H' : Hp}, (∀ b ∈ fp, H' b = none) → ∀ b ∈ fp, X2 X pins H' b := fun hn b hb => ⟨hn b hb, (f2 b hb).2⟩
 refine codeAny_forLoop_any (fun n s' => ∃ i σ' H', Inv X pins σ' H' s' ∧ tn i s'.heap ∧ (∀ b ∈ fp, H' b = none) ∧ W i n σ' H') ?_ m0 ⟨0, σ, H2, I2, st2, fun b hb => (f2 b hb).1, w0⟩;rintro n s3 ⟨i, σ3, H3, I3, st3, fr3, w3⟩;rcases turn i n σ3 H3 w3 with ⟨stop, qn⟩ | ⟨go, N, hN, step⟩
 · refine wpAny_passesOwn hp (thn (T.done X rfl rfl rfl hc i pins s3 σ3 H3 X.xe I3 (stat fr3) st3 stop) fun r s4 ⟨hr, I4⟩ => ?_);subst hr;exact wpAny_execs_nil ⟨σ3, H3, I4, qn⟩
 · refine wpAny_passesOwn hp (thn (T.item X rfl rfl rfl hc i pins s3 σ3 H3 X.xe I3 (stat fr3) st3 go) fun r s4 ⟨u, hr, h4⟩ => ?_);subst hr;refine wpAny_passesOwn hp (thn h4 fun _ s5 ⟨x, H5, I5, r5, y5, st5, fr5⟩ => ?_);have I5' := I5.pinned (stat fr5) (T.obj _ _ st5);refine wpAny_passesOwn hp (thn (hg _ s5 σ3 H5 x u _ I5' r5 (step x H5 y5)) fun _ s6 ⟨σ6, H6, I6, q6⟩ => ?_);refine wpAny_passesOwn hp (thn (hb _ s6 σ6 H6 _ I6 q6) fun f s7 q7 => ?_);have again : ∀ {σ7 : St} {H7 : Hp}, Inv X (pins ++ Wy fp s5.heap) σ7 H7 s7 → N σ7 H7 → ∃ m, m < n ∧ ∃ i σ' H', Inv X pins σ' H' s7 ∧ tn i s7.heap ∧ (∀ b ∈ fp, H' b = none) ∧ W i m σ' H' := fun {σ7 H7} I7 n7 => by
    obtain ⟨m', hm, w7⟩ := hN σ7 H7 n7;refine ⟨m', hm, i + 1, σ7, H7, I7.unpinned, T.keep _ _ _ st5 fun b hb o e => (I7.pin (b, o) (ci _ (ci _ (j8 hb e)))).1, fun b hb => ?_, w7⟩;obtain ⟨o, e, d⟩ := T.obj _ _ st5 b hb;exact (I7.pin (b, o) (ci _ (ci _ (j8 hb e)))).2.1
   cases f with
   | next => obtain ⟨σ7, H7, I7, n7⟩ := q7; exact again I7 n7
   | cont => obtain ⟨σ7, H7, I7, n7⟩ := q7; exact again I7 n7
   | brk => obtain ⟨σ7, H7, I7, q7⟩ := q7; exact ⟨σ7, H7, I7.unpinned, q7⟩
   | ret v => obtain ⟨x7, σ7, H7, I7, r7, q7⟩ := q7; exact ⟨x7, σ7, H7, I7.unpinned, r7, q7⟩
end
theorem kz (Pv : Nat → St → Hp → Prop) (h0 : Pv 0 σ H) (hl : ∀ i σ H, i ≤ xs.length → Pv i σ H → SqL K H a xs)
  (hs : ∀ i x σ H, xs[i]? = some x → Pv i σ H → g x σ H fun σ2 H2 => tb { D with nx := Pv (i + 1), ct := Pv (i + 1), bk := D.nx } σ2 H2) (hd : ∀ σ H, Pv xs.length σ H → D.nx σ H) :
  ∃ W : Nat → Nat → St → Hp → Prop, (∃ m, W 0 m σ H) ∧ ∀ i m σ H, W i m σ H →
    ((Itl K a).stop i H ∧ D.nx σ H) ∨ ((Itl K a).go i H ∧ ∃ N : St → Hp → Prop, (∀ σ' H', N σ' H' → ∃ m', m' < m ∧ W (i + 1) m' σ' H') ∧ ∀ x H', (Itl K a).yld i H x H' → g x σ H' fun σ2 H2 => tb { D with nx := N, ct := N, bk := D.nx } σ2 H2) := by
 refine ⟨fun i m σ H => m = xs.length - i ∧ i ≤ xs.length ∧ Pv i σ H, ⟨xs.length, by simp, bo _, h0⟩, ?_⟩;rintro i m σ H ⟨rfl, hi, p⟩;have q := hl i σ H hi p;by_cases hlt : i < xs.length
 · refine .inr ⟨⟨xs, xs[i], q, by simp [hlt]⟩, Pv (i + 1), fun σ' H' p' => ⟨xs.length - (i + 1), by omega, rfl, hlt, p'⟩, fun x H' y => ?_⟩;obtain ⟨e, y⟩ := y;subst e;exact hs i x σ _ (y xs q) p
 · have e : i = xs.length := by omega
   subst e;exact .inl ⟨⟨xs, q, a9 _⟩, hd σ H p⟩
theorem jc (Pv : Nat → St → Hp → Prop) (h0 : Pv 0 σ H)
  (hs : ∀ i σ H, i < n → Pv i σ H → g (.int (lo + i)) σ H fun σ2 H2 => tb { D with nx := Pv (i + 1), ct := Pv (i + 1), bk := D.nx } σ2 H2) (hd : ∀ σ H, Pv n σ H → D.nx σ H) :
  ∃ W : Nat → Nat → St → Hp → Prop, (∃ m, W 0 m σ H) ∧ ∀ i m σ H, W i m σ H →
    ((Itr lo n).stop i H ∧ D.nx σ H) ∨ ((Itr lo n).go i H ∧ ∃ N : St → Hp → Prop, (∀ σ' H', N σ' H' → ∃ m', m' < m ∧ W (i + 1) m' σ' H') ∧ ∀ x H', (Itr lo n).yld i H x H' → g x σ H' fun σ2 H2 => tb { D with nx := N, ct := N, bk := D.nx } σ2 H2) := by
 refine ⟨fun i m σ H => m = n - i ∧ i ≤ n ∧ Pv i σ H, ⟨n, by simp, bo _, h0⟩, ?_⟩;rintro i m σ H ⟨rfl, hi, p⟩;by_cases hlt : i < n
 · refine .inr ⟨hlt, Pv (i + 1), fun σ' H' p' => ⟨n - (i + 1), by omega, rfl, hlt, p'⟩, fun x H' y => ?_⟩;obtain ⟨e, y⟩ := y;subst e y;exact hs i σ _ hlt p
 · have e : i = n := by omega
   subst e;exact .inl ⟨a9 _, hd σ H p⟩
abbrev R2 := V → V → Hp → VK → Prop
noncomputable def OpR (X : Cx) (f : Value → Value → Sem Value) (r : R2) : Prop :=
 ∀ (pins : List (Addr × Obj)) (s : Shared) (σ : St) (H : Hp) (x y : V) (v u : Value) (Q : VK), Inv X pins σ H s → yw x v → yw y u → r x y H Q →
   wpAny (model X.prog X.w) X.A (f v u) (EP X pins σ Q) X.xe s
noncomputable def UnR (X : Cx) (f : Value → Sem Value) (r : V → Hp → VK → Prop) : Prop :=
 ∀ (pins : List (Addr × Obj)) (s : Shared) (σ : St) (H : Hp) (x : V) (v : Value) (Q : VK), Inv X pins σ H s → yw x v → r x H Q →
   wpAny (model X.prog X.w) X.A (f v) (EP X pins σ Q) X.xe s
noncomputable def v9 (X : Cx) (f : Value) (r : List V → Hp → VK → Prop) : Prop :=
 ∀ (pins : List (Addr × Obj)) (s : Shared) (σ : St) (H : Hp) (xs : List V) (us : List Value) (Q : VK), Inv X pins σ H s → ym xs us → r xs H Q →
   wpAny (model X.prog X.w) X.A (call f us) (EP X pins σ Q) X.xe s
noncomputable def zqb (X : Cx) (r : V → Hp → (Bool → Hp → Prop) → Prop) : Prop :=
 ∀ (pins : List (Addr × Obj)) (s : Shared) (σ : St) (H : Hp) (x : V) (v : Value) (Q : Bool → Hp → Prop), Inv X pins σ H s → yw x v → r x H Q →
   wpAny (model X.prog X.w) X.A (truthy v) (TP X pins σ Q) X.xe s
noncomputable def tOp (r : R2) (ta tb : TE) : TE := fun σ H Q => ta σ H fun x H1 => tb σ H1 fun y H2 => r x y H2 Q
noncomputable def tUn (r : V → Hp → VK → Prop) (ta : TE) : TE := fun σ H Q => ta σ H fun x H1 => r x H1 Q
noncomputable def rI (C : Int → Int → Prop) (g : Int → Int → V) : R2 := fun x y H Q => ∃ i j, x = .int i ∧ y = .int j ∧ C i j ∧ Q (g i j) H
noncomputable def rI0 (g : Int → Int → V) : R2 := fun x y H Q => ∃ i j, x = .int i ∧ y = .int j ∧ Q (g i j) H
noncomputable def rU (g : Int → V) : V → Hp → VK → Prop := fun x H Q => ∃ i, x = .int i ∧ Q (g i) H
section
variable {a b : Expr} {tb tc : TE}
theorem zm2 (ha : PE X a ta) (hb : PE X b tb) {R : V → V → Hp → Prop} (I : Inv X pins σ H s)
  (h : ta σ H fun x H1 => tb σ H1 fun y H2 => R x y H2) {f : Value → Value → Sem Value}
  (hf : ∀ v u s2 x y H2, Inv X pins σ H2 s2 → yw x v → yw y u → R x y H2 → wpAny (model X.prog X.w) X.A (f v u) Q X.xe s2) :
  wpAny (model X.prog X.w) X.A (eval a X.env) (fun v s₁ => wpAny (model X.prog X.w) X.A (eval b X.env) (fun u s₂ => wpAny (model X.prog X.w) X.A (f v u) Q X.xe s₂) X.xe s₁) X.xe s := by
 refine thn (ha pins s σ H _ I h) fun v s1 ⟨x, H1, I1, r1, q1⟩ => ?_;refine thn (hb pins s1 σ H1 _ I1 q1) fun u s2 ⟨y, H2, I2, r2, q2⟩ => ?_;exact hf v u s2 x y H2 I2 r1 r2 q2
theorem yb {op : Operator} {r : R2} (ho : OpR X (binaryOp op) r) (ha : PE X a ta) (hb : PE X b tb) : PE X (.BinOp a op b pos) (tOp r ta tb) := by
 intro pins s σ H Q I h;exact wpAny_BinOp (zm2 ha hb I h fun v u s2 x y H2 I2 rx ry q => ho pins s2 σ H2 x y v u Q I2 rx ry q)
theorem zgo {op : UnaryOp} {r : V → Hp → VK → Prop} (ho : UnR X (unaryOp op) r) (ha : PE X a ta) : PE X (.UnaryOp op a pos) (tUn r ta) := by
 intro pins s σ H Q I h;exact UnaryOp_ (thn (ha pins s σ H _ I h) fun v s1 ⟨x, H1, I1, r1, q1⟩ => ho pins s1 σ H1 x v Q I1 r1 q1)
theorem opI {f : Value → Value → Sem Value} {C : Int → Int → Prop} {g : Int → Int → Int}
  (rule : ∀ (i j : Int) (t u : Tok) (s : Shared) (Q : Value → Shared → Prop) (E : Value → Shared → Prop), C i j → Q (.int (g i j) s.toks) { s with toks := s.toks + 1 } → wpAny (model X.prog X.w) X.A (f (.int i t) (.int j u)) Q E s) :
  OpR X f (rI C fun i j => .int (g i j)) := by
 intro pins s σ H x y v u Q I rx ry h;obtain ⟨i, j, rfl, rfl, hc, q⟩ := h;obtain ⟨t, rfl⟩ := rx;obtain ⟨t', rfl⟩ := ry;exact rule i j t t' s _ _ hc ⟨.int (g i j), H, I.tok _, ⟨_, rfl⟩, q⟩
theorem zou {f : Value → Value → Sem Value} {g : Int → Int → Int}
  (rule : ∀ (i j : Int) (t u : Tok) (s : Shared) (Q : Value → Shared → Prop) (E : Value → Shared → Prop), Q (.int (g i j) s.toks) { s with toks := s.toks + 1 } → wpAny (model X.prog X.w) X.A (f (.int i t) (.int j u)) Q E s) :
  OpR X f (rI0 fun i j => .int (g i j)) := by
 intro pins s σ H x y v u Q I rx ry h;obtain ⟨i, j, rfl, rfl, q⟩ := h;obtain ⟨t, rfl⟩ := rx;obtain ⟨t', rfl⟩ := ry;exact rule i j t t' s _ _ ⟨.int (g i j), H, I.tok _, ⟨_, rfl⟩, q⟩
theorem zjs {f : Value → Value → Sem Value} {g : Int → Int → Bool}
  (rule : ∀ (i j : Int) (t u : Tok) (s : Shared) (Q : Value → Shared → Prop) (E : Value → Shared → Prop), Q (.bool (g i j)) s → wpAny (model X.prog X.w) X.A (f (.int i t) (.int j u)) Q E s) :
  OpR X f (rI0 fun i j => .bl (g i j)) := by
 intro pins s σ H x y v u Q I rx ry h;obtain ⟨i, j, rfl, rfl, q⟩ := h;obtain ⟨t, rfl⟩ := rx;obtain ⟨t', rfl⟩ := ry;exact rule i j t t' s _ _ ⟨.bl (g i j), H, I, rfl, q⟩
noncomputable def zqc (i j : Int) : Prop := 0 ≤ j ∧ j ≤ 1000000 ∧ i.natAbs < 2 ^ 64
noncomputable def ziw (i j : Int) : Prop := (-(2 ^ 64) < i ∧ i < 2 ^ 64) ∨ (-(2 ^ 64) < j ∧ j < 2 ^ 64)
theorem ziw.ok {i j : Int} (h : ziw i j) : IntMulOk i j := by
 rcases h with ⟨h1, h2⟩ | ⟨h1, h2⟩
 · exact .of_left (intBits_le_64 h1 h2)
 · exact .of_right (intBits_le_64 h1 h2)
theorem xt : OpR X (binaryOp .Add) (rI0 fun i j => .int (i + j)) := zou fun _ _ _ _ _ _ _ q => add_int q
theorem jm : OpR X (binaryOp .Sub) (rI0 fun i j => .int (i - j)) := zou fun _ _ _ _ _ _ _ q => sub_int q
theorem ve : OpR X (binaryOp .Mult) (rI ziw fun i j => .int (i * j)) := opI fun _ _ _ _ _ _ _ hc q => mul_int q hc.ok
theorem jn : OpR X (binaryOp .Mod) (rI (fun _ j => 0 < j) fun i j => .int (i % j)) := opI fun i j _ _ _ _ _ hc q => by
 have h1 : (0 : Int) < j := hc;exact mod_int' (by omega) (by rw [Int.fmod_eq_emod_of_nonneg i (by omega)]; exact q)
theorem zl8 : OpR X (binaryOp .Pow) (rI zqc fun i j => .int (i ^ j.toNat)) := opI fun _ _ _ _ _ _ _ hc q => pow_int_small hc.1 hc.2.1 hc.2.2 q
theorem unI {f : Value → Sem Value} {g : Int → Int}
  (rule : ∀ (i : Int) (t : Tok) (s : Shared) (Q : Value → Shared → Prop) (E : Value → Shared → Prop), Q (.int (g i) s.toks) { s with toks := s.toks + 1 } → wpAny (model X.prog X.w) X.A (f (.int i t)) Q E s) :
  UnR X f (rU fun i => .int (g i)) := by
 intro pins s σ H x v Q I rx h;obtain ⟨i, rfl, q⟩ := h;obtain ⟨t, rfl⟩ := rx;exact rule i t s _ _ ⟨.int (g i), H, I.tok _, ⟨_, rfl⟩, q⟩
theorem zbk : UnR X (unaryOp .USub) (rU fun i => .int (-i)) := unI fun _ _ _ _ _ q => neg_int q
end
noncomputable def zoc : V → V → Bool
 | .non, .non => true | .non, .int _ => true | .int _, .non => true | .non, .bl _ => true | .bl _, .non => true | .non, .str _ => true | .str _, .non => true
 | .int _, .int _ => true | .bl _, .bl _ => true | .str _, .str _ => true | .byt _, .byt _ => true
 | .int _, .str _ => true | .str _, .int _ => true | .bl _, .str _ => true | .str _, .bl _ => true
 | _, _ => false
noncomputable def rEq : R2 := fun x y H Q => zoc x y = true ∧ Q (.bl (decide (x = y))) H
noncomputable def rNe : R2 := fun x y H Q => zoc x y = true ∧ Q (.bl (!decide (x = y))) H
theorem dec_int {i j : Int} : decide (V.int i = V.int j) = (i == j) := by
 rw [Bool.eq_iff_iff];simp
theorem zid {i j : Bool} : decide (V.bl i = V.bl j) = (i == j) := by
 rw [Bool.eq_iff_iff];simp
theorem zd1 {i j : Str} : decide (V.str i = V.str j) = (i == j) := by
 rw [Bool.eq_iff_iff];simp
theorem zd2 {i j : Array UInt8} : decide (V.byt i = V.byt j) = (i.toList == j.toList) := by
 rw [Bool.eq_iff_iff];cases i;cases j;simp
section
variable {a b : Expr} {tb tc : TE}
theorem yv {Q : VK} {k k' : Bool} (I : Inv X pins σ H s) (q : Q (.bl k) H) (e : k = k') : EP X pins σ Q (.bool k') s := by
 subst e;exact ⟨.bl k, H, I, rfl, q⟩
theorem wa : OpR X (compareOp .Eq) rEq := by
 intro pins s σ H x y v u Q I rx ry h;obtain ⟨hs, q⟩ := h;cases x with
 | non =>
   cases rx;cases y with
   | non => cases ry; exact PySem.EqNone.eq_none_none (yv I q (by simp))
   | bl j => cases ry; exact PySem.EqNone.eq_none_bool (yv I q (by simp))
   | int j => obtain ⟨t', rfl⟩ := ry; exact PySem.EqNone.eq_none_int (yv I q (by simp))
   | str j => obtain ⟨t', rfl⟩ := ry; exact PySem.EqNone.eq_none_str (yv I q (by simp))
   | _ => exact absurd (show false = true from hs) az
 | bl i =>
   cases rx;cases y with
   | non => cases ry; exact PySem.EqNone.eq_bool_none (yv I q (by simp))
   | bl j => cases ry; exact eq_bool (yv I q zid)
   | str j => obtain ⟨t', rfl⟩ := ry; exact PySem.EqMixed.eq_bool_str (yv I q (by simp))
   | _ => exact absurd (show false = true from hs) az
 | int i =>
   obtain ⟨t, rfl⟩ := rx;cases y with
   | non => cases ry; exact PySem.EqNone.eq_int_none (yv I q (by simp))
   | int j => obtain ⟨t', rfl⟩ := ry; exact eq_int (yv I q dec_int)
   | str j => obtain ⟨t', rfl⟩ := ry; exact PySem.EqMixed.eq_int_str (yv I q (by simp))
   | _ => exact absurd (show false = true from hs) az
 | str i =>
   obtain ⟨t, rfl⟩ := rx;cases y with
   | non => cases ry; exact PySem.EqNone.eq_str_none (yv I q (by simp))
   | bl j => cases ry; exact PySem.EqMixed.eq_str_bool (yv I q (by simp))
   | int j => obtain ⟨t', rfl⟩ := ry; exact PySem.EqMixed.eq_str_int (yv I q (by simp))
   | str j => obtain ⟨t', rfl⟩ := ry; exact eq_str (yv I q zd1)
   | _ => exact absurd (show false = true from hs) az
 | byt i =>
   obtain ⟨t, rfl⟩ := rx;cases y with
   | byt j => obtain ⟨t', rfl⟩ := ry; exact PySem.W.eq_bytes (yv I q zd2)
   | _ => exact absurd (show false = true from hs) az
 | _ => cases y <;> exact absurd (show false = true from hs) az
theorem ka : OpR X (compareOp .NotEq) rNe := by
 intro pins s σ H x y v u Q I rx ry h;obtain ⟨hs, q⟩ := h;cases x with
 | non =>
   cases rx;cases y with
   | non => cases ry; exact PySem.EqNone.ne_none_none (yv I q (by simp))
   | bl j => cases ry; exact PySem.EqNone.ne_none_bool (yv I q (by simp))
   | int j => obtain ⟨t', rfl⟩ := ry; exact PySem.EqNone.ne_none_int (yv I q (by simp))
   | str j => obtain ⟨t', rfl⟩ := ry; exact PySem.EqNone.ne_none_str (yv I q (by simp))
   | _ => exact absurd (show false = true from hs) az
 | bl i =>
   cases rx;cases y with
   | non => cases ry; exact PySem.EqNone.ne_bool_none (yv I q (by simp))
   | bl j => cases ry; exact ne_bool (yv I q (congrArg not zid))
   | str j => obtain ⟨t', rfl⟩ := ry; exact PySem.EqMixed.ne_bool_str (yv I q (by simp))
   | _ => exact absurd (show false = true from hs) az
 | int i =>
   obtain ⟨t, rfl⟩ := rx;cases y with
   | non => cases ry; exact PySem.EqNone.ne_int_none (yv I q (by simp))
   | int j => obtain ⟨t', rfl⟩ := ry; exact ne_int (yv I q (congrArg not dec_int))
   | str j => obtain ⟨t', rfl⟩ := ry; exact PySem.EqMixed.ne_int_str (yv I q (by simp))
   | _ => exact absurd (show false = true from hs) az
 | str i =>
   obtain ⟨t, rfl⟩ := rx;cases y with
   | non => cases ry; exact PySem.EqNone.ne_str_none (yv I q (by simp))
   | bl j => cases ry; exact PySem.EqMixed.ne_str_bool (yv I q (by simp))
   | int j => obtain ⟨t', rfl⟩ := ry; exact PySem.EqMixed.ne_str_int (yv I q (by simp))
   | str j => obtain ⟨t', rfl⟩ := ry; exact ne_str (yv I q (congrArg not zd1))
   | _ => exact absurd (show false = true from hs) az
 | byt i =>
   obtain ⟨t, rfl⟩ := rx;cases y with
   | byt j => obtain ⟨t', rfl⟩ := ry; exact PySem.W.ne_bytes (yv I q (congrArg not zd2))
   | _ => exact absurd (show false = true from hs) az
 | _ => cases y <;> exact absurd (show false = true from hs) az
theorem Yn : OpR X (compareOp .Lt) (rI0 fun i j => .bl (decide (i < j))) := zjs fun _ _ _ _ _ _ _ q => lt_int q
theorem W0 : OpR X (compareOp .LtE) (rI0 fun i j => .bl (decide (i ≤ j))) := zjs fun _ _ _ _ _ _ _ q => le_int q
theorem W1 : OpR X (compareOp .Gt) (rI0 fun i j => .bl (decide (j < i))) := zjs fun _ _ _ _ _ _ _ q => gt_int q
theorem zdl : OpR X (compareOp .GtE) (rI0 fun i j => .bl (decide (j ≤ i))) := zjs fun _ _ _ _ _ _ _ q => ge_int q
theorem Jp : OpR X (compareOp .Is) (fun x y H Q => y = .non ∧ Q (.bl (decide (x = .non))) H) := by
 intro pins s σ H x y v u Q I rx ry h;obtain ⟨rfl, q⟩ := h;cases ry;refine is_none_gen (yv I q ?_);cases x <;> first
  | (cases rx; rfl)
  | (obtain ⟨t, rfl⟩ := rx; rfl)
theorem Ym : OpR X (compareOp .IsNot) (fun x y H Q => y = .non ∧ Q (.bl (!decide (x = .non))) H) := by
 intro pins s σ H x y v u Q I rx ry h;obtain ⟨rfl, q⟩ := h;cases ry;refine isnot_none_gen (yv I q ?_);cases x <;> first
  | (cases rx; rfl)
  | (obtain ⟨t, rfl⟩ := rx; rfl)
theorem zt (b : Expr) {op : CmpOp} (h : op ≠ .In := by decide) (h2 : op ≠ .NotIn := by decide) : behindInMarks op b = false := by
 have e1 : (op == CmpOp.In) = false := by cases op <;> first | rfl | exact absurd rfl h
 have e2 : (op == CmpOp.NotIn) = false := by cases op <;> first | rfl | exact absurd rfl h2
 cases b <;> simp [behindInMarks, e1, e2]
theorem xg {op : CmpOp} {r : R2} (ho : OpR X (compareOp op) r) (ha : PE X a ta) (hb : PE X b tb) (hm : behindInMarks op b = false) : PE X (.Compare a [op] [b] pos) (tOp r ta tb) := by
 intro pins s σ H Q I h;exact wpAny_Compare1 (zm2 ha hb I h fun v u s2 x y H2 I2 rx ry q => ho pins s2 σ H2 x y v u Q I2 rx ry q) hm
noncomputable def zkz (t : TE) : TT := fun σ H Q => t σ H fun x H' => ∃ k, x = .bl k ∧ Q k H'
theorem zw {op : CmpOp} {r : R2} (ho : OpR X (compareOp op) r) (ha : PE X a ta) (hb : PE X b tb) (hm : behindInMarks op b = false) : PT X (.Compare a [op] [b] pos) (zkz (tOp r ta tb)) := by
 intro pins s σ H Q I h;refine wpAny_isTrue_Compare1 (thn (ha pins s σ H _ I h) fun v s1 ⟨x, H1, I1, r1, q1⟩ => thn (hb pins s1 σ H1 _ I1 q1) fun u s2 ⟨y, H2, I2, r2, q2⟩ =>
  thn (ho pins s2 σ H2 x y v u _ I2 r1 r2 q2) fun c s3 ⟨z, H3, I3, r3, k, e, q3⟩ => ?_) hm
 subst e;cases r3;exact wpAny_truthy_bool ⟨H3, I3, q3⟩
noncomputable def zf7 (r r' : R2) (ta tb tc : TE) : TE := fun σ H Q => ta σ H fun x H1 => tb σ H1 fun y H2 => r x y H2 fun z H3 => ∃ k, z = .bl k ∧
 (if k = true then tc σ H3 fun w' H4 => r' y w' H4 Q else Q (.bl false) H3)
theorem Wz {op op' : CmpOp} {r r' : R2} (ho : OpR X (compareOp op) r) (ho' : OpR X (compareOp op') r') (ha : PE X a ta) (hb : PE X b tb) (hc : PE X c tc)
  (hm : lastMarks [op, op'] [b, c] = false := by with_unfolding_all rfl) : PE X (.Compare a [op, op'] [b, c] pos) (zf7 r r' ta tb tc) := by
 intro pins s σ H Q I h;refine Compare_chain (thn (ha pins s σ H _ I h) fun v s1 ⟨x, H1, I1, r1, q1⟩ => chain_link (thn (hb pins s1 σ H1 _ I1 q1) fun u s2 ⟨y, H2, I2, r2, q2⟩ =>
  thn (ho pins s2 σ H2 x y v u _ I2 r1 r2 q2) fun d s3 ⟨z, H3, I3, r3, k, e, q3⟩ => ?_)) hm
 subst e;cases r3;refine wpAny_truthy_bool ?_;cases k with
 | false => exact ite_ff ⟨.bl false, H3, I3, rfl, q3⟩
 | true => exact ite_tt (chain_last (thn (hc pins s3 σ H3 _ I3 q3) fun w' s4 ⟨z', H4, I4, r4, q4⟩ => ho' pins s4 σ H4 y z' u w' Q I4 r2 r4 q4))
theorem zgl {op op' : CmpOp} {r r' : R2} (ho : OpR X (compareOp op) r) (ho' : OpR X (compareOp op') r') (ha : PE X a ta) (hb : PE X b tb) (hc : PE X c tc)
  (hm : lastMarks [op, op'] [b, c] = false := by with_unfolding_all rfl) : PT X (.Compare a [op, op'] [b, c] pos) (zkz (zf7 r r' ta tb tc)) := by
 intro pins s σ H Q I h;refine isTrue_chain (thn (ha pins s σ H _ I h) fun v s1 ⟨x, H1, I1, r1, q1⟩ => test_link (thn (hb pins s1 σ H1 _ I1 q1) fun u s2 ⟨y, H2, I2, r2, q2⟩ =>
  thn (ho pins s2 σ H2 x y v u _ I2 r1 r2 q2) fun d s3 ⟨z, H3, I3, r3, k, e, q3⟩ => ?_)) hm
 subst e;cases r3;refine wpAny_truthy_bool ?_;cases k with
 | false =>
   obtain ⟨k', e', q'⟩ := q3;cases e';exact ite_ff ⟨H3, I3, q'⟩
 | true =>
   refine ite_tt (test_last (thn (hc pins s3 σ H3 _ I3 q3) fun w' s4 ⟨z', H4, I4, r4, q4⟩ => thn (ho' pins s4 σ H4 y z' u w' _ I4 r2 r4 q4) fun d' s5 ⟨z2, H5, I5, r5, k2, e2, q5⟩ => ?_));subst e2;cases r5;exact wpAny_truthy_bool ⟨H5, I5, q5⟩
noncomputable def zpi (K : PySem.W.Frag) (x : V) (H : Hp) (k : Bool) : Prop :=
 match x with
 | .non => k = false
 | .bl b => k = b
 | .int i => k = (i != 0)
 | .str y => y.length ≤ sizeLine ∧ k = ((y.length : Int) != 0)
 | .byt y => y.size ≤ sizeLine ∧ k = ((y.size : Int) != 0)
 | .ref p => (∃ xs, SqL K H p xs ∧ k = !xs.isEmpty) ∨ (∃ xs, SqT K H p xs ∧ k = !xs.isEmpty) ∨ ∃ kvs, H p = some (.dK kvs) ∧ k = !kvs.isEmpty
 | _ => False
theorem zcp {κ : Type} {kvs : List (κ × V)} {vs : List (κ × Value)} (r : KV kvs vs) : (!vs.isEmpty) = !kvs.isEmpty := by
 cases r <;> rfl
theorem Vc (r : ym xs its) : (!its.toArray.isEmpty) = !xs.isEmpty := by
 cases r <;> simp
theorem Zx : (sizeLine : Nat) < 2 ^ 63 := by rw [sizeLine_eq]; decide
theorem zlg : zqb X (fun x H Q => ∃ k, zpi X.K x H k ∧ Q k H) := by
 intro pins s σ H x v Q I rx h;obtain ⟨k, e, q⟩ := h;have hl := Zx;have hs : sizeLine = 16777216 := sizeLine_eq;cases x with
 | non =>
   cases rx;have e' : k = false := e;subst e';exact truthy_none ⟨H, I, q⟩
 | bl b =>
   cases rx;have e' : k = b := e;subst e';exact wpAny_truthy_bool ⟨H, I, q⟩
 | int i =>
   obtain ⟨t, rfl⟩ := rx;have e' : k = (i != 0) := e;subst e';exact PySem.P.truthy_int ⟨H, I, q⟩
 | str y =>
   obtain ⟨t, rfl⟩ := rx;obtain ⟨hy, e'⟩ : y.length ≤ sizeLine ∧ k = ((y.length : Int) != 0) := e;subst e';exact PySem.P.truthy_str (by omega) ⟨H, I.tok _, q⟩
 | byt y =>
   obtain ⟨t, rfl⟩ := rx;obtain ⟨hy, e'⟩ : y.size ≤ sizeLine ∧ k = ((y.size : Int) != 0) := e;subst e';exact PySem.W.truthy_bytes (by omega) ⟨H, I.tok _, q⟩
 | ref p =>
   cases rx;have e' : (∃ xs, SqL X.K H p xs ∧ k = !xs.isEmpty) ∨ (∃ xs, SqT X.K H p xs ∧ k = !xs.isEmpty) ∨ ∃ kvs, H p = some (.dK kvs) ∧ k = !kvs.isEmpty := e;rcases e' with ⟨xs, hx, e'⟩ | ⟨xs, hx, e'⟩ | ⟨kvs, hx, e'⟩
   · subst e';obtain ⟨its, r, pl, hz⟩ := I.list hx;have hlen := r.length;exact wpAny_truthy_list pl.isList (by simp only [ax]; omega) ⟨H, I.tok _, by rw [Vc r]; exact q⟩
   · subst e';obtain ⟨its, r, pl, hz⟩ := I.tuple hx;have hlen := r.length;exact truthy_tuple pl (by simp only [ax]; omega) ⟨H, I.tok _, by rw [Vc r]; exact q⟩
   · subst e';obtain ⟨hz, hS, vs, r, m⟩ : kvs.length ≤ sizeLine ∧ (p == sysModules) = false ∧ ∃ vs, KV kvs vs ∧ s.heap.DictOf (yk X.prog X.w) p vs := I.hok p _ hx;have hlen : kvs.length = vs.length := Paired.length r;exact wpAny_truthy_dict hS m (by omega) ⟨H, I.tok _, by rw [zcp r]; exact q⟩
 | _ => exact (show False from e).elim
theorem Wx (ha : PE X a ta) (he : ∀ whole, isTrue a X.env whole = (do let v ← whole; standAt a.pos; holding [v] (truthy v))) :
  PT X a (fun σ H Q => ta σ H fun x H' => ∃ k, zpi X.K x H' k ∧ Q k H') := by
 intro pins s σ H Q I h;exact isTrue_plain (thn (ha pins s σ H _ I h) fun v s1 ⟨x, H1, I1, r1, q1⟩ => zlg pins s1 σ H1 x v Q I1 r1 q1) (he _)
theorem v8 {x : V} (r : ym [x] us) : ∃ u, us = [u] ∧ yw x u := by
 cases r with
 | cons r1 r2 => cases r2; exact ⟨_, rfl, r1⟩
theorem znb {x : V} (r : ym [x, y] us) : ∃ u w', us = [u, w'] ∧ yw x u ∧ yw y w' := by
 cases r with
 | cons r1 r2 =>
   cases r2 with
   | cons r3 r4 => cases r4; exact ⟨_, _, rfl, r1, r3⟩
theorem zfq : v9 X (.type "int") (fun xs H Q => (∃ i, xs = [.int i] ∧ Q (.int i) H) ∨ ∃ k, xs = [.bl k] ∧ Q (.int (if k then 1 else 0)) H) := by
 intro pins s σ H xs us Q I r h;rcases h with ⟨i, rfl, q⟩ | ⟨k, rfl, q⟩
 · obtain ⟨u, rfl, t, rfl⟩ := v8 r;exact call_int_int ⟨.int i, H, I, ⟨_, rfl⟩, q⟩
 · obtain ⟨u, rfl, r1⟩ := v8 r;cases r1;exact call_int_bool ⟨.int (if k then 1 else 0), H, I.tok _, ⟨_, rfl⟩, q⟩
end
structure ObjM (h : Heap) (x dx C : Addr) (mA : Str → Option Value) : Prop where
 obj : h.get? x = some (PySem.W.instObj C dx)
 ns : h.Ns1 dx mA
 ne : dx ≠ x
theorem ze6 (n : h.Ns1 dx mA) : ∃ od, h.get? dx = some od ∧ ∀ name, PySem.W.lookIn name od = some (mA name) := by
 obtain ⟨o, es, ep, ho, hd, hk, _, hm⟩ := n;refine ⟨o, ho, fun name => ?_⟩;have e := hm name;unfold nsFind findBy at e;rw [← Array.find?_toList] at e;unfold PySem.W.lookIn;rw [hd];dsimp only;split
 · rename_i y q
   rw [q] at e;exact congrArg some e
 · rename_i q
   rw [q] at e;have a : es.toList.any (·.refKey) = false := by
    rw [List.any_eq_false];intro y hy;obtain ⟨z, t, hkey⟩ := hk y (Array.mem_toList_iff.mp hy);simp [DictEntry.refKey, hkey]
   have a' : ¬ es.toList.any (·.refKey) = true := by rw [a]; exact az
   rw [if_neg a'];exact congrArg some e
theorem ObjM.look {x : Addr} (I : ObjM h x dx C mA) : ∃ od, PySem.W.InstAt h x (PySem.W.instObj C dx) C (some od) ∧ ∀ name, PySem.W.lookIn name od = some (mA name) :=
 let ⟨od, ho, hl⟩ := ze6 I.ns
 ⟨od, ⟨I.obj, rfl, rfl, ho⟩, hl⟩
section
variable {x : Addr} {v : Value}
end
theorem V4.some_of {o : Option Value} (r : V4 (some v) o) : ∃ u, o = some u ∧ yw v u := by
 cases o with
 | none => exact (show False from r).elim
 | some u => exact ⟨u, rfl, r⟩
section
variable {H' : Hp} {fs fs' : List (Str × V)}
theorem zkd (hok : HOk P w H h) (e : H a = some (.ins C dx fs)) : ∃ mA, ObjM h a dx C mA ∧ (∀ f, V4 (fs.lookup f) (mA f)) ∧ PySem.Within mA (fs.map (·.1)) ∧ fs.length ≤ 1000 ∧ H dx = some (.own a) := by
 obtain ⟨d, z, ne, ob, mA, n, r, q⟩ := (show xk P w H h a (.ins C dx fs) from hok a _ e)
 exact ⟨mA, ⟨ob, n, ne⟩, r, q, z, d⟩
end
structure Cls (K : PySem.W.Frag) (C : Addr) : Prop where
 pg : PySem.W.plainGet K C Str.empty = true
 hd : PySem.W.hasDictIn K C = true
 po : PySem.W.plainOver K C = true
 sa : PySem.W.findIn K (.ref C) "__setattr__" = some (some (.builtin "object.__setattr__"))
theorem Cls.get (c : Cls K C) (f : Str) : PySem.W.plainGet K C f = true := c.pg
section
variable {fs : List (Str × V)} {f : Str}
end
section
variable {f : Str} {pos' tpos : Pos} {tv : TE}
end
section
variable {c : Value} {b : Bool}
inductive TyOf (K : PySem.W.Frag) (H : Hp) : V → Value → Prop where
 | non : TyOf K H .non (.type "NoneType")
 | bl (x : Bool) : TyOf K H (.bl x) (.type "bool")
 | int (i : Int) : TyOf K H (.int i) (.type "int")
 | str (x : Str) : TyOf K H (.str x) (.type "str")
 | flt (x : UInt64) : TyOf K H (.flt x) (.type "float")
 | lst {a : Addr} {xs : List V} (e : H a = some (.lst xs)) : TyOf K H (.ref a) (.type "list")
 | frz {a : Addr} {o : Obj} {xs : List V} (e : H a = some (.frz o (.lst xs))) : TyOf K H (.ref a) (.type "list")
 | tup {a : Addr} {xs : List V} (e : H a = some (.tup xs)) : TyOf K H (.ref a) (.type "tuple")
 | dK {a : Addr} {kvs : List (Key × V)} (e : H a = some (.dK kvs)) : TyOf K H (.ref a) (.type "dict")
 | dT {a : Addr} {kvs : List (List Key × V)} (e : H a = some (.dT kvs)) : TyOf K H (.ref a) (.type "dict")
 | ins {a C dx : Addr} {fs : List (Str × V)} (e : H a = some (.ins C dx fs)) (cl : Cls K C) (ha : PySem.W.findIn K (.ref C) "__class__" = some (some (.builtin "object.__class__")))
  (hn : PySem.W.specialIn K (.builtin "object.__class__") "__get__" = some (some (.builtin "getset_descriptor.__get__"))) (htk : PySem.W.takesIn K (.builtin "object.__class__") = some true)
  (hm : PySem.W.mroIn K C (.type "object") = some true) : TyOf K H (.ref a) (.ref C)
theorem zfc {x : V} {t : Value} (I : Inv X pins σ H s) (rx : yw x u) (ty : TyOf X.K H x t) (e : PySem.W.kitOne X.K t c = some b) (h : ∀ tk, Q (.bool b) { s with toks := tk }) :
  wpAny (model X.prog X.w) A (call (.builtin "isinstance") [u, c]) Q E s := by
 cases ty with
 | non => cases (show u = Value.none from rx); exact PySem.W.kia_one PySem.W.kitx_none I.kIn True.intro e (fun z => nomatch z) h
 | bl y => cases (show u = Value.bool y from rx); exact PySem.W.kia_one PySem.W.kitx_bool I.kIn True.intro e (fun z => nomatch z) h
 | int i => obtain ⟨t, q⟩ := (show ∃ t, u = Value.int i t from rx); cases q; exact PySem.W.kia_one PySem.W.kitx_int I.kIn True.intro e (fun z => nomatch z) h
 | str y => obtain ⟨t, q⟩ := (show ∃ t, u = Value.str y t from rx); cases q; exact PySem.W.kia_one PySem.W.kitx_str I.kIn True.intro e (fun z => nomatch z) h
 | flt y => obtain ⟨t, q⟩ := (show ∃ t, u = Value.float y t from rx); cases q; exact PySem.W.kia_one PySem.W.kitx_float I.kIn True.intro e (fun z => nomatch z) h
 | @lst a xs ea =>
   cases (show u = Value.ref a from rx);obtain ⟨_, _, n, _, h1⟩ := (show xk X.prog X.w H s.heap a (.lst xs) from I.hok a _ ea)
   exact PySem.W.kia_one PySem.W.kitx_list I.kIn ⟨_, h1, rfl⟩ e (fun z => nomatch z) h
 | @frz a ob xs ea =>
   cases (show u = Value.ref a from rx);obtain ⟨_, _, _, n, _, h1⟩ := (show xk X.prog X.w H s.heap a (.frz ob (.lst xs)) from I.hok a _ ea)
   exact PySem.W.kia_one PySem.W.kitx_list I.kIn ⟨_, h1, rfl⟩ e (fun z => nomatch z) h
 | @tup a xs ea =>
   cases (show u = Value.ref a from rx);obtain ⟨_, _, _, p⟩ := (show xk X.prog X.w H s.heap a (.tup xs) from I.hok a _ ea)
   obtain ⟨⟨o, h1, h2, _⟩, _⟩ := p;exact PySem.W.kia_one PySem.W.kitx_tuple I.kIn ⟨o, h1, h2⟩ e (fun z => nomatch z) h
 | @dK a kvs ea =>
   cases (show u = Value.ref a from rx);obtain ⟨_, _, vs, _, p⟩ := (show xk X.prog X.w H s.heap a (.dK kvs) from I.hok a _ ea)
   obtain ⟨o, es, ep, h1, h2, _⟩ := p;exact PySem.W.kia_one PySem.W.kitx_dict I.kIn ⟨o, h1, h2.1⟩ e (fun z => nomatch z) h
 | @dT a kvs ea =>
   cases (show u = Value.ref a from rx);obtain ⟨_, _, xs, _, o, es, ep, h1, h2, _⟩ := (show xk X.prog X.w H s.heap a (.dT kvs) from I.hok a _ ea)
   exact PySem.W.kia_one PySem.W.kitx_dict I.kIn ⟨o, h1, h2.1⟩ e (fun z => nomatch z) h
 | @ins a C dx fs ea cl ha hn htk hm =>
   cases (show u = Value.ref a from rx);obtain ⟨mA, O, _⟩ := zkd I.hok ea;obtain ⟨od, J, _⟩ := O.look;exact PySem.W.kia_one (PySem.W.kitx_own (cl.get _) cl.hd ha hn htk hm) I.kIn J e (fun z => nomatch z) h
end
structure Room (k : Nat) (A : Around) : Prop where
 hd : A.handled = none
 dp : A.depth + 3 * k + 5 < recursionLimit
 un : A.units + 16 * k + 200 < cLine
theorem Room.mono {j : Nat} (r : Room k A) (h : j ≤ k) : Room j A := ⟨r.hd, by have := r.dp; omega, by have := r.un; omega⟩
theorem Room.deeper {k : Nat} {A : Around} (r : Room (k + 1) A) (env : Env) : Room k (A.deeper env) :=
 ⟨r.hd, by have := r.dp; show A.depth + 1 + 3 * k + 5 < _; omega, by have := r.un; show A.units + 3 + 16 * k + 200 < _; omega⟩
theorem Room.depth {k : Nat} {A : Around} (r : Room k A) : A.depth < recursionLimit := by have := r.dp; omega
theorem Room.units {k : Nat} {A : Around} (r : Room k A) : A.units + 64 < cLine := by have := r.un; omega
theorem Room.units0 (r : Room k A) : A.units < cLine := by have := r.un; omega
noncomputable def zbo : TA := fun _ H Q => Q [] H
noncomputable def j9 (ta : TE) (tr : TA) : TA := fun σ H Q => ta σ H fun x H1 => tr σ H1 fun xs H2 => Q (x :: xs) H2
section
variable {t : TA}
theorem zd : PA X [] zbo := fun _ _ _ _ H Q I h => Calls.spliced_nil ⟨[], H, I, .nil, h⟩
theorem zc (ha : PE X e te) (hr : PA X es t) (hs : starEach (e :: es) X.env = (false, eval e X.env) :: starEach es X.env := by rfl) : PA X (e :: es) (j9 te t) := by
 intro pos pins s σ H Q I h;rw [hs];show wpAny _ _ (spliced ((false, eval e X.env) :: backTo pos (starEach es X.env))) _ _ s;refine Calls.spliced_cons (thn (ha pins s σ H _ I h) fun u s1 ⟨x, H1, I1, r1, q1⟩ => ?_);exact thn (hr pos pins s1 σ H1 _ I1 q1) fun us s2 ⟨xs, H2, I2, r2, q2⟩ => ⟨x :: xs, H2, I2, .cons r1 r2, q2⟩
noncomputable def znf (t : TA) : TE := fun σ H Q => t σ H fun xs H1 => xs.length ≤ sizeLine ∧ ∀ p, H1 p = none → Q (.ref p) (upd H1 p (.tup xs))
noncomputable def zpr (t : TA) : TE := fun σ H Q => t σ H fun xs H1 => xs.length ≤ sizeLine ∧ ∀ p, H1 p = none → Q (.ref p) (upd H1 p (.lst xs))
theorem w6 {x1} (h : PA X es t) : PE X (.Tuple es x1 pos) (znf t) := by
 intro pins s σ H Q I hq;refine wpAny_Tuple_spliced (thn (h pos pins s σ H _ I hq) fun us s1 ⟨xs, H1, I1, r, z, q⟩ => ⟨by rw [← r.length]; exact z, ?_⟩);have hf : H1 s1.heap.objs.size = none := I1.hok.fresh (a9 _);refine ⟨.ref s1.heap.objs.size, upd H1 s1.heap.objs.size (.tup xs), I1.laid (t' := s1.toks) (fun b u e => a8 _ e) (a9 _) ?_, rfl, q _ hf⟩;exact ⟨z, us, r, ⟨_, ar _ rfl, rfl, _, rfl⟩, NoD.push⟩
theorem jl (h : PA X es t) : PE X (.List es pos) (zpr t) := by
 intro pins s σ H Q I hq;refine wpAny_List_spliced (thn (h pos pins s σ H _ I hq) fun us s1 ⟨xs, H1, I1, r, z, q⟩ => ⟨by rw [← r.length]; exact z, ?_⟩);have hf : H1 s1.heap.objs.size = none := I1.hok.fresh (a9 _);refine ⟨.ref s1.heap.objs.size, upd H1 s1.heap.objs.size (.lst xs), I1.laid (t' := s1.toks) (fun b u e => a8 _ e) (a9 _) ?_, rfl, q _ hf⟩;exact ⟨z, us, 0, r, ar _ rfl⟩
end
abbrev Sp := List V → Hp → VK → XK → Prop
abbrev CXT := List Env → Hp → Shared → XK → Value → Shared → Prop
structure Env0 (P : Program) (w : World) (K : PySem.W.Frag) (mg : Str → Option Value) (base : Heap) (A : Around) (outer : List Env) (s : Shared) (H : Hp) : Prop where
 frames : A.frames = some outer
 mod : Mod K mg base
 bs : ∀ b o, base.get? b = some o → s.heap.get? b = some o ∧ H b = none
 bsz : base.objs.size ≤ s.heap.objs.size
 funs : s.heap.FunFrames base outer
 frf : ∀ b ∈ frs outer, H b = none
 hok : HOk P w H s.heap
 bare : AllBare s.gens
noncomputable def CE (outer : List Env) (P : Program) (w : World) (H : Hp) (s : Shared) (Q : VK) (u : Value) (s' : Shared) : Prop :=
 ∃ v H', s'.os = s.os ∧ AllBare s'.gens ∧ Un (frs outer) [] H H' s.heap s'.heap ∧ HOk P w H' s'.heap ∧ yw v u ∧ Q v H'
noncomputable def CR (CX : CXT) (outer : List Env) (P : Program) (w : World) (H : Hp) (s : Shared) (Q : VK) (E : XK) (r : Result) (s' : Shared) : Prop :=
 match r with
 | .ok (.ret u) => CE outer P w H s Q u s'
 | .ok _ => False
 | .error e => CX outer H s E e s'
structure FnOk (P : Program) (w : World) (K : PySem.W.Frag) (mg : Str → Option Value) (base : Heap) (CX : CXT) (k : Nat) (f : Addr) (fd : FuncData) (ps : List Str) (sp : Sp) : Prop where
 len : ∀ vs H Q E, sp vs H Q E → vs.length = ps.length
 run : ∀ (A : Around) (outer : List Env) (s : Shared) (H : Hp) (args : Args) (us : List Value) (vs : List V) (Q : VK) (E : XK), Room k A → Env0 P w K mg base A outer s H → BindsTo s fd args (ps.zip us) → ym vs us → sp vs H Q E →
  codeAny (model P w) A (.call (.ref f) args) (CR CX outer P w H s Q E) s
section
variable {s' : Shared}
theorem Inv.env0 (I : Inv X pins σ H s) : Env0 X.prog X.w X.K X.mg X.base X.A X.stack s H :=
 ⟨I.ok.frames, I.ok.mod, I.bs, ay I.ok.bsz I.sz, I.stack, I.stkFree, I.hok, I.bare⟩
theorem Inv.after {Q : VK} (I : Inv X pins σ H s) (h : CE X.stack X.prog X.w H s Q u s') : EP X pins σ Q u s' := by
 obtain ⟨v, H', os, bare, un, hok, r, q⟩ := h;obtain ⟨hh, g, d, t, os'⟩ := s';obtain rfl : os' = s.os := os;exact ⟨v, H', I.call (h' := hh) (g' := g) (d' := d) (t' := t) (ch := []) un hok bare (fun b z => absurd z (by simp)), r, q⟩
end
noncomputable def zk1 (sp : Sp) (dvs : List V) (E : XK) (t : TA) : TE := fun σ H Q => t σ H fun vs H1 => sp (vs ++ dvs) H1 Q E
noncomputable def Vs (K : PySem.W.Frag) (fd : FuncData) (ps : List Str) (ds : List Value) : Prop :=
 ∀ (s : Shared) (us : List Value), K.In s.heap → (us ++ ds).length = ps.length → BindsTo s fd ⟨us, []⟩ (ps.zip (us ++ ds))
theorem Vs.all (h : ∀ us : List Value, us.length = ps.length → bindArgs fd ⟨us, []⟩ = pure (ps.zip us)) : Vs K fd ps [] := fun s us _ hl => by
 rw [cw] at hl ⊢;exact .of_eq (h us hl)
noncomputable def zc3 (CX : CXT) (X : Cx) (E : XK) : Prop := ∀ (pins : List (Addr × Obj)) (σ : St) (H : Hp) (s : Shared) (e : Value) (s' : Shared), Inv X pins σ H s → CX X.stack H s E e s' → X.xe e s'
section
variable {CX : CXT} {sp : Sp} {dvs : List V} {E : XK} {m : Str} {t : TA}
theorem zly {Q : VK} (F : FnOk X.prog X.w X.K X.mg X.base CX k f fd ps sp) (hr : Room k X.A) (hb : Vs X.K fd ps ds) (hd : ym dvs ds) (hx : zc3 CX X E)
  (I : Inv X pins σ H s) (r : ym vs us) (h : sp (vs ++ dvs) H Q E) : wpAny (model X.prog X.w) X.A (call (.ref f) us) (EP X pins σ Q) X.xe s := by
 have r2 : ym (vs ++ dvs) (us ++ ds) := r.append hd;have hl : (us ++ ds).length = ps.length := by rw [← r2.length]; exact F.len _ _ _ _ h
 refine wpAny_call (codeAny_mono (F.run X.A X.stack s H ⟨us, []⟩ (us ++ ds) (vs ++ dvs) Q E hr I.env0 (hb s us I.kIn hl) r2 h) fun r s' hq => ?_);cases r with
 | error e => exact hx pins σ H s e s' I hq
 | ok fl =>
   cases fl with
   | ret u => exact I.after hq
   | next => exact False.elim hq
   | brk => exact False.elim hq
   | cont => exact False.elim hq
theorem zjo (F : FnOk X.prog X.w X.K X.mg X.base CX k f fd ps sp) (hr : Room k X.A) (hg : Gl X x) (hm : X.mg x = some (.ref f)) (hk : PySem.W.keepIn X.K (.ref f) = true) (hb : Vs X.K fd ps ds) (hd : ym dvs ds) (hx : zc3 CX X E)
  (ha : PA X (e :: es) t) (hdb : (x == ("__debug__" : Str)) = false := by decide) (he : starEach (e :: es) X.env = (false, eval e X.env) :: starEach es X.env := by rfl) (hpl : (backTo pos (starEach es X.env)).any (·.1) = false := by rfl) :
  PE X (.Call (.Name x p) (e :: es) [] pos) (zk1 sp dvs E t) := by
 intro pins s σ H Q I h;refine wpAny_Call_Name_kw (J6 I hg hm ?_ hdb);refine PySem.W.callWith_K (h₀ := X.base) I.ok.mod.kin hk (thn (ha pos pins s σ H _ I h) fun us s1 ⟨vs, H1, I1, r, q⟩ => ⟨I1.kIn, ?_⟩) he hpl;exact zly F hr hb hd hx I1 r q
end
section
variable {CX : CXT} {ks : List Str} {sp : Sp} {E : XK} {m : Str} {kpos : Pos} {kws : List Keyword} {t tk : TA} {nm : Option Str}
variable {g : List Value → List Value → List Value} {gV : List V → List V → List V}
end
structure FnScope (N P : List Str) (sc : Scope) : Prop where
 kind : sc.kind = .function
 co : sc.isCoroutine = false
 gen : sc.isGenerator = false
 nd : N.Nodup
 pre : N.take P.length = P
 par : ∀ x ∈ P, sc.names.lookup x = some .local ∨ sc.names.lookup x = some .cell
 nofree : ∀ y ∈ sc.names, y.2 ≠ .free
theorem Q2 {kindOf : Str → Option NameKind} {x : Str} : ∀ {binds : List (Str × Value)} {m : Str → Option Value}, (∀ v, (x, v) ∉ binds) → bindL kindOf binds m x = m x
 | [], _, _ => rfl
 | (n, v) :: r, m, h => by
   unfold bindL;rw [Q2 fun w hw => h w (bn _ hw)];split
   · have : x ≠ n := by rintro rfl; exact h v be
     simp [this]
   · rfl
theorem Q6 {kindOf : Str → Option NameKind} {x : Str} : ∀ {binds : List (Str × Value)} {m : Str → Option Value}, (∀ v, (x, v) ∉ binds) → bindC kindOf binds m x = m x
 | [], _, _ => rfl
 | (n, v) :: r, m, h => by
   unfold bindC;rw [Q6 fun w hw => h w (bn _ hw)];split
   · rfl
   · have : x ≠ n := by rintro rfl; exact h v be
     simp [this]
theorem Q3 {kindOf : Str → Option NameKind} {x : Str} {v : Value} : ∀ {P : List Str} {vs : List Value} {i : Nat} {m : Str → Option Value}, P.Nodup → P[i]? = some x → vs[i]? = some v → kindOf x = some .local →
  bindL kindOf (P.zip vs) m x = some v
 | [], _, _, _, _, h, _, _ => by simp at h
 | _ :: _, [], _, _, _, _, h, _ => by simp at h
 | p :: P, w :: vs, 0, m, nd, h1, h2, hk => by
   simp at h1 h2; subst h1; subst h2;show bindL kindOf ((p, w) :: P.zip vs) m p = _;unfold bindL;rw [Q2 fun v hv => (c7.mp nd).1 (List.of_mem_zip hv).1, if_pos hk];simp
 | p :: P, w :: vs, i + 1, m, nd, h1, h2, hk => by
   show bindL kindOf ((p, w) :: P.zip vs) m x = _;unfold bindL;exact Q3 (i := i) (c7.mp nd).2 (by simpa using h1) (by simpa using h2) hk
theorem Q7 {kindOf : Str → Option NameKind} {x : Str} {v : Value} : ∀ {P : List Str} {vs : List Value} {i : Nat} {m : Str → Option Value}, P.Nodup → P[i]? = some x → vs[i]? = some v → kindOf x ≠ some .local →
  bindC kindOf (P.zip vs) m x = some v
 | [], _, _, _, _, h, _, _ => by simp at h
 | _ :: _, [], _, _, _, _, h, _ => by simp at h
 | p :: P, w :: vs, 0, m, nd, h1, h2, hk => by
   simp at h1 h2; subst h1; subst h2;show bindC kindOf ((p, w) :: P.zip vs) m p = _;unfold bindC;rw [Q6 fun v hv => (c7.mp nd).1 (List.of_mem_zip hv).1, if_neg hk];simp
 | p :: P, w :: vs, i + 1, m, nd, h1, h2, hk => by
   show bindC kindOf ((p, w) :: P.zip vs) m x = _;unfold bindC;exact Q7 (i := i) (c7.mp nd).2 (by simpa using h1) (by simpa using h2) hk
noncomputable def start (N : List Str) (vs : List V) : St := vs.map some ++ List.replicate (N.length - vs.length) none
noncomputable def zba (CX : CXT) (P : Program) (w : World) (K : PySem.W.Frag) (mg : Str → Option Value) (base : Heap) (N : List Str) (qual : Str) (scope : Scope) (f : Addr) (cd : Value) (A : Around) (outer : List Env) (s : Shared) (H : Hp) (E : XK) : Cx where
 prog := P
 w := w
 K := K
 mg := mg
 base := base
 A := A.deeper (envOfC qual scope s.heap.objs.size f cd)
 N := N
 s₀ := s
 H₀ := H
 env := envOfC qual scope s.heap.objs.size f cd
 outer := outer
 stack := envOfC qual scope s.heap.objs.size f cd :: outer
 ex := []
 calm := true
 fn := fun _ => true
 pn := []
 xe := fun e s' => wpAny (model P w) (A.deeper (envOfC qual scope s.heap.objs.size f cd)) (leaving (envOfC qual scope s.heap.objs.size f cd) e) (fun _ s'' => CX outer H s E e s'') (fun e' s'' => CX outer H s E e' s'') s'
theorem zbd {sc : Scope} (h : sc.names.lookup x = some .cell) : ∃ c, (cellsFrom n sc.names []).lookup x = some c := by
 have q := PySem.W.cellsFrom_some sc.names n [] (.inl h);exact dq.mp q
theorem zfd {CX : CXT} {cd : Value} {outer : List Env} {s1 : Shared} {E : XK}
  (S : FnScope N ps scope) (hd : A.handled = none) (e0 : Env0 P w K mg base A outer s H) (hl : vs.length = ps.length) (r : ym vs us)
  (x : InCallC s s.heap.objs.size (bindL (envOfC qual scope s.heap.objs.size f cd).kindOf (ps.zip us) fun _ => none) (cellsFrom (s.heap.objs.size + 1) scope.names []) (bindC (envOfC qual scope s.heap.objs.size f cd).kindOf (ps.zip us) fun _ => none) s1) :
  Inv (zba CX P w K mg base N qual scope f cd A outer s H E) [] (start N vs) H s1 := by
 have hpl : ps.length ≤ N.length := by have := congrArg List.length S.pre; rw [cx] at this; omega
 obtain ⟨h1, tk, rfl, hk⟩ := x.done;have noA : ∀ b : Addr, b ∉ (zba CX P w K mg base N qual scope f cd A outer s H E).ex := fun b z => absurd (show b ∈ ([] : List Addr) from z) (by simp);refine ⟨⟨e0.mod, S.kind, rfl, rfl, a9 _, fun y z c h1 h2 => ?_, fun y hy => ?_, fun y c _ h => ?_, fun _ => hd, Around.frames_deeper e0.frames, .inr ⟨rfl, rfl⟩, fun b z => absurd z (noA b), e0.bs, e0.bsz, fun b _ _ => noA b, fun b z => absurd z (noA b), e0.funs, e0.frf⟩,
  rfl, e0.bare, Un.kept hk, ⟨_, x.toInCall.ns, fun i y v h1 h2 h3 => ?_⟩, fun y c h => ⟨_, x.cell y c h⟩, e0.hok.fresh (a9 _), fun y c h => ?_, fun p hp => absurd (show p ∈ ([] : List (Addr × Obj)) from hp) (by simp), e0.hok.kept hk, ?_⟩
 · exact name_of_addr x.apart (PySem.mem_of_lookup h1) (PySem.mem_of_lookup h2)
 · have hy : scope.names.lookup y = some .cell ∨ scope.names.lookup y = some .free := hy;rcases hy with hy | hy
   · exact zbd hy
   · exact absurd rfl (S.nofree _ (PySem.mem_of_lookup hy))
 · exact Nat.le_of_lt (x.above y c (PySem.mem_of_lookup h))
 · have hi : i < vs.length := by
    unfold start at h2;by_cases hi : i < vs.length
    · exact hi
    · rw [List.getElem?_append_right (by simpa using hi)] at h2;rw [List.getElem?_replicate] at h2;split at h2 <;> cases h2
   have ha : vs[i]? = some v := by
    unfold start at h2;rw [dh (by simpa using hi), ao] at h2;cases e : vs[i]? with
    | none => rw [e] at h2; cases h2
    | some a => rw [e] at h2; cases h2; rfl
   obtain ⟨u, hu, rv⟩ := r.get ha;have hp : ps[i]? = some y := by
    rw [← S.pre, List.getElem?_take_of_lt (by omega)]; exact h1
   have ndP : ps.Nodup := by rw [← S.pre]; exact S.nd.sublist (List.take_sublist _ _)
   refine ⟨u, rv, ?_⟩;rcases S.par y (bj hp) with k | k
   · exact .inl ⟨k, Q3 ndP hp hu k⟩
   · obtain ⟨c, e⟩ := zbd (n := s.heap.objs.size + 1) k;refine .inr ⟨.inl k, c, e, ?_⟩;have q := x.cell y c e;rw [Q7 ndP hp hu (by show scope.names.lookup y ≠ _; rw [k]; decide)] at q;exact q
 · exact e0.hok.fresh (Nat.le_of_lt (x.above y c (PySem.mem_of_lookup h)))
 · unfold start;show _ = N.length;rw [ba, a7, c9];omega
theorem zk8 {CX : CXT} {params : Arguments} {dV kV doc pm cdv ct oc : Value} {an od : Option Addr}
  {sp : Sp} (lk : K.lookup f = some ⟨oc, od, .func (PySem.W.fnOf name qual params body scope dV kV doc pm an cdv ct), osl⟩) (hcd : PySem.W.codeIn K cdv qual = true) (S : FnScope N ps scope)
  (len : ∀ vs H Q E, sp vs H Q E → vs.length = ps.length)
  (hbody : ∀ (A : Around) (outer : List Env) (s : Shared) (H : Hp) (vs : List V) (Q : VK) (E : XK), Room k (A.deeper (envOfC qual scope s.heap.objs.size f cdv)) → sp vs H Q E →
   ∃ t, PSs (zba CX P w K mg base N qual scope f cdv A outer s H E) body t ∧ t { nx := fun _ H' => Q .non H', rt := Q } (start N vs) H) :
  FnOk P w K mg base CX (k + 1) f (PySem.W.fnOf name qual params body scope dV kV doc pm an cdv ct) ps sp := by
 refine ⟨len, fun A outer s H args us vs Q E hr e0 hb r hsp => ?_⟩;have hl := len _ _ _ _ hsp;have KX : K.In s.heap := e0.mod.kin.keeps fun b o e => (e0.bs b o e).1;have lim : s.heap.NoLimit := e0.mod.nolimit.keeps fun b o e => (e0.bs b o e).1;have hkind : ∀ y ∈ ps.zip us, scope.names.lookup y.1 = some .local ∨ (scope.names.lookup y.1 = some .cell ∧ ((cellsFrom (s.heap.objs.size + 1) scope.names []).lookup y.1).isSome = true) := fun ⟨n, v⟩ hy => by
  rcases S.par n (List.of_mem_zip hy).1 with q | q
  · exact .inl q
  · exact .inr ⟨q, PySem.W.cellsFrom_some _ _ _ (.inl q)⟩
 refine codeAny_call_function hr.depth (KX _ _ lk) rfl S.co S.gen rfl (PySem.W.codeRec_of KX hcd) (hb _ _ _ _ ?_);refine wpAny_newFunctionEnv_cells S.kind hkind fun env he s1 x => ?_;subst he;refine ⟨lim.keeps x.toInCall.keep, codeAny_func ?_⟩;obtain ⟨t, ht, hq⟩ := hbody A outer s H vs Q E (hr.deeper _) hsp;have I : Inv (zba CX P w K mg base N qual scope f cdv A outer s H E) [] (start N vs) H s1 := zfd S hr.hd e0 hl r x;refine cj (ht [] s1 (start N vs) H _ I hq) (fun fl s' hs => ?_) fun e s' hs => hs;have fin : ∀ {σ' : St} {H' : Hp} {v : V} {u : Value}, Inv (zba CX P w K mg base N qual scope f cdv A outer s H E) [] σ' H' s' → yw v u → Q v H' → CE outer P w H s Q u s' :=
  fun {σ' H' v u} J rv q => ⟨v, H', J.os, J.bare, J.base, J.hok, rv, q⟩
 cases fl with
 | ret u =>
   obtain ⟨v, σ', H', J, rv, q⟩ := hs;exact fin J rv q
 | next =>
   obtain ⟨σ', H', J, q⟩ := hs;exact fin (v := V.non) (u := Value.none) J rfl q
 | brk =>
   obtain ⟨_, _, _, q⟩ := hs;exact False.elim q
 | cont =>
   obtain ⟨_, _, _, q⟩ := hs;exact False.elim q
section
variable {t : TA} {T : String} {r : List V → Hp → VK → Prop}
noncomputable def tCB (r : List V → Hp → VK → Prop) (t : TA) : TE := fun σ H Q => t σ H fun vs H1 => r vs H1 Q
theorem zn (hc : v9 X (.builtin id) r) (hg : Gl X x) (hm : X.mg x = none) (hv : bootBuiltins x = some (.builtin id)) (ha : PA X (e :: es) t) (hn : x ≠ "__name__" := by decide) (hdb : (x == ("__debug__" : Str)) = false := by decide)
  (he : starEach (e :: es) X.env = (false, eval e X.env) :: starEach es X.env := by rfl) (hpl : (backTo pos (starEach es X.env)).any (·.1) = false := by rfl) : PE X (.Call (.Name x p) (e :: es) [] pos) (tCB r t) := by
 intro pins s σ H Q I h;refine wpAny_Call_Name_kw (Zy I hg hm hv ?_ hn hdb);exact PyProof.Rows.callWith_builtin1 (thn (ha pos pins s σ H _ I h) fun us s1 ⟨vs, H1, I1, r1, q1⟩ => hc pins s1 σ H1 vs us Q I1 r1 q1) he hpl
theorem yp (hc : v9 X (.type T) r) (hg : Gl X x) (hm : X.mg x = none) (hv : bootBuiltins x = some (.type T)) (ha : PA X (e :: es) t) (hn : x ≠ "__name__" := by decide) (hdb : (x == ("__debug__" : Str)) = false := by decide)
  (he : starEach (e :: es) X.env = (false, eval e X.env) :: starEach es X.env := by rfl) (hpl : (backTo pos (starEach es X.env)).any (·.1) = false := by rfl) : PE X (.Call (.Name x p) (e :: es) [] pos) (tCB r t) := by
 intro pins s σ H Q I h;refine wpAny_Call_Name_kw (Zy I hg hm hv ?_ hn hdb);exact PyProof.Rows.callWith_type1 (thn (ha pos pins s σ H _ I h) fun us s1 ⟨vs, H1, I1, r1, q1⟩ => hc pins s1 σ H1 vs us Q I1 r1 q1) he hpl
end
section
variable {κ : Type} [DecidableEq κ]
noncomputable def jf (kvs : List (κ × V)) (k : κ) : Option V := (kvs.find? fun kv => decide (kv.1 = k)).map (·.2)
noncomputable def Zv (kvs : List (κ × V)) (k : κ) (v : V) : List (κ × V) :=
 if (kvs.any fun kv => decide (kv.1 = k)) = true then kvs.map (fun kv => if kv.1 = k then (kv.1, v) else kv) else kvs ++ [(k, v)]
theorem Z6 {p : κ × V} {r : List (κ × V)} {k : κ} (e : p.1 = k) : jf (p :: r) k = some p.2 := by simp [jf, List.find?_cons, e]
theorem Z7 {p : κ × V} {r : List (κ × V)} {k : κ} (e : ¬ p.1 = k) : jf (p :: r) k = jf r k := by simp [jf, List.find?_cons, e]
theorem Z8 (k : κ) : ∀ kvs : List (κ × V), (kvs.any fun kv => decide (kv.1 = k)) = (jf kvs k).isSome
 | [] => rfl
 | p :: r => by
   rw [List.any_cons];by_cases e : p.1 = k
   · simp only [Z6 e, ai e, Bool.true_or, Option.isSome_some]
   · rw [Z7 e, av e, Bool.false_or]; exact Z8 k r
theorem Xr (kvs : List (κ × V)) (k : κ) (v : V) : (Zv kvs k v).length ≤ kvs.length + 1 := by
 unfold Zv;split
 · rw [a7]; omega
 · rw [ba, ck, List.length_nil]; omega
theorem K6 {kvs : List (κ × V)} {k : κ} (v : V) (h : jf kvs k = none) : Zv kvs k v = kvs ++ [(k, v)] := by
 unfold Zv;rw [Z8, h];exact if_neg (by decide)
theorem V4.isSome_eq {o : Option V} {u : Option Value} (r : V4 o u) : o.isSome = u.isSome := by
 cases o with
 | none => cases u with
   | none => rfl
   | some _ => exact (show False from r).elim
 | some _ => cases u with
   | none => exact (show False from r).elim
   | some _ => rfl
end
theorem zo2 {k : Key} (r : yw (kV k) u) : (yk P w).is k u = true := by
 cases k with
 | inl i => obtain ⟨t, e⟩ := (show ∃ t, u = Value.int i t from r); subst e; exact zap P w i t
 | inr x => obtain ⟨t, e⟩ := (show ∃ t, u = Value.str x t from r); subst e; exact zao P w x t
theorem Qs {P : Program} {w : World} : ∀ {ks : List Key} {us : List Value}, ym (ks.map kV) us → ItemsAre (yk P w) ks us
 | [], _, r => by rw [List.map_nil] at r; cases r; exact .nil
 | k :: ks, _, r => by
   rw [de] at r;cases r with
   | cons h t => exact .cons (zo2 h) (Qs t)
abbrev KT (H : Hp) : List (List Key × V) → List (List Key × Addr × Value) → Prop := Paired fun p q => p.1 = q.1 ∧ H q.2.1 = some (.tup (p.1.map kV)) ∧ yw p.2 q.2.2
section
theorem zmi (ok : HOk P w H h) (e : H a = some (.tup (ks.map kV))) : (tupleKind (yk P w)).is h ks a := by
 obtain ⟨_, its, r, ⟨o, h1, h2, n, h3⟩, _⟩ := (show xk P w H h a (.tup (ks.map kV)) from ok a _ e)
 exact ⟨o, its.toArray, n, h1, h2, h3, by simpa using Qs r⟩
end
section
variable {o : Option V}
theorem Inv.big (I : Inv X pins σ H s) : sysModules < s.heap.objs.size := by
 have h : mainGlobals < s.heap.objs.size := (I.mod.glob.keeps I.bk).lt;exact Nat.lt_trans (by decide) h
theorem zd3 {ob : HO} (I : Inv X pins σ H s) (mu : Mut (H a)) (hs : Heap.SameBut a s.heap h') (he : ∃ q, h'.get? a = some q) (new : xk X.prog X.w (upd H a ob) h' a ob) :
  Inv X pins σ (upd H a ob) { s with heap := h', toks := t' } :=
 I.write (x := a) (e := a) mu (.inl rfl) (fun b q hb z => (hs.2 b hb).trans z) he new
end
section
variable {k : Key}
end
noncomputable def zm5 (i : Expr) : Prop := ∀ ov iv, subscripted i false ov iv = operate [ov, iv] (getItem ov iv)
theorem zc8 {env : Env} {slice : Expr} {T : String}
  (hl : typeLookup (.type T) "__getitem__" = pure (some (.builtin id))) (hs : zm5 slice)
  (h : wpAny (model prog w) A (eval value env) (fun o s₁ => wpAny (model prog w) A (eval slice env) (fun i s₂ => s₂.TypeIs o T ∧ wpAny (model prog w) A (getItem o i) Q E s₂) E s₁) E s) :
  wpAny (model prog w) A (eval (.Subscript value slice pos) env) Q E s := by
 refine Subscript_ (cj h (fun o s₁ h₁ => cj h₁ (fun i s₂ h₂ => ?_) fun _ _ x => x) fun _ _ x => x);obtain ⟨hT, h₂⟩ := h₂;unfold subscriptTail;refine a4 ?_;rw [getitemInPython_of_ne hT.not_modules];refine a4 (wpAny_specialOf hT hl ?_);have fin : wpAny (model prog w) A (subscripted slice false o i) (fun r s₃ => wpAny (model prog w) A (letTemporaryGo value o r >>= fun _ => pure r) Q E s₃) E s₂ := by
  rw [hs o i];exact wpAny_operating (cj h₂ (fun r s₃ h₃ => a4 (wpAny_letTemporaryGo (a6 h₃))) fun _ _ x => x)
 first
  | exact a6 (a4 fin)
  | exact a4 (a6 (a4 fin))
  | exact a4 fin
section
variable {i : Expr} {pos' tpos : Pos} {td ty tv : TE}
end
section
end
section
variable {d : V} {o : Option V}
end
section
variable {f : Expr} {cpos : Pos} {td ty tx : TE}
end
section
end
section
end
end L2
namespace HT
open PySem PyProof.Rows
variable {sl : Addr} {A : Around} {items : Array Value} {s : Shared} {vl vu : Value} {E Q : Value → Shared → Prop}
theorem rcLt_int (A : Around) (s : Shared) (a : Int) (t : Tok) (c : Int) (u : Tok) (prog : Program) (w : World) (E : Value → Shared → Prop) (Q : Value → Shared → Prop) (h : Q (.bool (decide (a < c))) s) :
  wpAny (model prog w) A (richCompare .Lt (.int a t) (.int c u)) Q E s :=
 (PyProof.Rows.lt_int h : wpAny (model prog w) A (compareOp .Lt (.int a t) (.int c u)) Q E s)
section
open PySem.SeqAt
open PySem.AutoSeq1 (wpAny_loadPart')
open PySem.MeetsSeq PySem.MeetsSeq2 PySem.MeetsSeq3
end
section
variable {prog : Program} {w : World}
noncomputable def sIx (n d : Nat) : Option Int → Nat
 | none => d
 | some v => if v < 0 then (v + (n : Int)).toNat else min v.toNat n
theorem sIx_none (n d : Nat) : sIx n d none = d := rfl
theorem sIx_nat (n d k : Nat) : sIx n d (some (k : Int)) = min k n := by
 show (if (k : Int) < 0 then ((k : Int) + (n : Int)).toNat else min (k : Int).toNat n) = min k n;rw [if_neg (by omega), bw]
theorem zlx (n d : Nat) (hd : d ≤ n) (o : Option Int) : sIx n d o ≤ n := by
 cases o with
 | none => exact hd
 | some v =>
   show (if v < 0 then (v + (n : Int)).toNat else min v.toNat n) ≤ n;by_cases hv : v < 0
   · rw [if_pos hv]; omega
   · rw [if_neg hv]; exact Nat.min_le_right _ _
theorem clip_eq (v : Int) (n d : Nat) : (if v < 0 then max (v + (n : Int)) 0 else min v (n : Int)) = ((sIx n d (some v) : Nat) : Int) := by
 show (if v < 0 then max (v + (n : Int)) 0 else min v (n : Int)) = (((if v < 0 then (v + (n : Int)).toNat else min v.toNat n) : Nat) : Int);by_cases hv : v < 0
 · simp only [if_pos hv]; omega
 · simp only [if_neg hv]; omega
theorem zc1 (lo hi : Option Int) (n : Nat) : Builtin.Slice.sliceAdjust lo hi 1 (n : Int) = (((sIx n 0 lo : Nat) : Int), ((sIx n n hi : Nat) : Int)) := by
 have h1 : ¬ ((1 : Int) < 0) := by omega
 unfold Builtin.Slice.sliceAdjust;simp only [h1, if_false];refine Prod.ext ?_ ?_
 · cases lo with
   | none => rfl
   | some v => exact clip_eq v n 0
 · cases hi with
   | none => rfl
   | some v => exact clip_eq v n n
theorem zb3 (i j : Nat) : Builtin.Slice.slicePlaces (i : Int) (j : Int) 1 = j - i := by
 unfold Builtin.Slice.slicePlaces;have h1 : (1 : Int) > 0 := by omega
 simp only [h1, if_true, Int.ediv_one];split <;> omega
theorem Wk {v : Value} {o : Option Int} {Q : Option Int → Shared → Prop} (p : IsPart v o) (h : Q o s) : wpAny (model prog w) A (Builtin.Slice.slicePartIndex v) Q E s := by
 cases p with
 | none => exact slicePart_none h
 | int i t => exact slicePart_int h
theorem js {lo hi : Option Int} {n : Nat} {Q : Int × Int × Nat → Shared → Prop} (hs : s.heap.IsSliceOf sl vl vu .none) (pl : IsPart vl lo) (pu : IsPart vu hi)
  (h : Q (((sIx n 0 lo : Nat) : Int), 1, sIx n n hi - sIx n 0 lo) s) : wpAny (model prog w) A (Builtin.Slice.sliceApplied (.ref sl) (pure (n : Int))) Q E s := by
 obtain ⟨os, hos, hcs, hds⟩ := id hs;unfold Builtin.Slice.sliceApplied Builtin.Slice.sliceFields;refine a4 (a4 (wpAny_field hos hds (x := vl) rfl (a4 (wpAny_field hos hds (x := vu) rfl (a4 (wpAny_field hos hds (x := .none) rfl (a6 ?_)))))));refine a4 (slicePart_none ?_);show wpAny _ _ (if ((1 : Int) == 0) = true then _ else _) _ _ s;rw [if_neg (by decide)];refine a4 (Wk pl (a4 (Wk pu (a4 (a6 ?_)))));show wpAny _ _ (match Builtin.Slice.sliceAdjust lo hi 1 (n : Int) with | (lo, hi) => pure (lo, (1 : Int), Builtin.Slice.slicePlaces lo hi 1)) _ _ s;rw [zc1 lo hi n];show wpAny _ _ (pure (((sIx n 0 lo : Nat) : Int), (1 : Int), Builtin.Slice.slicePlaces ((sIx n 0 lo : Nat) : Int) ((sIx n n hi : Nat) : Int) 1)) _ _ s;rw [zb3];exact a6 h
theorem zgm (xs : Array Value) (i k : Nat) : ((List.range k).filterMap fun (m : Nat) => xs[((i : Int) + (m : Int) * 1).toNat]?).toArray = ((xs.toList.drop i).take k).toArray := by
 have e : (fun (m : Nat) => xs[((i : Int) + (m : Int) * 1).toNat]?) = fun m => xs[i + m]? := by
  funext m;have : ((i : Int) + (m : Int) * 1).toNat = i + m := by omega
  rw [this]
 rw [e];have := pick_run xs i k;rw [List.filterMap_map] at this;have e2 : ((fun x => xs[x]?) ∘ fun x => i + x) = fun m => xs[i + m]? := rfl;rw [e2] at this;rw [this]
theorem getItem_tuple_cut {t : Addr} {lo hi : Option Int} (ht : IsTup s.heap t items) (hs : s.heap.IsSliceOf sl vl vu .none) (pl : IsPart vl lo) (pu : IsPart vu hi)
  (hw : ¬ (sIx items.size 0 lo = 0 ∧ sIx items.size items.size hi = items.size))
  (h : Q (.ref s.heap.objs.size) { s with heap := s.heap.push { cls := .type "tuple", data := .seq ((items.toList.drop (sIx items.size 0 lo)).take (sIx items.size items.size hi - sIx items.size 0 lo)).toArray } })
  (hsz : items.size ≤ sizeLine) : wpAny (model prog w) A (getItem (.ref t) (.ref sl)) Q E s := by
 have htake : sizeOk (.seq ((items.toList.drop (sIx items.size 0 lo)).take (sIx items.size items.size hi - sIx items.size 0 lo)).toArray) := by
  show ((items.toList.drop (sIx items.size 0 lo)).take (sIx items.size items.size hi - sIx items.size 0 lo)).toArray.size ≤ sizeLine;rw [ax, cx, List.length_drop, Array.length_toList];omega
 have hj : sIx items.size items.size hi ≤ items.size := zlx _ _ (a9 _) hi;obtain ⟨os, hos, hcs, hds⟩ := id hs;have hTs : s.TypeIs (.ref sl) "slice" := ⟨os, hos, hcs⟩
 unfold getItem
 try with_reducible refine wpAny_holding ?_
 first | refine a4 (a6 ?_) | skip
 refine a4 (wpAny_sequenceKey ht.typeIs (by decide) ?_);refine a4 (wpAny_callSpecial?_slot (name := Str.ofString "__getitem__") ht.typeIs PyProof.Rows.slot_tuple_getitem
  (c0 PyProof.Rows.slot_tuple_getitem ht.typeIs entry_tuple_getitem ?_ (args_tuple_getitem _ _)))
 show wpAny _ _ (Builtin.Tuple.tupleItemsOf (.ref t) >>= _) _ _ s;refine a4 (tupleItemsOf_ ht ?_);refine a4 (wpAny_typeOf hTs ?_);rw [if_pos (by decide)];refine a4 (js hs pl pu ?_);have hno : ¬ ((((sIx items.size 0 lo : Nat) : Int) == 0 && (1 : Int) == 1 && (sIx items.size items.size hi - sIx items.size 0 lo) == items.size) = true) := by
  intro q;rw [bc, bc] at q;have q1 : ((sIx items.size 0 lo : Nat) : Int) = 0 := eq_of_beq q.1.1;have q2 : sIx items.size items.size hi - sIx items.size 0 lo = items.size := eq_of_beq q.2;exact hw ⟨by omega, by omega⟩
 show wpAny _ _ (if (((sIx items.size 0 lo : Nat) : Int) == 0 && (1 : Int) == 1 && (sIx items.size items.size hi - sIx items.size 0 lo) == items.size) = true then _ else _) _ _ s;rw [if_neg hno, zgm];first
  | exact a4 (m := Builtin.Tuple.tupleExact _) (ca (a6 ⟨_, rfl, a6 h⟩) htake)
  | exact a4 (m := Builtin.Tuple.tupleExact _) (ca (a4 (a6 (a6 ⟨_, rfl, a6 h⟩))) htake)
  | exact a4 (a4 (m := Builtin.Tuple.tupleExact _) (ca (a6 (a6 ⟨_, rfl, a6 h⟩)) htake))
  | exact a4 (a4 (m := Builtin.Tuple.tupleExact _) (ca (a6 ⟨_, rfl, a6 h⟩) htake))
end
end HT
namespace L2
open PySem PySem.Spec PyProof.Rows
variable {A : Around} {X : Cx} {e : Expr} {H : Hp} {i : Int} {pins : List (Addr × Obj)} {es : List Expr} {ns : List Int} {xs ys : List V} {its its' : List Value} {j n t' : Nat} {pos : Pos} {s : Shared} {σ : St} {x : V} {u v : Value} {E : Value → Shared → Prop}
abbrev TO := St → Hp → (Option Int → Hp → Prop) → Prop
noncomputable def PO (X : Cx) (e : Option Expr) (t : TO) : Prop :=
 ∀ (pins : List (Addr × Obj)) (s : Shared) (σ : St) (H : Hp) (Q : Option Int → Hp → Prop), Inv X pins σ H s → t σ H Q →
   wpAny (model X.prog X.w) X.A (evalPart e X.env) (fun u s' => ∃ o H', Inv X pins σ H' s' ∧ IsPart u o ∧ Q o H') X.xe s
noncomputable def zi3 : TO := fun _ H Q => Q none H
noncomputable def znh (t : TE) : TO := fun σ H Q => t σ H fun x H1 => ∃ i, x = .int i ∧ Q (some i) H1
theorem zcq : ∀ {us : List Value}, ym (ns.map V.int) us → IntsAre us ns := by
 induction ns with
 | nil => intro us r; rw [List.map_nil] at r; cases r; exact .nil
 | cons n ns ih =>
   intro us r;rw [de] at r;cases r with
   | cons r1 r2 =>
     obtain ⟨t, e⟩ := r1;subst e;exact .cons n t (ih r2)
section
variable {te : TE} {lo hi : Option Expr} {tl th : TO} {p2 : Pos}
theorem X9 : PO X none zi3 := by
 intro pins s σ H Q I h;rw [evalPart_none];exact a6 ⟨none, H, I, .none, h⟩
theorem Zf (h : PE X e te) : PO X (some e) (znh te) := by
 intro pins s σ H Q I hw;rw [evalPart_some];refine thn (h pins s σ H _ I hw) fun u s1 ⟨x, H1, I1, r1, q1⟩ => ?_;obtain ⟨i, rfl, q⟩ := q1;obtain ⟨t, rfl⟩ := r1;exact ⟨some i, H1, I1, .int i t, q⟩
noncomputable def SlR (X : Cx) (r : V → Option Int → Option Int → Hp → VK → Prop) : Prop :=
 ∀ (pins : List (Addr × Obj)) (s : Shared) (σ : St) (H : Hp) (x : V) (v vl vu : Value) (lo hi : Option Int) (sl : Addr) (Q : VK), Inv X pins σ H s → yw x v → s.heap.IsSliceOf sl vl vu .none → IsPart vl lo → IsPart vu hi → r x lo hi H Q →
   ∃ T id, typeLookup (.type T) "__getitem__" = pure (some (.builtin id)) ∧ s.TypeIs v T ∧ wpAny (model X.prog X.w) X.A (getItem v (.ref sl)) (EP X pins σ Q) X.xe s
noncomputable def tSl (r : V → Option Int → Option Int → Hp → VK → Prop) (te : TE) (tl th : TO) : TE := fun σ H Q => te σ H fun x H1 => tl σ H1 fun l H2 => th σ H2 fun u H3 => r x l u H3 Q
theorem kw {r : V → Option Int → Option Int → Hp → VK → Prop} (hr : SlR X r) (he : PE X e te) (hl : PO X lo tl) (hu : PO X hi th) : PE X (.Subscript e (.Slice lo hi none p2) pos) (tSl r te tl th) := by
 intro pins s σ H Q I h;refine Subscript_ (thn (he pins s σ H _ I h) fun v s1 ⟨x, H1, I1, r1, q1⟩ => ?_);refine wpAny_Slice (thn (hl pins s1 σ H1 _ I1 q1) fun vl s2 ⟨l, H2, I2, pl, q2⟩ => thn (hu pins s2 σ H2 _ I2 q2) fun vu s3 ⟨u, H3, I3, pu, q3⟩ => ?_);rw [evalPart_none];refine a6 ?_;have I4 : Inv X pins σ H3 { s3 with heap := s3.heap.push { cls := .type "slice", data := .fields #[vl, vu, .none] } } := I3.kept (t' := s3.toks) fun b ob q => a8 _ q;obtain ⟨T, id, hT, ht, hg⟩ := hr pins { s3 with heap := s3.heap.push { cls := .type "slice", data := .fields #[vl, vu, .none] } } σ H3 x v vl vu l u s3.heap.objs.size Q I4 r1 (Heap.IsSliceOf.new ..) pl pu q3;show wpAny (model X.prog X.w) X.A (subscriptTail e (.Slice lo hi none p2) v (.ref s3.heap.objs.size)) (EP X pins σ Q) X.xe { s3 with heap := s3.heap.push { cls := .type "slice", data := .fields #[vl, vu, .none] } };exact tail_any (ops := [.ref s3.heap.objs.size, v]) ht hT hg (by with_unfolding_all rfl)
noncomputable def Vj (xs : List V) (lo hi : Option Int) : List V := (xs.drop (HT.sIx xs.length 0 lo)).take (HT.sIx xs.length xs.length hi - HT.sIx xs.length 0 lo)
theorem Xt (xs : List V) (lo hi : Option Int) : (Vj xs lo hi).length ≤ xs.length := by
 unfold Vj;rw [cx, List.length_drop];omega
noncomputable def zpx (K : PySem.W.Frag) : V → Option Int → Option Int → Hp → VK → Prop := fun x lo hi H Q => ∃ a xs, x = .ref a ∧ SqT K H a xs ∧
 ¬ (HT.sIx xs.length 0 lo = 0 ∧ HT.sIx xs.length xs.length hi = xs.length) ∧ ∀ p, H p = none → Q (.ref p) (upd H p (.tup (Vj xs lo hi)))
theorem zlw : SlR X (zpx X.K) := by
 intro pins s σ H x v vl vu lo hi sl Q I rx hs pl pu h;obtain ⟨a, xs, rfl, hx, hw, q⟩ := h;cases rx;obtain ⟨its, r, ht, hz⟩ := I.tuple hx;have hlen : its.toArray.size = xs.length := by rw [ax]; exact r.length.symm
 refine ⟨"tuple", _, PyProof.Rows.slot_tuple_getitem.lookup, ht.typeIs, ?_⟩;refine HT.getItem_tuple_cut ht hs pl pu (by rw [hlen]; exact hw) ?_ (by rw [hlen]; exact hz);rw [hlen];refine ⟨.ref s.heap.objs.size, _, I.laid (t' := s.toks) (o := .tup (Vj xs lo hi)) (fun b ob q => a8 _ q) (a9 _) ?_, rfl, q _ (I.hok.fresh (a9 _))⟩;exact ⟨ay (Xt xs lo hi) hz, _, (r.drop (HT.sIx xs.length 0 lo)).take (HT.sIx xs.length xs.length hi - HT.sIx xs.length 0 lo), IsTup.new _ _, NoD.push⟩
end
noncomputable def ixN (n : Nat) (i : Int) : Option Nat := if 0 ≤ i then (if i < n then some i.toNat else none) else if -(n : Int) ≤ i then some (i + n).toNat else none
noncomputable def atI {α : Type} (xs : List α) (i : Int) : Option α := (ixN xs.length i).bind fun j => xs[j]?
theorem zdt (h : ixN n i = some j) : seqIndex? i n = some j ∧ j < n ∧ -(n : Int) ≤ i ∧ i < n := by
 unfold ixN at h;by_cases h0 : 0 ≤ i
 · rw [if_pos h0] at h;by_cases h1 : i < n
   · rw [if_pos h1] at h;have e : i.toNat = j := Option.some.inj h;exact ⟨by rw [seqIndex_of h0 h1, e], by omega, by omega, h1⟩
   · rw [if_neg h1] at h; cases h
 · rw [if_neg h0] at h;by_cases h1 : -(n : Int) ≤ i
   · rw [if_pos h1] at h;have e : (i + n).toNat = j := Option.some.inj h;exact ⟨by rw [seqIndex_neg (by omega) h1, e], by omega, h1, by omega⟩
   · rw [if_neg h1] at h; cases h
theorem zd5 {α : Type} {xs : List α} {v : α} (h : atI xs i = some v) : ∃ j, seqIndex? i xs.length = some j ∧ xs[j]? = some v ∧ j < xs.length ∧ -(xs.length : Int) ≤ i ∧ i < xs.length := by
 unfold atI at h;cases e : ixN xs.length i with
 | none => rw [e] at h; cases h
 | some j =>
   rw [e] at h;obtain ⟨h1, h2, h3, h4⟩ := zdt e;exact ⟨j, h1, h, h2, h3, h4⟩
theorem yo {α : Type} {xs : List α} {v : α} (h : xs[j]? = some v) : atI xs (j : Int) = some v := by
 have hj : j < xs.length := (bh.mp h).1;have e : ixN xs.length (j : Int) = some j := by
  unfold ixN;rw [if_pos (by omega), if_pos (by omega)]; simp
 unfold atI; rw [e]; exact h
theorem zbf {α : Type} (xs : List α) (v : α) : atI (xs ++ [v]) (-1) = some v := by
 have hl : (xs ++ [v]).length = xs.length + 1 := by simp
 have e : ixN (xs ++ [v]).length (-1) = some xs.length := by
  unfold ixN;rw [hl, if_neg (by decide), if_pos (by omega)];congr 1;omega
 unfold atI;rw [e];show (xs ++ [v])[xs.length]? = some v;simp
noncomputable def zkx (b : Expr) : Prop := ∀ o i, subscripted b false o i = operate [o, i] (getItem o i)
noncomputable def IxR (X : Cx) (r : R2) : Prop :=
 ∀ (value slice : Expr) (pins : List (Addr × Obj)) (s : Shared) (σ : St) (H : Hp) (x y : V) (v u : Value) (Q : VK), Inv X pins σ H s → yw x v → yw y u → r x y H Q →
   subscripted slice false v u = operate [v, u] (getItem v u) → wpAny (model X.prog X.w) X.A (subscriptTail value slice v u) (EP X pins σ Q) X.xe s
noncomputable def MtR (X : Cx) (id : String) (r : V → List V → Hp → VK → Prop) : Prop :=
 ∀ (pins : List (Addr × Obj)) (s : Shared) (σ : St) (H : Hp) (x : V) (xs : List V) (v : Value) (us : List Value) (Q : VK), Inv X pins σ H s → yw x v → ym xs us → r x xs H Q →
   wpAny (model X.prog X.w) X.A (call (.builtin id) (v :: us)) (EP X pins σ Q) X.xe s
section
variable {a b : Expr} {ta tb : TE}
theorem zo {r : R2} (hr : IxR X r) (ha : PE X a ta) (hb : PE X b tb) (hs : zkx b) : PE X (.Subscript a b pos) (tOp r ta tb) := by
 intro pins s σ H Q I h;exact Subscript_ (zm2 ha hb I h fun v u s2 x y H2 I2 rx ry q => hr a b pins s2 σ H2 x y v u Q I2 rx ry q (hs _ _))
noncomputable def zop (K : PySem.W.Frag) : R2 := fun x y H Q => ∃ p xs i v, x = .ref p ∧ y = .int i ∧ SqL K H p xs ∧ atI xs i = some v ∧ Q v H
noncomputable def Vw (K : PySem.W.Frag) : R2 := fun x y H Q => ∃ p xs i v, x = .ref p ∧ y = .int i ∧ SqT K H p xs ∧ atI xs i = some v ∧ Q v H
theorem yn : IxR X (zop X.K) := by
 intro value slice pins s σ H x y v u Q I rx ry h hs;obtain ⟨p, xs, i, z, rfl, rfl, hq, he, q⟩ := h;cases rx;obtain ⟨t, rfl⟩ := ry;obtain ⟨its, r, pl, hz⟩ := I.list hq;obtain ⟨j, h1, h2, h3, h4, h5⟩ := zd5 he;obtain ⟨w, ew, rw'⟩ := r.get h2;have hl := r.length;have hn := Zx;have fin : EP X pins σ Q w s := ⟨z, H, I, rw', q⟩
 by_cases h0 : 0 ≤ i
 · have hj : i.toNat = j := by
    rw [seqIndex_of h0 h5] at h1;exact Option.some.inj h1
   exact item_listR pl.isList h0 (by omega) (by rw [hj]; simpa using ew) fin hs
 · have hj : (i + (its.toArray.size : Int)).toNat = j := by
    rw [seqIndex_neg (by omega) h4] at h1;rw [ax, ← hl];exact Option.some.inj h1
   exact subscriptTail_builtinR (x := w) pl.isList.typeIs slot_list_getitem.lookup
    (wpAny_getItem_list_neg (Q := fun r s' => r = w ∧ EP X pins σ Q r s') pl.isList (by omega) (by rw [ax] <;> omega) (by omega) (by rw [hj]; simpa using ew) ⟨rfl, fin⟩) hs
theorem zl : IxR X (Vw X.K) := by
 intro value slice pins s σ H x y v u Q I rx ry h hs;obtain ⟨p, xs, i, z, rfl, rfl, hq, he, q⟩ := h;cases rx;obtain ⟨t, rfl⟩ := ry;obtain ⟨its, r, pl, hz⟩ := I.tuple hq;obtain ⟨j, h1, h2, h3, h4, h5⟩ := zd5 he;obtain ⟨w, ew, rw'⟩ := r.get h2;have hl := r.length;have hn := Zx;have fin : EP X pins σ Q w s := ⟨z, H, I, rw', q⟩
 exact subscriptTail_builtinR (x := w) pl.typeIs slot_tuple_getitem.lookup
  (getItem_tuple (j := j) (Q := fun r s' => r = w ∧ EP X pins σ Q r s') pl (by omega) (by omega) (by rw [ax, ← hl]; exact h1) (by simpa using ew) ⟨rfl, fin⟩) hs
theorem zcm (its : List Value) (n j : Nat) (u : Value) : Obj.mapSeq (·.setIfInBounds j u) { cls := .type "list", data := .seq its.toArray n } = { cls := .type "list", data := .seq (its.set j u).toArray n } := by
 simp [Obj.mapSeq]
theorem Inv.lst {pins : List (Addr × Obj)} {σ : St} {H : Hp} {s : Shared} {p : Addr} {xs : List V} (I : Inv X pins σ H s) (h : H p = some (.lst xs)) :
  ∃ (its : List Value) (n : Nat), ym xs its ∧ s.heap.get? p = some { cls := .type "list", data := .seq its.toArray n } ∧ xs.length ≤ sizeLine := by
 obtain ⟨z, its, n, r, e⟩ := I.hok p _ h;exact ⟨its, n, r, e, z⟩
theorem Inv.lstUpd {p : Addr} {n' : Nat} {f : Obj → Obj} (I : Inv X pins σ H s) (h : H p = some (.lst xs))
  (ho : s.heap.get? p = some { cls := .type "list", data := .seq its.toArray n }) (hf : f { cls := .type "list", data := .seq its.toArray n } = { cls := .type "list", data := .seq its'.toArray n' }) (r : ym ys its') (hz : ys.length ≤ sizeLine) (t : Nat) :
  Inv X pins σ (upd H p (.lst ys)) { s with heap := s.heap.update p f, toks := t } := by
 have e : (s.heap.update p f).get? p = some { cls := .type "list", data := .seq its'.toArray n' } := by
  rw [Heap.get?_update_self f ho (by rw [hf] <;> rfl), hf]
 refine I.write (x := p) (e := p) (by rw [h]; trivial) (.inl rfl) (fun b u hb q => (Heap.get?_update_other _ _ (ae hb)).trans q) ⟨_, e⟩ ?_;exact ⟨hz, its', n', r, e⟩
noncomputable def zom : V → V → V → Hp → (Hp → Prop) → Prop := fun o i v H Q => ∃ p xs k j, o = .ref p ∧ i = .int k ∧ H p = some (.lst xs) ∧ ixN xs.length k = some j ∧ Q (upd H p (.lst (xs.set j v)))
theorem wt : zm4 X zom := by
 intro pins s σ H o i v ov iv u Q I ro ri rv h;obtain ⟨p, xs, k, j, rfl, rfl, hp, hj, q⟩ := h;cases ro;obtain ⟨t, rfl⟩ := ri;obtain ⟨its, n, r, ho, hz⟩ := I.lst hp;obtain ⟨h1, h2, h3, h4⟩ := zdt hj;have hl := r.length;have hn := Zx;have I' : Inv X pins σ (upd H p (.lst (xs.set j v))) { s with heap := s.heap.update p (Obj.mapSeq (·.setIfInBounds j u)) } :=
  I.lstUpd hp ho (zcm its n j u) (r.set rv j) (by rw [List.length_set]; exact hz) s.toks
 by_cases h0 : 0 ≤ k
 · have hk : k.toNat = j := by
    rw [seqIndex_of h0 h4] at h1;exact Option.some.inj h1
   exact PySem.W.ki_setAt ho h0 (by omega) (by rw [ax, ← hl]; exact h4) (by rw [hk]; exact ⟨_, I', q⟩)
 · have hk : (k + (its.toArray.size : Int)).toNat = j := by
    rw [seqIndex_neg (by omega) h3] at h1;rw [ax, ← hl];exact Option.some.inj h1
   exact PySem.W.ki_setBack ho (by omega) (by rw [ax, ← hl]; exact h3) (by omega) (by rw [hk]; exact ⟨_, I', q⟩)
theorem Je (lo hi : Option Int) (n : Nat) : (sliceBounds lo hi none n).1 = ((HT.sIx n 0 lo : Nat) : Int) ∧ (sliceBounds lo hi none n).2.1 = ((HT.sIx n n hi : Nat) : Int) ∧ (sliceBounds lo hi none n).2.2 = 1 := by
 refine ⟨?_, ?_, rfl⟩
 · cases lo with
   | none => simp [sliceBounds, HT.sIx]
   | some i =>
     simp only [sliceBounds, HT.sIx, Option.getD_none, show (1 : Int) > 0 by decide, if_true];by_cases h : i < 0
     · simp only [h, if_true] <;> omega
     · simp only [h, if_false] <;> omega
 · cases hi with
   | none => simp [sliceBounds, HT.sIx]
   | some i =>
     simp only [sliceBounds, HT.sIx, Option.getD_none, show (1 : Int) > 0 by decide, if_true];by_cases h : i < 0
     · simp only [h, if_true] <;> omega
     · simp only [h, if_false] <;> omega
theorem Vv (its : List Value) (lo hi : Option Int) : slicePick its.toArray lo hi none = ((its.drop (HT.sIx its.length 0 lo)).take (HT.sIx its.length its.length hi - HT.sIx its.length 0 lo)).toArray := by
 obtain ⟨h1, h2, h3⟩ := Je lo hi its.toArray.size;unfold slicePick;rw [h1, h2, h3];simp only [sliceRange_one, pick_run, ax] <;> rfl
noncomputable def zpy (K : PySem.W.Frag) : V → Option Int → Option Int → Hp → VK → Prop := fun x lo hi H Q => ∃ a xs, x = .ref a ∧ SqL K H a xs ∧ ∀ p, H p = none → Q (.ref p) (upd H p (.lst (Vj xs lo hi)))
theorem zdc : SlR X (zpy X.K) := by
 intro pins s σ H x v vl vu lo hi sl Q I rx hs pl pu h;obtain ⟨a, xs, rfl, hx, q⟩ := h;cases rx;obtain ⟨its, r, ht, hz⟩ := I.list hx;have hlen := r.length;refine ⟨"list", _, slot_list_getitem.lookup, ht.isList.typeIs, ?_⟩;refine wpAny_getItem_list_slice ht.isList hs pl pu .none (by simp) ?_ (by rw [ax] <;> omega);rw [Vv, ← hlen];refine ⟨.ref s.heap.objs.size, _, I.laid (t' := s.toks) (o := .lst (Vj xs lo hi)) (fun b ob q => a8 _ q) (a9 _) ?_, rfl, q _ (I.hok.fresh (a9 _))⟩;exact ⟨ay (Xt xs lo hi) hz, _, 0, (r.drop (HT.sIx xs.length 0 lo)).take (HT.sIx xs.length xs.length hi - HT.sIx xs.length 0 lo), ar _ rfl⟩
noncomputable def Xs : V → Bool
 | .non => true
 | .bl _ => true
 | .int _ => true
 | .str _ => true
 | _ => false
noncomputable def eqV : V → V → Bool
 | .non, .non => true
 | .bl a, .bl b => a == b
 | .bl a, .int b => (if a then 1 else 0) == b
 | .int a, .bl b => a == (if b then 1 else 0)
 | .int a, .int b => a == b
 | .str a, .str b => a == b
 | _, _ => false
theorem zmv {y : V} (ry : yw y u) (rx : yw x v) (fy : Xs y = true) (fx : Xs x = true) : SeqAt.EqAt A s u v (eqV y x) := by
 cases y with
 | non =>
   cases ry;cases x with
   | non => cases rx; exact SeqAt.EqAt.same _
   | bl b => cases rx; exact SeqAt.EqAt.none_bool b
   | int b => obtain ⟨t, rfl⟩ := rx; exact SeqAt.EqAt.none_int b t
   | str b => obtain ⟨t, rfl⟩ := rx; exact SeqAt.EqAt.none_str b t
   | _ => exact absurd (show false = true from fx) az
 | bl a =>
   cases ry;cases x with
   | non => cases rx; exact SeqAt.EqAt.bool_none a
   | bl b => cases rx; exact SeqAt.EqAt.bool_bool a b
   | int b => obtain ⟨t, rfl⟩ := rx; exact SeqAt.EqAt.bool_int a b t
   | str b => obtain ⟨t, rfl⟩ := rx; exact SeqAt.EqAt.bool_str a b t
   | _ => exact absurd (show false = true from fx) az
 | int a =>
   obtain ⟨t', rfl⟩ := ry;cases x with
   | non => cases rx; exact SeqAt.EqAt.int_none a t'
   | bl b => cases rx; exact SeqAt.EqAt.int_bool a t' b
   | int b => obtain ⟨t, rfl⟩ := rx; exact SeqAt.EqAt.int_int a t' b t
   | str b => obtain ⟨t, rfl⟩ := rx; exact SeqAt.EqAt.int_str a t' b t
   | _ => exact absurd (show false = true from fx) az
 | str a =>
   obtain ⟨t', rfl⟩ := ry;cases x with
   | non => cases rx; exact SeqAt.EqAt.str_none a t'
   | bl b => cases rx; exact SeqAt.EqAt.str_bool a t' b
   | int b => obtain ⟨t, rfl⟩ := rx; exact SeqAt.EqAt.str_int a t' b t
   | str b => obtain ⟨t, rfl⟩ := rx; exact SeqAt.EqAt.str_str a t' b t
   | _ => exact absurd (show false = true from fx) az
 | _ => exact absurd (show false = true from fy) az
noncomputable def eqU (x : V) (u : Value) : Bool := match u with
 | .none => eqV .non x
 | .bool b => eqV (.bl b) x
 | .int i _ => eqV (.int i) x
 | .str z _ => eqV (.str z) x
 | _ => false
theorem zib {y : V} (r : yw y u) (f : Xs y = true) : eqU x u = eqV y x := by
 cases y with
 | non => cases r; rfl
 | bl b => cases r; rfl
 | int i => obtain ⟨t, rfl⟩ := r; rfl
 | str z => obtain ⟨t, rfl⟩ := r; rfl
 | _ => exact absurd (show false = true from f) az
theorem Ki {x : V} : ∀ {xs : List V} {us : List Value}, ym xs us → xs.all Xs = true → us.any (eqU x) = xs.any fun y => eqV y x
 | _, _, .nil, _ => rfl
 | y :: xs, u :: us, .cons r t, f => by
   rw [List.all_cons, bc] at f;rw [List.any_cons, List.any_cons, zib r f.1, Ki t f.2]
theorem W6 {A : Around} {s : Shared} {x : V} {v : Value} (rx : yw x v) (fx : Xs x = true) : ∀ {xs : List V} {us : List Value}, ym xs us → xs.all Xs = true → ∀ u ∈ us, SeqAt.EqAt A s u v (eqU x u)
 | _, _, .nil, _ => fun u hu => by cases hu
 | y :: xs, u :: us, .cons r t, f => fun u' hu => by
   rw [List.all_cons, bc] at f;rcases aa.mp hu with rfl | hu
   · rw [zib r f.1]; exact zmv r rx f.1 fx
   · exact W6 rx fx t f.2 u' hu
noncomputable def inV (x : V) (xs : List V) : Bool := xs.any fun y => eqV y x
noncomputable def rIn (K : PySem.W.Frag) (neg : Bool) : R2 := fun x y H Q => ∃ p xs, y = .ref p ∧ (SqL K H p xs ∨ SqT K H p xs) ∧ Xs x = true ∧ xs.all Xs = true ∧ Q (.bl (if neg then !inV x xs else inV x xs)) H
theorem zes : OpR X (compareOp .In) (rIn X.K false) := by
 intro pins s σ H x y v u Q I rx ry h;obtain ⟨p, xs, rfl, hq, fx, fs, q⟩ := h;cases ry;rcases hq with hq | hq
 · obtain ⟨its, r, pl, hz⟩ := I.list hq;refine SeqAt.in_listAt (eqU x) pl.isList (fun w hw => W6 rx fx r fs w (by simpa using hw)) ⟨.bl _, H, I, rfl, ?_⟩;rw [show its.toArray.any (eqU x) = its.any (eqU x) by simp, Ki r fs];exact q
 · obtain ⟨its, r, pl, hz⟩ := I.tuple hq;refine SeqAt.in_tupleAt (eqU x) pl (fun w hw => W6 rx fx r fs w (by simpa using hw)) ⟨.bl _, H, I, rfl, ?_⟩;rw [show its.toArray.any (eqU x) = its.any (eqU x) by simp, Ki r fs];exact q
theorem zq : v9 X (.builtin "len") (fun xs H Q => ∃ p ys, xs = [.ref p] ∧ (SqL X.K H p ys ∨ SqT X.K H p ys) ∧ Q (.int ys.length) H) := by
 intro pins s σ H xs us Q I r h;obtain ⟨p, ys, rfl, hq, q⟩ := h;obtain ⟨u, rfl, rx⟩ := v8 r;cases rx;have hn := Zx;rcases hq with hq | hq
 · obtain ⟨its, r', pl, hz⟩ := I.list hq;have hlen := r'.length;exact Calls.call_len_list pl.isList (by simp only [ax] <;> omega) ⟨.int ys.length, H, I.tok _, ⟨s.toks + 1, by rw [ax, hlen]⟩, q⟩
 · obtain ⟨its, r', pl, hz⟩ := I.tuple hq;have hlen := r'.length;exact len_tuple pl (by simp only [ax] <;> omega) ⟨.int ys.length, H, I.tok _, ⟨s.toks + 1, by rw [ax, hlen]⟩, q⟩
theorem Yz : v9 X (.builtin "len") (fun xs H Q => ∃ z, xs = [.str z] ∧ z.length ≤ sizeLine ∧ Q (.int z.length) H) := by
 intro pins s σ H xs us Q I r h;obtain ⟨z, rfl, hz, q⟩ := h;obtain ⟨u, rfl, t, rfl⟩ := v8 r;have hn := Zx;exact len_str (by omega) ⟨.int z.length, H, I.tok _, ⟨_, rfl⟩, q⟩
theorem v7 : v9 X (.type "list") (fun xs H Q => ∃ p ys, xs = [.ref p] ∧ (SqL X.K H p ys ∨ SqT X.K H p ys) ∧ ∀ l, H l = none → Q (.ref l) (upd H l (.lst ys))) := by
 intro pins s σ H xs us Q I r h;obtain ⟨p, ys, rfl, hq, q⟩ := h;obtain ⟨u, rfl, rx⟩ := v8 r;cases rx;have fin : ∀ (its : List Value), ym ys its → ys.length ≤ sizeLine → ∀ (h' : Heap) (c' : Nat), (∀ b o', s.heap.get? b = some o' → h'.get? b = some o') →
   h'.get? s.heap.objs.size = some { cls := .type "list", dict := none, data := .seq its.toArray c', slots := #[] } → EP X pins σ Q (.ref s.heap.objs.size) { s with heap := h' } := fun its r' hz h' c' kp e =>
  ⟨.ref s.heap.objs.size, _, I.laid (t' := s.toks) kp (a9 _) (show xk X.prog X.w _ h' _ (.lst ys) from ⟨hz, its, c', r', e⟩), rfl, q _ (I.hok.fresh (a9 _))⟩
 rcases hq with hq | hq
 · obtain ⟨its, r', pl, hz⟩ := I.list hq;have hlen := r'.length;obtain ⟨o, ho, hc, n, hd⟩ := pl.isList;exact call_list_seq p (.inl rfl) ho hc hd (fun h' c' kp e => fin its r' hz h' c' kp e) (by simp only [ax] <;> omega)
 · obtain ⟨its, r', pl, hz⟩ := I.tuple hq;have hlen := r'.length;obtain ⟨o, ho, hc, n, hd⟩ := pl;exact call_list_seq p (.inr rfl) ho hc hd (fun h' c' kp e => fin its r' hz h' c' kp e) (by simp only [ax] <;> omega)
theorem xa : v9 X (.type "tuple") (fun xs H Q => ∃ p ys, xs = [.ref p] ∧ ((SqL X.K H p ys ∧ ∀ l, H l = none → Q (.ref l) (upd H l (.tup ys))) ∨ (SqT X.K H p ys ∧ Q (.ref p) H))) := by
 intro pins s σ H xs us Q I r h;obtain ⟨p, ys, rfl, h⟩ := h;obtain ⟨u, rfl, rx⟩ := v8 r;cases rx;rcases h with ⟨hq, q⟩ | ⟨hq, q⟩
 · obtain ⟨its, r', pl, hz⟩ := I.list hq;have hlen := r'.length;refine call_tuple_list pl.isList (fun h' kp => ?_) (by simp only [ax] <;> omega);have I1 : Inv X pins σ H { s with heap := h' } := I.kept (t' := s.toks) kp;have I2 : Inv X pins σ (upd H h'.objs.size (.tup ys)) { s with heap := h'.push { cls := .type "tuple", data := .seq its.toArray } } :=
    I1.laid (t' := s.toks) (fun b o e => a8 _ e) (a9 _) (show xk X.prog X.w _ _ _ (.tup ys) from ⟨hz, its, r', IsTup.new _ _, NoD.push⟩)
   exact ⟨.ref h'.objs.size, _, I2, rfl, q _ (I1.hok.fresh (a9 _))⟩
 · obtain ⟨its, r', pl, hz⟩ := I.tuple hq;exact call_tuple_same pl ⟨.ref p, H, I, rfl, q⟩
noncomputable def tyV (K : PySem.W.Frag) (T : String) (x : V) (H : Hp) : Prop := match x with
 | .str _ => T = "str"
 | .int _ => T = "int"
 | .ref p => (T = "list" ∧ ∃ xs, SqL K H p xs) ∨ (T = "tuple" ∧ ∃ o, K.lookup p = some o ∧ o.cls = .type "tuple" ∧ o.dict = none) ∨
  (T = "dict" ∧ ((∃ kvs, H p = some (.dK kvs)) ∨ ∃ kvs, H p = some (.dT kvs))) ∨ (T = "set" ∧ ∃ S n, H p = some (.set S n))
 | _ => False
theorem zle {T : String} (I : Inv X pins σ H s) (r : yw x v) (ty : tyV X.K T x H) :
  s.TypeIs v T ∧ ∀ a, v = .ref a → ∃ ob, s.heap.get? a = some ob ∧ ob.dict = none := by
 cases x with
 | str z =>
   obtain ⟨t, rfl⟩ := r;cases (show T = "str" from ty);exact ⟨typeIs_str s z t, fun _ e => nomatch e⟩
 | int i =>
   obtain ⟨t, rfl⟩ := r;cases (show T = "int" from ty);exact ⟨typeIs_int s i t, fun _ e => nomatch e⟩
 | ref p =>
   cases r;rcases ty with ⟨rfl, xs, hq⟩ | ⟨rfl, o, hk, hc, hd⟩ | ⟨rfl, hk⟩ | ⟨rfl, S, n, hk⟩
   · obtain ⟨its, _, pl, _⟩ := I.list hq;refine ⟨pl.isList.typeIs, fun a e => ?_⟩;cases e;obtain ⟨o, n, e, c, hd, _⟩ := pl;exact ⟨o, e, hd⟩
   · refine ⟨⟨o, I.kIn p o hk, hc⟩, fun a e => ?_⟩;cases e;exact ⟨o, I.kIn _ o hk, hd⟩
   · have z : ∃ o, s.heap.get? p = some o ∧ o.ExactDict := by
      rcases hk with ⟨kvs, hk⟩ | ⟨kvs, hk⟩
      · obtain ⟨_, _, _, _, o, _, _, e, ex, _⟩ := I.hok p _ hk;exact ⟨o, e, ex⟩
      · obtain ⟨_, _, _, _, o, _, _, e, ex, _⟩ := I.hok p _ hk;exact ⟨o, e, ex⟩
     obtain ⟨o, e, ex⟩ := z;refine ⟨⟨o, e, ex.1⟩, fun a e2 => ?_⟩;cases e2;exact ⟨o, e, ex.2.1⟩
   · obtain ⟨o, _, _, _, e, ex, _⟩ := I.hok p _ hk;refine ⟨⟨o, e, ex.1⟩, fun a e2 => ?_⟩;cases e2;exact ⟨o, e, ex.2.1⟩
 | _ => exact False.elim ty
noncomputable def tBM (K : PySem.W.Frag) (T : String) (r : V → List V → Hp → VK → Prop) (to : TE) (t : TA) : TE := fun σ H Q => to σ H fun x H1 => tyV K T x H1 ∧ t σ H1 fun xs H2 => r x xs H2 Q
variable {o : Expr} {to : TE} {t : TA} {name : Str} {apos cpos : Pos} {T id : String} {r : V → List V → Hp → VK → Prop}
theorem Xq (pa : PlainAttrs T) (slot : Slot T name id) (hty : typeOf (.builtin id) = pure (.type "method_descriptor")) (hm : MtR X id r) (ho : PE X o to) (ha : PA X (e :: es) t)
  (hbase : attributeBase o name X.env (eval o X.env) = eval o X.env := by rfl)
  (hfew : ((backTo cpos (starEach (e :: es) X.env)).all (fun x => !x.1) && (backToKw cpos (keywordEach [] X.env)).all (fun x => x.1.isSome)
   && decide ((e :: es).length + ([] : List Keyword).length + (if ([] : List Keyword).isEmpty then 0 else 1) < 30)) = true := by rfl)
  (hline : (apos.endLine == cpos.line) = true := by rfl) (hs : starEach (e :: es) X.env = (false, eval e X.env) :: starEach es X.env := by rfl) (hplain : (backTo cpos (starEach es X.env)).any (·.1) = false := by rfl) :
  PE X (.Call (.Attribute o name apos) (e :: es) [] cpos) (tBM X.K T r to t) := by
 intro pins s σ H Q I h;refine wpAny_Call_method_late hbase hfew hline rfl (thn (ho pins s σ H _ I h) fun v s1 ⟨x, H1, I1, r1, ty, q1⟩ => ?_);obtain ⟨h1, h2⟩ := zle I1 r1 ty;refine ⟨T, id, pa, slot, hty, h1, h2, ?_⟩;have hA := ha cpos pins s1 σ H1 _ I1 q1;rw [hs] at hA ⊢;refine Calls.callWith_builtin (by show (false || (backTo cpos (starEach es X.env)).any (·.1)) = false; rw [hplain] <;> rfl) (Calls.evalArgs_plain ?_);exact thn hA fun us s2 ⟨vs, H2, I2, r2, q2⟩ => hm pins s2 σ H2 x vs v us Q I2 r1 r2 q2
/- xs.append(e), list.index on a module's tuple .. are MtR facts of 06m -/
end
noncomputable def MtM (X : Cx) (id : String) (r : V → List V → Hp → VK → Prop) : Prop :=
 ∀ (pins : List (Addr × Obj)) (s : Shared) (σ : St) (H : Hp) (x : V) (xs : List V) (v : Value) (us : List Value) (Q : VK), Inv X pins σ H s → yw x v → ym xs us → r x xs H Q →
   wpAny (model X.prog X.w) X.A (call (.builtin id) (v :: us)) (EP X pins σ Q) X.xe s
theorem ym.one : ∀ {x : V} {us : List Value}, ym [x] us → ∃ u, us = [u] ∧ yw x u
 | _, _, .cons r .nil => ⟨_, rfl, r⟩
theorem ym.rep {xs : List V} {us : List Value} (h : ym xs us) : ∀ k : Nat, ym (List.replicate k xs).flatten (List.replicate k us).flatten
 | 0 => .nil
 | k + 1 => by
   rw [List.replicate_succ, List.replicate_succ, List.flatten_cons, List.flatten_cons];exact ym.append h (ym.rep h k)
theorem Qv (its : List Value) : ∀ (k : Nat) (acc : List Value),
  List.foldl (fun x1 x2 => x1 ++ x2) acc.toArray (List.replicate k its.toArray) = (acc ++ (List.replicate k its).flatten).toArray
 | 0, acc => by simp
 | k + 1, acc => by
   have e : acc.toArray ++ its.toArray = (acc ++ its).toArray := by simp
   have e2 : (acc ++ its) ++ (List.replicate k its).flatten = acc ++ (List.replicate (k + 1) its).flatten := by
    rw [List.replicate_succ, List.flatten_cons, List.append_assoc]
   rw [← e2, ← Qv its k (acc ++ its), ← e, List.replicate_succ, List.foldl_cons]
section
variable {l b : Addr} {zs : List V}
theorem Inv.lset {f : Array Value → Array Value} (I : Inv X pins σ H s) (hH : H l = some (.lst xs))
  (e : s.heap.get? l = some { cls := .type "list", data := .seq its.toArray n }) (hf : f its.toArray = its'.toArray) (hv : ym ys its') (hz : ys.length ≤ sizeLine) :
  Inv X pins σ (upd H l (.lst ys)) { s with heap := s.heap.update l (Obj.mapSeq f), toks := t' } := by
 have q := PySem.IsL.update e f;rw [hf] at q;refine I.write (x := l) (e := l) (by rw [hH]; exact trivial) (.inl rfl) (fun b' u hb hu => (Heap.get?_update_other s.heap (Obj.mapSeq f) (ae hb)).trans hu) ⟨_, q⟩ ?_;exact ⟨hz, its', _, hv, q⟩
theorem Inv.lnew (I : Inv X pins σ H s) (hv : ym ys its) (hz : ys.length ≤ sizeLine) :
  Inv X pins σ (upd H s.heap.objs.size (.lst ys)) { s with heap := s.heap.push { cls := .type "list", data := .seq its.toArray }, toks := t' } :=
 I.laid (fun _ _ q => a8 _ q) (a9 _) ⟨hz, its, 0, hv, ar _ rfl⟩
theorem Inv.fresh (I : Inv X pins σ H s) : H s.heap.objs.size = none := I.hok.fresh (a9 _)
theorem Inv.lstM (I : Inv X pins σ H s) (hH : H l = some (.lst xs)) : xs.length ≤ sizeLine ∧ ∃ (its : List Value) (n : Nat), ym xs its ∧ xs.length = its.length ∧ s.heap.get? l = some { cls := .type "list", data := .seq its.toArray n } := by
 obtain ⟨z, its, n, r, e⟩ := I.hok l _ hH;exact ⟨z, its, n, r, r.length, e⟩
theorem zhd (h : n ≤ sizeLine) : Builtin.List.listTooLong n = false := by
 unfold Builtin.List.listTooLong;exact av (by omega)
end
section
noncomputable def zjk : V → List V → Hp → VK → Prop := fun x vs H Q => ∃ l xs y, x = .ref l ∧ vs = [y] ∧ H l = some (.lst xs) ∧ xs.length < sizeLine ∧ Q .non (upd H l (.lst (xs ++ [y])))
theorem jb : MtM X "list.append" zjk := by
 intro pins s σ H x vs v us Q I rx rv h;obtain ⟨l, xs, y, rfl, rfl, hH, hz, q⟩ := h;cases rx;obtain ⟨u, rfl, ru⟩ := rv.one;obtain ⟨z, its, n, r, hl, e⟩ := I.lstM hH;refine call_meets F.slot_list_append ⟨_, e, rfl⟩ F.entry_list_append (F.args_list_append_2 _ _) (PySem.list_append l its.toArray n u (by rw [ax]; omega)) ⟨e, ?_⟩;refine ⟨.non, _, I.lset (its' := its ++ [u]) hH e (by simp) (r.append (.cons ru .nil)) ?_, rfl, q⟩;rw [ba, cm];omega
noncomputable def zp0 : R2 := fun x y H Q => ∃ l b xs zs, x = .ref l ∧ y = .ref b ∧ H l = some (.lst xs) ∧ H b = some (.lst zs) ∧ xs.length + zs.length ≤ sizeLine ∧ ∀ p, H p = none → Q (.ref p) (upd H p (.lst (xs ++ zs)))
theorem Jq : OpR X (binaryOp .Add) zp0 := by
 intro pins s σ H x y v u Q I rx ry h;obtain ⟨l, b, xs, zs, rfl, rfl, hH, hB, hz, q⟩ := h;cases rx;cases ry;obtain ⟨z, its, n, r, hl, e⟩ := I.lstM hH;obtain ⟨z2, its2, n2, r2, hl2, e2⟩ := I.lstM hB;refine PySem.P.add_list e e2 ?_ (by rw [ax, ax]; omega);have ea : its.toArray ++ its2.toArray = (its ++ its2).toArray := by simp
 rw [ea];exact ⟨.ref _, _, I.lnew (t' := s.toks) (r.append r2) (by rw [ba]; omega), rfl, q _ I.fresh⟩
noncomputable def zpz : R2 := fun x y H Q => ∃ l k xs, x = .ref l ∧ y = .int k ∧ H l = some (.lst xs) ∧ -(2 ^ 63) ≤ k ∧ k < 2 ^ 63 ∧ xs.length * k.toNat ≤ sizeLine ∧
 ∀ p, H p = none → Q (.ref p) (upd H p (.lst (List.replicate k.toNat xs).flatten))
theorem zj2 {α : Type} (xs : List α) (k : Nat) : (List.replicate k xs).flatten.length = k * xs.length := by
 induction k with
 | zero => simp
 | succ k ih => rw [List.replicate_succ, List.flatten_cons, ba, ih, Nat.succ_mul, Nat.add_comm]
theorem zb4 : OpR X (binaryOp .Mult) zpz := by
 intro pins s σ H x y v u Q I rx ry h;obtain ⟨l, k, xs, rfl, rfl, hH, h1, h2, hz, q⟩ := h;cases rx;obtain ⟨t, rfl⟩ := ry;obtain ⟨z, its, n, r, hl, e⟩ := I.lstM hH;have hlen : its.toArray.size * k.toNat ≤ sizeLine := by rw [ax, ← hl]; exact hz
 have hcap : ¬ its.toArray.size * k.toNat > (2 ^ 63 - 1) / 8 := by
  have : (sizeLine : Nat) ≤ (2 ^ 63 - 1) / 8 := by decide
  omega
 have hfit : ¬ (!Builtin.List.listFitsIndex k) = true := by
  rw [fitsIndex_both h1 h2];exact az
 have hlong : ¬ Builtin.List.listTooLong (its.toArray.size * k.toNat) = true := by
  rw [zhd hlen];exact az
 have hnew : List.foldl (fun x1 x2 => x1 ++ x2) #[] (List.replicate (if its.toArray.isEmpty = true then 0 else k.toNat) its.toArray) = (List.replicate k.toNat its).flatten.toArray := by
  have f0 : ∀ m : Nat, List.foldl (fun x1 x2 => x1 ++ x2) #[] (List.replicate m its.toArray) = (List.replicate m its).flatten.toArray := fun m => by
   have := Qv its m [];rw [List.nil_append] at this;exact this
  rw [f0];cases its with
  | nil => simp
  | cons a r' => rw [if_neg (by simp)]
 refine wpAny_binaryOp_repeat_ref (T := "list") (U := "int") (by decide) ⟨_, e, rfl⟩ (fun s' => typeIs_int s' k t) noFill_list_mul F.fills_int_mul F.slot_int_rmul repeat_list F.slot_int_index.lookup
  (call_meets F.slot_int_rmul (typeIs_int s k t) F.entry_int_rmul (F.args_int_rmul_2 _ _) (int___rmul___int_list k t l its.toArray n)
   ⟨e, rfl, ⟨_, e, rfl⟩, call_meets F.slot_list_mul ⟨_, e, rfl⟩ F.entry_list_mul (F.args_list_mul_2 _ _) (AutoListH.list___mul___list_int_3 l its.toArray n k t hfit hcap hlong) ⟨e, ?_⟩⟩)
 rw [hnew];exact ⟨.ref _, _, I.lnew (t' := s.toks) (r.rep k.toNat) (by rw [zj2, Nat.mul_comm]; exact hz), rfl, q _ I.fresh⟩
end
section
variable {prog : Program} {w : World}
set_option maxRecDepth 100000 in
end
section
end
end L2
namespace Att
open PySem PySem.W PySem.Calls PyProof.Rows
variable {A : Around} {h : Heap} {vals : List Value} {n : Nat} {q : Program} {s : Shared} {E : Value → Shared → Prop}
theorem Xy {P : Params} : ∀ (ns : List Int) (vs : List Value), WellAll P h vs (ns.map WData.int) → IntsAre vs ns := by
 intro ns;induction ns with
 | nil =>
   intro vs w;rw [List.map_nil] at w;cases w;exact .nil
 | cons n ns ih =>
   intro vs w;rw [de] at w;cases w with
   | cons a b =>
     cases a;exact .cons _ _ (ih _ b)
theorem zek {l : OpenLaw} (hn : l.most = some n) {P : Params} {args : List WData}
  (hpre : l.row.toRowW.claim.pre args = true) (hwl : WellAll P h vals args) :
  ∃ a vs ns, vals = [Value.ref a] ∧ args = [WData.list (ns.map WData.int)] ∧ h.get? a = some { cls := .type "list", data := .seq vs.toArray } ∧ IntsAre vs ns ∧ ns.length ≤ n := by
 have hsh : WShape.hasAll [] args [.list .int] = true := (pre_splitW hpre).1;have hc : l.pre.holds [] { args := args } = true := (pre_splitW hpre).2;obtain ⟨d, r, rfl, h1, h2⟩ := hasAllW_cons hsh;obtain rfl := hasAllW_nil h2;obtain ⟨xs, rfl, h3⟩ := hasW_list h1;obtain ⟨ns, rfl⟩ := items_int h3;have hlen : ns.length ≤ n := by
  unfold OpenLaw.pre at hc;have h4 : (WTm.not (.lt (.lit (.int (n : Int))) (.len (.arg 0)))).holds [] { args := [.list (ns.map .int)] } = true := by
   have h4 := (holds_andW hc).1;rw [hn] at h4;exact h4
  have h5 := condW_of h4 (w_not (w_lt w_lit (w_len_list (w_arg rfl))));rw [a7] at h5;refine Nat.le_of_not_lt fun q => ?_;have q' : (n : Int) < ((ns.length : Nat) : Int) := by omega
  first
   | (rw [ai q'] at h5; exact absurd h5 (by decide))
   | (simp at h5; omega)
 cases hwl with
 | cons w1 w2 =>
   cases w2;cases w1 with
   | list ho hall => exact ⟨_, _, ns, rfl, rfl, ho, Xy ns _ hall, hlen⟩
theorem zer (l : OpenLaw) (args : List WData) : l.row.toRowW.claim.post args (.bool true) args = true :=
 postW_of (r := l.row.toRowW) (X := (true == true))
  (show WShape.has [] (.bool true) .bool = true by first | rfl | decide | simp [WShape.has, WShape.arms, WShape.armsAll])
  (show (WTm.eq .res (.lit (.bool true))).value [] { args := args, res := some (.bool true), after := args } = some (.bool (true == true)) from w_eq_bool (w_res rfl) w_lit) rfl
theorem attach_call {l : OpenLaw} {loose : List Str} {XP : (Str → Option Value) → Heap → Prop} {YP : World → Heap → Prop} {d : DefRec}
  (hn : l.most = some n) (hdf : d.params.defaults = [])
  (call : ∀ (w : World) (s₀ s₁ : Shared) (mg mb : Str → Option Value) (fa : Addr) (o : Obj) (pm cd doc : Value) (a : Addr) (vs : List Value) (ns : List Int),
   Ground q loose [] XP w s₀ mg mb s₁.heap → YP w s₁.heap →
   s₁.heap.get? fa = some o → o.data = .func (docDef d.name d.params d.body d.scope pm cd doc) → s₁.heap.CodeRec cd d.name → mg d.name = some (.ref fa) →
   s₁.heap.get? a = some { cls := .type "list", data := .seq vs.toArray } → IntsAre vs ns → ns.length ≤ n → s₁.gens = #[] →
   codeAny (model l.prog w) callerA (.call (.ref fa) ⟨[.ref a], []⟩) (fun r s' => r = .ok (.ret (.bool true)) ∧ OldK s₁.heap s'.heap ∧ s'.os = s₁.os ∧ AllBare s'.gens) s₁) :
  WalkO q loose XP YP l.row.toRowW d [] (fun f vs => PySem.call f vs) := by
 intro w s₀ s₁ mg mb G Y fa o pm cd doc dV kV ho hd hcd hD hmg hg args vals as hpre hlay hrd hwl hlo;obtain rfl : dV = .none := Dflts.none hD hdf;obtain rfl : kV = .none := Dflts.noKw hD;obtain ⟨a, vs, ns, rfl, rfl, hobj, hints, hlen⟩ := zek hn hpre hwl;refine enter_call (codeAny_mono (call w s₀ s₁ mg mb fa o pm cd doc a vs ns G Y ho (fd_plain hd) hcd hmg hobj hints hlen hg) fun r s' hq => ?_);obtain ⟨rfl, h2, h3, h4⟩ := hq;exact ⟨.inl ⟨.bool true, .bool true, [], rfl, fun _ => rfl, .bool true, zer l _, fun _ => ⟨List.Pairwise.nil, fun _ hm => (nomatch hm)⟩⟩, h2, h3, h4⟩
section
variable {prog : Program} {w : World} {K : Frag}
end
end Att
namespace L2
open PySem PySem.Spec PyProof.Rows
variable {a c f it p : Addr} {A : Around} {osl : Array (Option Value)} {its : Array Value} {X : Cx} {env : Env} {tg : Expr} {fd : FuncData} {h' : Heap} {H H' H2 : Hp} {pins pins' : List (Addr × Obj)} {kvs : List (Key × V)} {elts ifs : List Expr} {cap : List Nat} {own ps : List Str} {xs : List V} {us : List Value} {i k n : Nat} {o : Obj} {pos : Pos} {P prog : Program} {K : PySem.W.Frag} {R : Result → Shared → Prop} {scope : Scope} {s s' : Shared} {σ σ' : St} {st : Stmt} {qual x : Str} {mg : Str → Option Value} {te : TE} {g : TG} {tc : TT} {v : V} {old : Value} {E Q : Value → Shared → Prop} {w : World}
theorem V5 : ∀ {vs : List Value} {ns : List Int}, IntsAre vs ns → ym (ns.map V.int) vs
 | _, _, .nil => .nil
 | _, _, .cons n t h => .cons ⟨t, rfl⟩ (V5 h)
noncomputable def qe (s : Stmt) : Arguments := match s with
 | .FunctionDef _ a _ _ _ _ _ _ _ _ => a
 | _ => { posonlyargs := [], args := [], vararg := none, kwonlyargs := [], kw_defaults := [], kwarg := none, defaults := [] }
noncomputable def xn (s : Stmt) : List Stmt := match s with
 | .FunctionDef _ _ b _ _ _ _ _ _ _ => b
 | _ => []
noncomputable def zj (s : Stmt) : Scope := match s with
 | .FunctionDef _ _ _ _ _ _ sc _ _ _ => sc
 | _ => { kind := .function, names := [], isGenerator := false, isCoroutine := false }
abbrev CX0 : CXT := fun _ _ _ _ _ _ => False
abbrev E0 : XK := fun _ _ _ => False
theorem zot : zc3 CX0 X E0 := fun _ _ _ _ _ _ _ h => h.elim
structure Fun (K : PySem.W.Frag) (x qual : Str) (st : Stmt) (f : Addr) (fd : FuncData) : Prop where
 ex : ∃ (oc : Value) (od : Option Addr) (kV doc pm : Value) (an : Option Addr) (cdv ct : Value) (osl : Array (Option Value)),
  fd = PySem.W.fnOf x qual (qe st) (xn st) (zj st) .none kV doc pm an cdv ct ∧ K.lookup f = some ⟨oc, od, .func fd, osl⟩ ∧ PySem.W.codeIn K cdv qual = true
 kp : PySem.W.keepIn K (.ref f) = true
section
variable {base : Heap}
theorem Fun.ok {N : List Str} {sp : Sp} (F : Fun K x qual st f fd) (S : FnScope N ps (zj st)) (len : ∀ vs H Q E, sp vs H Q E → vs.length = ps.length)
  (hbody : ∀ (cdv : Value) (A : Around) (outer : List Env) (s : Shared) (H : Hp) (vs : List V) (Q : VK) (E : XK), Room k (A.deeper (envOfC qual (zj st) s.heap.objs.size f cdv)) → sp vs H Q E →
   ∃ t, PSs (zba CX0 P w K mg base N qual (zj st) f cdv A outer s H E).nox (xn st) t ∧ t { nx := fun _ H' => Q .non H', rt := Q } (start N vs) H) : FnOk P w K mg base CX0 (k + 1) f fd ps sp := by
 obtain ⟨oc, od, kV, doc, pm, an, cdv, ct, osl, rfl, lk, hcd⟩ := F.ex;refine zk8 lk hcd S len fun A outer s H vs Q E hr hsp => ?_;obtain ⟨t, h, q⟩ := hbody cdv A outer s H vs Q E hr hsp;exact ⟨t, h.nox, q⟩
theorem Fun.binds (F : Fun K x qual st f fd)
  (h : ∀ (kV doc pm : Value) (an : Option Addr) (cdv ct : Value) (us : List Value), us.length = ps.length → bindArgs (PySem.W.fnOf x qual (qe st) (xn st) (zj st) .none kV doc pm an cdv ct) ⟨us, []⟩ = pure (ps.zip us)) : Vs K fd ps [] := by
 obtain ⟨oc, od, kV, doc, pm, an, cdv, ct, osl, rfl, lk, hcd⟩ := F.ex;exact .all (h kV doc pm an cdv ct)
theorem zmq {oc : Value} {od an : Option Addr} {kV doc pm cdv ct : Value} (l : K.lookup f = some ⟨oc, od, .func (PySem.W.fnOf x qual (qe st) (xn st) (zj st) .none kV doc pm an cdv ct), osl⟩)
 (c : PySem.W.codeIn K cdv qual = true) (k : PySem.W.keepIn K (.ref f) = true) : Fun K x qual st f (PySem.W.fnOf x qual (qe st) (xn st) (zj st) .none kV doc pm an cdv ct) := ⟨⟨oc, od, kV, doc, pm, an, cdv, ct, osl, rfl, l, c⟩, k⟩
theorem Y6 (h : n ≤ 1000) : n < sizeLine := df h (by decide)
section
theorem pv (i : Nat) (hN : X.N[i]? = some x := by rfl) (hv : Vis X.env.scope x := by first | exact Or.inl rfl | exact Or.inr (Or.inl rfl) | exact Or.inr (Or.inr rfl)) (hd : (x == ("__debug__" : Str)) = false := by decide)
 (hcd : (x == ("__classdict__" : Str)) = false := by decide) : PE X (.Name x pos) (Zo i) := zgn hN hv hd hcd
end
theorem ye {A B : Prop} (h : B) : if false = true then A else B := by
 rw [if_neg az];exact h
theorem xi {A B : Prop} (h : A) : if true = true then A else B := by
 rw [if_pos rfl];exact h
theorem y0 {c A B : Prop} [Decidable c] (h1 : c → A) (h2 : ¬ c → B) : if c then A else B := by
 by_cases h : c
 · rw [if_pos h];exact h1 h
 · rw [if_neg h];exact h2 h
noncomputable def Same (H H' : Hp) : Prop := ∀ b o, H b = some o → H' b = some o
theorem Same.refl (H : Hp) : Same H H := fun _ _ h => h
theorem Same.trans {H1 : Hp} (a : Same H H1) (b : Same H1 H2) : Same H H2 := fun c o h => b c o (a c o h)
theorem Same.seq (e : Same H H') (h : SqL K H a xs) : SqL K H' a xs := by
 rcases h with (h | ⟨o, h⟩) | h
 · exact .inl (.inl (e _ _ h))
 · exact .inl (.inr ⟨o, e _ _ h⟩)
 · exact .inr h
section
variable {κ : Type} [DecidableEq κ]
end
section
theorem Ke {elt target iter : Expr} {it acc : Value} (I : Nat → Shared → Prop)
  (turn : ∀ n s, I n s → wpAny (model prog w) A (pyNext it) (fun r s₁ => match r with
   | none => R (.ok .next) s₁
   | some v => wpAny (model prog w) A (letOwnedTupleGo target it v) (fun _ s₂ => wpAny (model prog w) A (assign target env v) (fun _ s₂ =>
    wpAny (model prog w) A (forIn ifs true fun c r => if r = true then do let ok ← isTrue c env (eval c env); pure (ForInStep.yield ok) else pure (ForInStep.yield r)) (fun ok s₃ =>
     if ok = true then wpAny (model prog w) A (eval elt env) (fun x s₄ =>
      wpAny (model prog w) A (call (.builtin "list.append") [acc, x]) (fun _ s₅ => ∃ m, m < n ∧ I m s₅) (fun _ _ => False) s₄) (fun _ _ => False) s₃
     else ∃ m, m < n ∧ I m s₃) (fun _ _ => False) s₂) (fun _ _ => False) s₂) (fun _ _ => False) s₁) (fun _ _ => False) s)
  (n : Nat) (h : I n s) :
  codeAny (model prog w) A (.compLoop (.ListComp elt [⟨target, iter, ifs, 0⟩] scope pos) 0 it acc env) R s := by
 refine codeAny_loop rfl I (fun n s hI => ?_) n h;show wpAny _ A ((compTurn (.ListComp elt [⟨target, iter, ifs, 0⟩] scope pos) 0 it acc env).onRaise (fun x => do noteFrame x env; theTreesLotGoes x)) _ _ s;refine wpAny_noted ?_;rw [compTurn_list];refine a4 (wpAny_standAt (a4 (cj (turn n s hI) (fun r s₁ h₁ => ?_) fun _ _ h' => h'.elim)));cases r with
 | none => exact a6 h₁
 | some v =>
   refine a4 (cj h₁ (fun _ s₁ h₁ => ?_) fun _ _ h' => h'.elim);refine a4 (cj h₁ (fun _ s₂ h₂ => a4 (cj h₂ (fun ok s₃ h₃ => ?_) fun _ _ h' => h'.elim)) fun _ _ h' => h'.elim);cases ok with
   | false => exact a6 ⟨rfl, h₃⟩
   | true =>
     exact a4 (a4 (cj h₃ (fun x s₄ h₄ => a4 (cj h₄ (fun _ s₅ h₅ => a6 (a6 ⟨rfl, h₅⟩)) fun _ _ h' => h'.elim)) fun _ _ h' => h'.elim))
end
noncomputable def clo (env : Env) : List (Str × NameKind) → List (Str × Addr) → List (Str × Addr)
 | [], cs => cs
 | (n, k) :: r, cs => if k == .free then clo env r ((n, (env.cells.lookup n).getD 0) :: cs) else clo env r cs
theorem k4 (hf : ∀ x ∈ scope.names, x.2 = .free → ∃ c, env.cells.lookup x.1 = some c) : closureFor scope env = pure (clo env scope.names []) := by
 have go : ∀ (l : List (Str × NameKind)) (cs : List (Str × Addr)), (∀ x ∈ l, x.2 = .free → ∃ c, env.cells.lookup x.1 = some c) →
   (forIn (m := Sem) l cs fun x r => (if (x.2 == NameKind.free) = true then do let a ← cellOf env x.1; pure (ForInStep.yield ((x.1, a) :: r)) else pure (ForInStep.yield r))) = pure (clo env l cs) := by
  intro l;induction l with
  | nil => intro cs _; rfl
  | cons p r ih =>
    obtain ⟨n, k⟩ := p;intro cs h;have hr : ∀ x ∈ r, x.2 = .free → ∃ c, env.cells.lookup x.1 = some c := fun x hx => h x (bn _ hx);rw [List.forIn_cons];by_cases hk : k = .free
    · subst hk;obtain ⟨c, hc⟩ := h (n, .free) be rfl;have e : cellOf env n = pure c := by unfold cellOf; dsimp only at hc; rw [hc]
      dsimp only;rw [if_pos (by rfl), e, pure_bind, pure_bind];dsimp only;rw [ih _ hr];dsimp only at hc;show _ = pure (if (NameKind.free == .free) = true then clo env r ((n, (env.cells.lookup n).getD 0) :: cs) else clo env r cs);rw [if_pos (by rfl), hc];rfl
    · have hk' : (k == NameKind.free) = false := by simpa using hk
      dsimp only;rw [hk', if_neg az, pure_bind];dsimp only;rw [ih _ hr];show _ = pure (if (k == .free) = true then clo env r ((n, (env.cells.lookup n).getD 0) :: cs) else clo env r cs);rw [hk', if_neg az]
 have e := go scope.names [] hf;unfold closureFor;simp only [];exact (by
  first
   | exact e
   | (rw [show (forIn (m := Sem) scope.names ([] : List (Str × Addr)) _) = _ from e]; rfl)
   | (simpa using e))
theorem Z2 {env : Env} {x : Str} {c : Addr} : ∀ {l : List (Str × NameKind)} {cs : List (Str × Addr)}, (∀ x ∈ l, x.2 = .free → ∃ c, env.cells.lookup x.1 = some c) → (clo env l cs).lookup x = some c → cs.lookup x = some c ∨ env.cells.lookup x = some c
 | [], cs, _, h => .inl h
 | (n, k) :: r, cs, hf, h => by
   have hr : ∀ x ∈ r, x.2 = .free → ∃ c, env.cells.lookup x.1 = some c := fun x hx => hf x (bn _ hx);unfold clo at h;split at h
   · rename_i hk
     obtain ⟨c', hc'⟩ := hf (n, k) be (by simpa using hk);dsimp only at hc';rcases Z2 hr h with q | q
     · rw [List.lookup_cons] at q;cases e : x == n with
       | true =>
         rw [e] at q;have : x = n := by simpa using e
         subst this;rw [hc'] at q;dsimp at q;exact .inr (hc'.trans q)
       | false => rw [e] at q; exact .inl q
     · exact .inr q
   · exact Z2 hr h
theorem Yy {env : Env} {x : Str} : ∀ {l : List (Str × NameKind)} {cs : List (Str × Addr)}, (x, NameKind.free) ∈ l ∨ (∃ c, cs.lookup x = some c) → ∃ c, (clo env l cs).lookup x = some c
 | [], cs, h => by
   rcases h with h | h
   · cases h
   · exact h
 | (n, k) :: r, cs, h => by
   unfold clo;split
   · rename_i hk
     have hk : k = .free := by simpa using hk
     subst hk;refine Yy (cs := (n, (env.cells.lookup n).getD 0) :: cs) ?_;rcases h with h | ⟨c, h⟩
     · rcases aa.mp h with h | h
       · cases h;exact .inr ⟨_, List.lookup_cons_self⟩
       · exact .inl h
     · refine .inr ?_;cases e : x == n with
       | true => exact ⟨_, by rw [List.lookup_cons, e]⟩
       | false => exact ⟨c, by rw [List.lookup_cons, e]; exact h⟩
   · rename_i hk
     refine Yy ?_;rcases h with h | h
     · rcases aa.mp h with h | h
       · cases h;exact absurd rfl hk
       · exact .inl h
     · exact .inr h
theorem Yl (hcell : ∀ y ∈ scope.names, y.2 ≠ .cell) (h : (relabel scope env).names.lookup x = some .cell ∨ (relabel scope env).names.lookup x = some .free) : (x, NameKind.free) ∈ scope.names := by
 have go : ∀ (l : List (Str × NameKind)), (∀ y ∈ l, y.2 ≠ .cell) → ∀ k, (k = NameKind.cell ∨ k = .free) →
   (l.map fun (n, k) => if (k == NameKind.free && env.scope.kind == .function && env.kindOf n == some .cell) then (n, NameKind.cell) else (n, k)).lookup x = some k → (x, NameKind.free) ∈ l := by
  intro l;induction l with
  | nil => intro _ k _ h; cases h
  | cons p r ih =>
    obtain ⟨n, k0⟩ := p;intro hc k hk h;have hr : ∀ y ∈ r, y.2 ≠ .cell := fun y hy => hc y (bn _ hy);rw [de] at h;dsimp only at h;have hn := hc (n, k0) be;dsimp only at hn;by_cases hx : (x == n) = true
    · have e : x = n := by simpa using hx
      subst e;split at h
      · rename_i hz
        have : k0 = .free := by
         simp only [bc] at hz;simpa using hz.1.1
        subst this;exact be
      · rw [List.lookup_cons_self] at h;cases h;rcases hk with rfl | rfl
        · exact absurd rfl hn
        · exact be
    · have hx : (x == n) = false := by simpa using hx
      have h' : (r.map fun (n, k) => if (k == NameKind.free && env.scope.kind == .function && env.kindOf n == some .cell) then (n, NameKind.cell) else (n, k)).lookup x = some k := by
       split at h
       · rw [List.lookup_cons, hx] at h; exact h
       · rw [List.lookup_cons, hx] at h; exact h
      exact bn _ (ih hr k hk h')
 rcases h with h | h
 · exact go scope.names hcell _ (.inl rfl) h
 · exact go scope.names hcell _ (.inr rfl) h
abbrev Xj (us : List Value) : Obj := { cls := .type "list", data := .seq us.toArray us.length }
theorem ze5 (us : List Value) (u : Value) : ({ cls := .type "list", data := .seq (us.toArray.push u) (us.length + 1) } : Obj) = Xj (us ++ [u]) := by
 show ({ cls := .type "list", data := .seq (us.toArray.push u) (us.length + 1) } : Obj) = { cls := .type "list", data := .seq (us ++ [u]).toArray (us ++ [u]).length };rw [ba, cm, List.push_toArray]
noncomputable def capσ (k : Nat) (cap : List Nat) (σ : St) : St := List.replicate k none ++ cap.map fun j => (σ[j]?).getD none
noncomputable def zcv (own : List Str) (cap : List Nat) (N : List Str) : List Str := own ++ cap.map fun j => (N[j]?).getD Str.empty
noncomputable def wm (X : Cx) (own : List Str) (cap : List Nat) (scope : Scope) (C : Addr) (fp : List Addr) (s₂ : Shared) (H₂ : Hp) : Cx :=
 { X with N := zcv own cap X.N, s₀ := s₂, H₀ := H₂, env := compEnvC scope (clo X.env scope.names []) C X.env, outer := X.stack, ex := fp, fn := fun _ => false, pn := [], xe := fun _ _ => False }
noncomputable def Ja (X : Cx) (scope : Scope) : List Nat → Prop
 | [] => True
 | j :: r => (∃ x, X.N[j]? = some x ∧ (X.env.scope.names.lookup x = some .cell ∨ X.env.scope.names.lookup x = some .free) ∧ (relabel scope X.env).names.lookup x ≠ some .local) ∧ Ja X scope r
theorem Ja.mem {X : Cx} {scope : Scope} : ∀ {cap : List Nat}, Ja X scope cap → ∀ j ∈ cap, ∃ x, X.N[j]? = some x ∧ (X.env.scope.names.lookup x = some .cell ∨ X.env.scope.names.lookup x = some .free) ∧ (relabel scope X.env).names.lookup x ≠ some .local
 | [], _, _, h => nomatch h
 | _ :: _, ⟨a, b⟩, j, h => by
   rcases aa.mp h with rfl | h
   · exact a
   · exact Ja.mem b j h
structure LcScope (X : Cx) (own : List Str) (cap : List Nat) (scope : Scope) : Prop where
 kind : scope.kind = .function
 free : ∀ x ∈ scope.names, x.2 = .free → X.env.kindOf x.1 = some .cell ∨ X.env.kindOf x.1 = some .free
 cell : ∀ x ∈ scope.names, x.2 ≠ .cell
 names : ∀ x ∈ scope.names, x.2 = .local → scope.names.lookup x.1 = some .local
 cap : Ja X scope cap
section
variable {H₂ : Hp} {s₂ : Shared} {C : Addr} {fp : List Addr}
theorem LcScope.has (S : LcScope X own cap scope) (ok : X.Ok) : ∀ x ∈ scope.names, x.2 = .free → ∃ c, X.env.cells.lookup x.1 = some c := fun x hx hk => ok.has _ (S.free x hx hk)
theorem LcScope.look (S : LcScope X own cap scope) (ok : X.Ok) (h : (clo X.env scope.names []).lookup x = some c) : X.env.cells.lookup x = some c := by
 rcases Z2 (S.has ok) h with q | q
 · cases q
 · exact q
theorem Un.cellK {fs ex : List Addr} {h : Heap} {v : Option Value} (u : Un fs ex H H' h h') (n : H c = none) (hx : c ∉ ex) (z : h.IsCell c v) : h'.IsCell c v := by
 obtain ⟨o, ho, hd⟩ := z;obtain ⟨sl, e⟩ := u.any ho n hx;exact ⟨_, e, hd⟩
theorem zfl (I : Inv X pins σ H₂ s₂) (S : LcScope X own cap scope) (f : ∀ b ∈ fp, X2 X pins H₂ b) (hC : s₂.heap.objs.size ≤ C) (hfp : ∀ b ∈ fp, b < s₂.heap.objs.size) : (wm X own cap scope C fp s₂ H₂).Ok where
 mod := I.ok.mod
 kind := S.kind
 glob := I.ok.glob
 blt := I.ok.blt
 above := hC
 inj := fun x y c h1 h2 => I.ok.inj x y c (S.look I.ok h1) (S.look I.ok h2)
 has := fun x h => Yy (.inl (Yl S.cell h))
 cab := fun x c h => by cases h
 hd := I.ok.hd
 frames := I.ok.frames
 stk := .inl rfl
 exf := fun b hb => ⟨aw (bg (hfp b hb) hC), fun x c h => (f b hb).2.2.2.2.1 x c (S.look I.ok h)⟩
 bs := I.bs
 bsz := ay I.ok.bsz I.sz
 noex := fun b o e hb => by
  rcases (f b hb).2.2.2.1 with z | z
  · exact I.ok.noex b o e z
  · exact absurd (bg (ac e) (ay I.ok.bsz z)) (c6 _)
 exfs := fun b hb z => by
  rcases aa.mp (I.stkSub b z) with e | e
  · exact (f b hb).2.1 e
  · exact (f b hb).2.2.1 e
 funs := I.stack
 frf := fun b hb => I.stkFree b hb
theorem zbb (I : Inv X pins σ H₂ s₂) (S : LcScope X own cap scope) (f : ∀ b ∈ fp, X2 X pins H₂ b) {fs : List Addr} (u : Un fs fp H₂ H' s₂.heap h') (m : Str → Option Value) :
  ∀ (i : Nat) (x : Str) (v : V), (zcv own cap X.N)[i]? = some x → (capσ own.length cap σ)[i]? = some (some v) → Vis (relabel scope X.env) x → ∃ q, yw v q ∧ zpk (compEnvC scope (clo X.env scope.names []) C X.env) h' m x q := by
 intro i x v h1 h2 h3;unfold capσ at h2;unfold zcv at h1;by_cases hi : i < own.length
 · rw [dh (by simpa using hi), List.getElem?_replicate] at h2;split at h2 <;> cases h2
 · rw [List.getElem?_append_right (by simpa using hi)] at h2 h1;rw [c9] at h2;rw [ao] at h1 h2;cases e : cap[i - own.length]? with
   | none => rw [e] at h1; cases h1
   | some j =>
     rw [e] at h1 h2;obtain ⟨y, hy, hk, hnl⟩ := S.cap.mem j (bj e);have h1 : (X.N[j]?).getD Str.empty = x := Option.some.inj h1;rw [hy] at h1;have h1 : y = x := h1;subst h1;have h2 : (σ[j]?).getD none = some v := Option.some.inj h2;have h2' : σ[j]? = some (some v) := by
      cases q : σ[j]? with
      | none => rw [q] at h2; cases h2
      | some z => rw [q] at h2; exact congrArg some h2
     obtain ⟨m0, hn, hl⟩ := I.loc;obtain ⟨q, r, l⟩ := hl j y v hy h2' (.inr hk);refine ⟨q, r, ?_⟩;rcases l with ⟨kl, _⟩ | ⟨_, c, hc, z⟩
     · have kl : X.env.scope.names.lookup y = some .local := kl;rcases hk with k | k <;> (rw [kl] at k; cases k)
     · have hk' : (relabel scope X.env).names.lookup y = some .cell ∨ (relabel scope X.env).names.lookup y = some .free := h3.resolve_left hnl;obtain ⟨c', hc'⟩ := Yy (env := X.env) (cs := []) (.inl (Yl S.cell hk'));have e2 := S.look I.ok hc';rw [hc] at e2;cases e2;exact .inr ⟨hk', c, hc', u.cellK (I.freeC y c hc) (fun zz => (f c zz).2.2.2.2.1 y c hc rfl) z⟩
theorem Q0 (I : Inv X pins σ H₂ s₂) (S : LcScope X own cap scope) (f : ∀ b ∈ fp, X2 X pins H₂ b) (J : Inv (wm X own cap scope C fp s₂ H₂) pins' σ' H' s') :
  Inv (wm X own cap scope C fp s₂ H₂) pins' (capσ own.length cap σ) H' s' := by
 obtain ⟨m, hn, _⟩ := id J.loc;refine ⟨J.ok, J.os, J.bare, J.base, ⟨m, hn, zbb I S f J.base m⟩, J.cell, J.free, J.freeC, J.pin, J.hok, ?_⟩;unfold capσ;show _ = (zcv own cap X.N).length;unfold zcv;simp
theorem zbc {D : Addr} {ys : List V} (I : Inv X pins σ H₂ s₂) (f : ∀ b ∈ fp, X2 X pins H₂ b) (J : Inv (wm X own cap scope C fp s₂ H₂) pins' σ' H' s')
  (hs : Heap.SameBut C s'.heap h') (hC : s₂.heap.objs.size ≤ C) (hD : s₂.heap.objs.size ≤ D) (hDC : D ≠ C) (ho : s'.heap.get? D = some (Xj us)) (hn : H' D = none) (hl : ys.length ≤ sizeLine) (r : ym ys us) :
  Inv X pins σ (upd H' D (.lst ys)) { s' with heap := h' } := by
 have same : ∀ b o, b ≠ C → s'.heap.get? b = some o → h'.get? b = some o := fun b o hb e => (hs.2 b hb).trans e;have old : ∀ b o, s₂.heap.get? b = some o → b ≠ C ∧ b ≠ D := fun b o e => ⟨aw (bg (ac e) hC), aw (bg (ac e) hD)⟩
 have u : Un (frs X.stack) fp H₂ H' s₂.heap s'.heap := J.base;have HC : H' C = none := J.free;have hok : HOk X.prog X.w (upd H' D (.lst ys)) h' := by
  intro b ob e;by_cases hb : b = D
  · subst hb;rw [zf] at e;cases e;exact ⟨hl, us, us.length, r, same b _ hDC ho⟩
  · rw [zk hb] at e;have neC : ∀ c w', H' c = some w' → c ≠ C := fun c w' z q => by rw [q, HC] at z; cases z
    refine (J.hok b ob e).stay (fun c v hc q => same c v ?_ q) (fun c q => ?_) fun c xs q => ?_
    · rcases hc with z | z
      · rw [z]; exact neC b ob e
      · exact neC c _ z
    · rw [zk (zm q hn)]; exact q
    · rw [zk (zm q hn)]; exact q
 refine I.call' (s' := { s' with heap := h' }) (ch := fp) J.os ⟨fun b o e n hb hx => ?_, fun b o e n hb hx => ?_, fun b o e n hx => ?_, fun b o e hx => ?_, fun b xs e => ?_, fun b o xs e => ?_, fun b ps e => ?_⟩ hok J.bare fun b hb => ?_
 · exact same b o (old b o e).1 (u.keep b o e n hb hx)
 · obtain ⟨sl, q⟩ := u.slot b o e n hb hx;exact ⟨sl, same b _ (old b o e).1 q⟩
 · rw [zk (old b o e).2]; exact u.free b o e n hx
 · obtain ⟨o', q⟩ := u.there b o e hx;exact ⟨o', same b _ (old b o e).1 q⟩
 · have q := u.tups b xs e;rw [zk (zm q hn)]; exact q
 · have q := u.frzs b o xs e;rw [zk (zm q hn)]; exact q
 · obtain ⟨more, q⟩ := u.tbls b ps e;exact ⟨more, by rw [zk (zm q hn)]; exact q⟩
 · obtain ⟨f0, f1, f2, f3, f4, f5⟩ := f b hb;exact ⟨f3, f1, f4, f5⟩
end
noncomputable def zit (X : Cx) (ifs : List Expr) (t : TT) : Prop :=
 ∀ (pins : List (Addr × Obj)) (s : Shared) (σ : St) (H : Hp) (Q : Bool → Hp → Prop), Inv X pins σ H s → t σ H Q →
   wpAny (model X.prog X.w) X.A (forIn ifs true fun c r => if r = true then do let ok ← isTrue c X.env (eval c X.env); pure (ForInStep.yield ok) else pure (ForInStep.yield r)) (TP X pins σ Q) X.xe s
noncomputable def zlk : TT := fun _ H Q => Q true H
theorem yq : zit X [] zlk := by
 intro pins s σ H Q I h;exact a6 ⟨H, I, h⟩
theorem Zh {c : Expr} {t : TT} (h : PT X c t) : zit X [c] t := by
 intro pins s σ H Q I hq;rw [List.forIn_cons];rw [if_pos rfl];refine a4 (a4 (thn (h pins s σ H Q I hq) fun b s1 ⟨H1, I1, q1⟩ => ?_));refine a6 ?_;dsimp only;rw [List.forIn_nil];exact a6 ⟨H1, I1, q1⟩
noncomputable def Y1 (J : It) (g : TG) (tc : TT) (te : TE) (k : Nat) (cap : List Nat) (σ : St) (H : Hp) (Q : VK) : Prop :=
 ∃ W : Nat → Nat → List V → Hp → Prop, (∃ m, W 0 m [] H) ∧ ∀ i m ys H, W i m ys H →
   (J.stop i H ∧ ys.length ≤ sizeLine ∧ ∀ p, H p = none → Q (.ref p) (upd H p (.lst ys))) ∨
   (J.go i H ∧ ys.length ≤ sizeLine ∧ ∃ N : List V → Hp → Prop, (∀ ys' H', N ys' H' → ∃ m', m' < m ∧ W (i + 1) m' ys' H') ∧ ∀ x H', J.yld i H x H' → g x (capσ k cap σ) H' fun σ2 H2 => tc σ2 H2 fun b H3 => if b = true then te σ2 H3 fun y H4 => N (ys ++ [y]) H4 else N ys H3)
noncomputable def tLc (wi : TI) (g : TG) (tc : TT) (te : TE) (k : Nat) (cap : List Nat) : TE := fun σ H Q => wi σ H fun J H1 => Y1 J g tc te k cap σ H1 Q
section
variable {iter elt : Expr} {wi : TI}
theorem zat {s2 : Shared} {fp : List Addr} {tn : Nat → Heap → Prop} {J : It} {W : Nat → Nat → List V → Hp → Prop} {m0 : Nat} {QQ : List V → Hp → Prop} {RR : Value → Addr → Result → Shared → Prop}
  (hc : X.calm = true) (S : LcScope X own cap scope)
  (hg : ∀ C fp s₂ H₂, PG (wm X own cap scope C fp s₂ H₂) tg g) (ht : ∀ C fp s₂ H₂, zit (wm X own cap scope C fp s₂ H₂) ifs tc) (he : ∀ C fp s₂ H₂, PE (wm X own cap scope C fp s₂ H₂) elt te)
  (I2 : Inv X pins σ H2 s2) (T : Turn X.prog X.w X.K tg J fp it tn) (st2 : tn 0 s2.heap) (f2 : ∀ b ∈ fp, X2 X pins H2 b) (w0 : W 0 m0 [] H2)
  (turn : ∀ i m ys H, W i m ys H →
   (J.stop i H ∧ ys.length ≤ sizeLine ∧ QQ ys H) ∨
   (J.go i H ∧ ys.length ≤ sizeLine ∧ ∃ N : List V → Hp → Prop, (∀ ys' H', N ys' H' → ∃ m', m' < m ∧ W (i + 1) m' ys' H') ∧ ∀ x H', J.yld i H x H' → g x (capσ own.length cap σ) H' fun σ2 H2 => tc σ2 H2 fun b H3 => if b = true then te σ2 H3 fun y H4 => N (ys ++ [y]) H4 else N ys H3))
  (hRR : ∀ (D C : Addr) (pins' : List (Addr × Obj)) (σ' : St) (H' : Hp) (s' : Shared) (us : List Value) (ys : List V), Inv (wm X own cap scope C fp s2 H2) pins' σ' H' s' → s2.heap.objs.size ≤ C → s2.heap.objs.size ≤ D → D ≠ C → s'.heap.get? D = some (Xj us) → H' D = none →
   ys.length ≤ sizeLine → ym ys us → QQ ys H' → RR (.ref D) C (.ok .next) s') :
  wpAny (model X.prog X.w) X.A (newList []) (fun acc s₃ => wpAny (model X.prog X.w) X.A (newFunctionEnv scope X.env.globals (clo X.env scope.names []) [] X.env.qual none .none (some X.env)) (fun cenv s₄ =>
   codeAny (model X.prog X.w) X.A (.compStart (.ListComp elt [⟨tg, iter, ifs, 0⟩] scope pos) 0 (.ref it) acc { cenv with scope := relabel scope X.env }) (RR acc cenv.locals) s₄) X.xe s₃) X.xe s2 := by
 refine ca (wpAny_newFunctionEnv S.cell (by intro y hy; simp at hy) (fun h₁ hns₁ hsb₁ => ?_) S.kind);dsimp only at hns₁ hsb₁ ⊢;generalize hH2 : s2.heap.push { cls := .type "list", dict := none, data := .seq ([] : List Value).toArray } = g2 at hns₁ hsb₁ ⊢;have hCs : g2.objs.size = s2.heap.objs.size + 1 := by rw [← hH2, cy]
 have hC : s2.heap.objs.size ≤ g2.objs.size := by rw [hCs]; exact Nat.le_succ _
 have hDC : s2.heap.objs.size ≠ g2.objs.size := by rw [hCs]; exact aw (Nat.lt_succ_self _)
 have below : ∀ b, b < s2.heap.objs.size → b ≠ g2.objs.size ∧ b ≠ s2.heap.objs.size := fun b hb => ⟨by rw [hCs]; exact aw (Nat.lt_succ_of_lt hb), aw hb⟩
 have old : ∀ b o, s2.heap.get? b = some o → h₁.get? b = some o := fun b o e => hsb₁.extBut b o (below b (ac e)).1 (a8 _ (hH2 ▸ a8 _ e));have hacc : h₁.get? s2.heap.objs.size = some (Xj []) := hsb₁.extBut _ _ hDC (a8 _ (hH2 ▸ ar _ rfl));have hfp : ∀ b ∈ fp, b < s2.heap.objs.size := fun b hb => by
  obtain ⟨o, e, _⟩ := T.obj _ _ st2 b hb;exact ac e
 have freeAt : ∀ a, s2.heap.objs.size ≤ a → H2 a = none := fun a ha => I2.hok.fresh ha;have ok := zfl (own := own) (C := g2.objs.size) I2 S f2 hC hfp;have st1 : tn 0 h₁ := T.keep _ _ _ st2 fun b hb o e => old b o e;let X' := wm X own cap scope g2.objs.size fp s2 H2;have u1 : Un (frs X.stack) fp H2 H2 s2.heap h₁ := Un.kept old;have start : Inv X' [(s2.heap.objs.size, Xj [])] (capσ own.length cap σ) H2 { s2 with heap := h₁, toks := s2.toks + ([] : List (Str × Value)).length } := by
  refine ⟨ok, rfl, I2.bare, u1, ⟨_, hns₁, zbb I2 S f2 u1 _⟩, fun x c e => ?_, freeAt _ hC, fun x c e => I2.freeC x c (S.look I2.ok e), fun p hp => ?_, I2.hok.kept old, ?_⟩
  · obtain ⟨v, z⟩ := I2.cell x c (S.look I2.ok e);obtain ⟨o, ho, hd⟩ := z;exact ⟨v, o, old c o ho, hd⟩
  · have e : p = (s2.heap.objs.size, Xj []) := by simpa [X', wm] using hp
    subst e;refine ⟨hacc, freeAt _ (a9 _), hDC, fun z => ?_, fun v z => by cases z⟩;obtain ⟨_, o, ho, _⟩ := I2.stack.mem z;exact absurd (ac ho) (c6 _)
  · unfold capσ;show _ = (zcv own cap X.N).length;unfold zcv;simp
 have stat : ∀ {D : Addr} {o : Obj} {H' : Hp}, s2.heap.objs.size ≤ D → (∀ b ∈ fp, H' b = none) → ∀ b ∈ fp, X2 X' [(D, o)] H' b := fun {D o H'} hD hn b hb =>
  ⟨hn b hb, (ok.exf b hb).1, ok.exfs b hb, .inl hb, fun x c e => (ok.exf b hb).2 x c e, fun p hp => by
   have e : p = (D, o) := by simpa [X', wm] using hp
   subst e;exact ae (aw (bg (hfp b hb) hD))⟩
 have loop : ∀ s₃ : Shared, s₃ = { s2 with heap := h₁, toks := s2.toks + ([] : List (Str × Value)).length } →
   codeAny (model X.prog X.w) X.A (.compLoop (.ListComp elt [⟨tg, iter, ifs, 0⟩] scope pos) 0 (.ref it) (.ref s2.heap.objs.size) (compEnvC scope (clo X.env scope.names []) g2.objs.size X.env))
    (RR (.ref s2.heap.objs.size) g2.objs.size) s₃ := by
  rintro s₃ rfl;refine Ke (fun n s' => ∃ i H' us ys, Inv X' [(s2.heap.objs.size, Xj us)] (capσ own.length cap σ) H' s' ∧ tn i s'.heap ∧ (∀ b ∈ fp, H' b = none) ∧ ym ys us ∧ W i n ys H') ?_ m0
   ⟨0, H2, [], [], start, st1, fun b hb => (f2 b hb).1, .nil, w0⟩
  rintro n s3 ⟨i, H3, us, ys, I3, st3, fr3, rv, w3⟩;have hacc3 := I3.pin (s2.heap.objs.size, Xj us) (ci _ be);rcases turn i n ys H3 w3 with ⟨stop, hl, qn⟩ | ⟨go, hl, N, hN, step⟩
  · refine thn (T.done X' rfl rfl rfl hc i _ s3 _ H3 _ I3 (stat (a9 _) fr3) st3 stop) fun r s4 ⟨hr, I4⟩ => ?_;subst hr;have hacc4 := I4.pin (s2.heap.objs.size, Xj us) (ci _ be);exact hRR _ _ _ _ H3 s4 us ys I4 hC (a9 _) hDC hacc4.1 hacc4.2.1 hl rv qn
  · refine thn (T.item X' rfl rfl rfl hc i _ s3 _ H3 _ I3 (stat (a9 _) fr3) st3 go) fun r s4 ⟨u, hr, h4⟩ => ?_;subst hr;refine thn h4 fun _ s5 ⟨x, H5, I5, r5, y5, st5, fr5⟩ => ?_;have I5' := I5.pinned (stat (a9 _) fr5) (T.obj _ _ st5);refine thn (hg _ _ _ _ _ s5 _ H5 x u _ I5' r5 (step x H5 y5)) fun _ s6 ⟨σ6, H6, I6, q6⟩ => ?_;refine thn (ht _ _ _ _ _ s6 σ6 H6 _ I6 q6) fun b s7 ⟨H7, I7, q7⟩ => ?_;have tnK : ∀ {σ8 : St} {H8 : Hp} {s8 : Shared}, Inv X' ([(s2.heap.objs.size, Xj us)] ++ Wy fp s5.heap) σ8 H8 s8 → tn (i + 1) s8.heap ∧ ∀ b ∈ fp, H8 b = none := fun {σ8 H8 s8} I8 => by
     refine ⟨T.keep _ _ _ st5 fun b hb o e => (I8.pin (b, o) (ci _ (ci _ (j8 hb e)))).1, fun b hb => ?_⟩;obtain ⟨o, e, d⟩ := T.obj _ _ st5 b hb;exact (I8.pin (b, o) (ci _ (ci _ (j8 hb e)))).2.1
    cases b with
    | false =>
      rw [if_neg az] at q7;obtain ⟨m', hm, w7⟩ := hN _ _ q7;rw [if_neg az];obtain ⟨t7, n7⟩ := tnK I7;exact ⟨m', hm, i + 1, H7, us, ys, Q0 I2 S f2 I7.unpinned, t7, n7, rv, w7⟩
    | true =>
      rw [if_pos rfl] at q7;rw [if_pos rfl];refine thn (he _ _ _ _ _ s7 σ6 H7 _ I7 q7) fun y s8 ⟨z, H8, I8, r8, n8'⟩ => ?_;obtain ⟨m', hm, w8⟩ := hN _ _ n8';obtain ⟨t8, n8⟩ := tnK I8;have p8 := I8.pin (s2.heap.objs.size, Xj us) (ci _ (cu _ be));have hlu : us.length ≤ sizeLine := by rw [← rv.length]; exact hl
      refine append_at (hsz := by show us.toArray.size ≤ sizeLine; rw [ax]; exact hlu) p8.1 fun h9 hs9 hD9 => ?_;have hD9' : h9.get? s2.heap.objs.size = some (Xj (us ++ [y])) := hD9.trans (congrArg some (ze5 us y));refine ⟨m', hm, i + 1, H8, us ++ [y], ys ++ [z], ?_, T.keep _ _ _ t8 fun b hb o e => (hs9.2 b (fun q => ?_)).trans e, n8, ym.append rv (.cons r8 .nil), w8⟩
      · have J0 : Inv X' [] (capσ own.length cap σ) H8 s8 := (Q0 I2 S f2 I8).pins_of fun p hp => by cases hp
        have J1 : Inv X' [] (capσ own.length cap σ) H8 { s8 with heap := h9, toks := s8.toks } := J0.turned (it := s2.heap.objs.size) (fun b o hb e => (hs9.2 b hb).trans e) p8.2.1 p8.2.2.1 (.inr (a9 _)) (fun x c e q => by
         obtain ⟨v, hv⟩ := I2.cell x c (S.look I2.ok e);exact absurd (bg hv.lt (by rw [q]; exact a9 _)) (c6 _)) (fun p hp => by
         have : p ∈ ([] : List (Addr × Obj)) := by simpa [X', wm] using hp
         cases this)
        exact J1.pins_of fun p hp => by
         have e : p = (s2.heap.objs.size, Xj (us ++ [y])) := by simpa using hp
         subst e;exact ⟨hD9', p8.2.1, p8.2.2.1, p8.2.2.2.1, fun v z => by cases z⟩
      · exact absurd (hfp b hb) (by rw [q]; exact c6 _)
 exact codeAny_compStart_list (loop _ rfl) (T.self _ 0 _ _ _ st1 (loop _ rfl))
theorem wc (hc : X.calm = true) (S : LcScope X own cap scope) (hi : PI X tg iter wi)
  (hg : ∀ C fp s₂ H₂, PG (wm X own cap scope C fp s₂ H₂) tg g) (ht : ∀ C fp s₂ H₂, zit (wm X own cap scope C fp s₂ H₂) ifs tc) (he : ∀ C fp s₂ H₂, PE (wm X own cap scope C fp s₂ H₂) elt te)
  (hs : ∀ x, foldedSetIterable iter X.env x = pure x := by intro _; rfl) : PE X (.ListComp elt [⟨tg, iter, ifs, 0⟩] scope pos) (tLc wi g tc te own.length cap) := by
 intro pins s σ H Q I h;rw [eval_ListComp];refine wpAny_comprehension_free (use := none) (cl := clo X.env scope.names []) rfl hs (k4 (S.has I.ok)) S.kind S.names (thn (hi pins s σ H _ I h) fun v s1 h1 => thn h1 fun itv s2 h2 => ?_);obtain ⟨it, fp, tn, J, H2, e, I2, T, st2, f2, W, ⟨m0, w0⟩, turn⟩ := h2;subst e;refine zat hc S hg ht he I2 T st2 f2 w0 turn fun D C pins' σ' H' s' us ys J' hC hD hDC hD' hn hl rv q => ?_;obtain ⟨m, hns, _⟩ := id J'.loc;exact ⟨m, hns, fun h' hs' => ⟨.ref D, _, zbc I2 f2 J' hs' hC hD hDC hD' hn hl rv, rfl, q D hn⟩⟩
noncomputable def zps (i : Nat) (te : TE) : TS := fun D σ H => te σ H fun x H1 => D.nx (σ.set i (some x)) H1
theorem Qj {y : Str} {py spos : Pos} (hc : X.calm = true) (S : LcScope X own cap scope) (hi : PI X tg iter wi)
  (hg : ∀ C fp s₂ H₂, PG (wm X own cap scope C fp s₂ H₂) tg g) (ht : ∀ C fp s₂ H₂, zit (wm X own cap scope C fp s₂ H₂) ifs tc) (he : ∀ C fp s₂ H₂, PE (wm X own cap scope C fp s₂ H₂) elt te)
  (hN : X.N.Nodup) (hy : X.N[i]? = some y) (hl : X.env.scope.names.lookup y = some .local)
  (hsw : swapsWith (.ListComp elt [⟨tg, iter, ifs, 0⟩] scope pos) (some (.Name y py)) spos.line X.env = pure true)
  (hs : ∀ x, foldedSetIterable iter X.env x = pure x := by intro _; rfl) : PS X (.Assign [.Name y py] (.ListComp elt [⟨tg, iter, ifs, 0⟩] scope pos) spos) (zps i (tLc wi g tc te own.length cap)) := by
 intro pins s σ H D I h;rw [exec_Assign_Name_used _ _ _ _ hsw];refine a4 (wpAny_standAt (a4 ?_));show wpAny _ X.A (do let _ ← comprehension (.ListComp elt [⟨tg, iter, ifs, 0⟩] scope pos) scope X.env _ (newList []) false (eval iter X.env) (some (assign (.Name y py) X.env))) _ _ s;refine a4 (cj (wpAny_comprehension_free (use := some (assign (.Name y py) X.env)) (Q := fun _ s' => SP X pins D .next s') (cl := clo X.env scope.names []) rfl hs (k4 (S.has I.ok)) S.kind S.names
  (thn (hi pins s σ H _ I h) fun v s1 h1 => thn h1 fun itv s2 h2 => ?_)) (fun _ s' hq => a6 (a6 hq)) fun _ _ e => e)
 obtain ⟨it, fp, tn, J, H2, e, I2, T, st2, f2, W, ⟨m0, w0⟩, turn⟩ := h2;subst e;refine zat hc S hg ht he I2 T st2 f2 w0 turn fun L C pins' σ' H' s' us ys J' hC hD hDC hD' hn hll rv q => ?_;show wpAny _ X.A (assign (.Name y py) X.env (.ref L)) _ _ _;obtain ⟨m, hns, _⟩ := id J'.loc;have I3 : Inv X pins σ (upd H' L (.lst ys)) s' := zbc I2 f2 J' (h' := s'.heap) ⟨rfl, fun _ _ => rfl⟩ hC hD hDC hD' hn hll rv;refine wpAny_assign_Name (V7 I3 hN hy (.inl hl) (v := .ref L) rfl (fun s5 I5 hch => ?_) (.inr hl));have hCn : (upd H' L (.lst ys)) C = none := by rw [zk (ae hDC)]; exact J'.free
 have neC : ∀ a, (a = X.env.locals ∨ X.env.cells.lookup y = some a) → C ≠ a := fun a ha z => by
  rcases ha with e | e
  · exact absurd (bg I2.lt (by rw [← e, ← z]; exact hC)) (c6 _)
  · obtain ⟨v, hv⟩ := I2.cell y a e;exact absurd (bg hv.lt (by rw [← z]; exact hC)) (c6 _)
 obtain ⟨a, sb, ha⟩ := hch;refine ⟨m, hns.sameBut sb (neC a ha), fun h6 hs6 => ?_⟩;refine ⟨σ.set i (some (.ref L)), _, ?_, q L hn⟩;refine I5.turned (t' := s5.toks) (it := C) (fun b o hb e => (hs6.2 b hb).trans e) hCn ?_ (.inr (ay I2.sz hC)) (fun x c e z => ?_) fun p hp z => ?_
 · exact fun z => absurd (bg I2.lt (by rw [← z]; exact hC)) (c6 _)
 · obtain ⟨v, hv⟩ := I2.cell x c e;exact absurd (bg hv.lt (by rw [z]; exact hC)) (c6 _)
 · exact absurd (bg (ac (I2.pin p hp).1) (by rw [z]; exact hC)) (c6 _)
end
section
noncomputable def zgj (K : PySem.W.Frag) : List V → Hp → VK → Prop := fun xs H Q => ∃ x n t b, xs = [x, .ty n] ∧ TyOf K H x t ∧ PySem.W.kitOne K t (.type n) = some b ∧ Q (.bl b) H
theorem zil : v9 X (.builtin "isinstance") (zgj X.K) := by
 intro pins s σ H xs us Q I r h;obtain ⟨x, n, t, b, rfl, ty, e, q⟩ := h;obtain ⟨u, u', rfl, rx, ry⟩ := znb r;cases (show u' = Value.type n from ry);exact zfc I rx ty e fun tk => ⟨.bl b, H, I.tok tk, rfl, q⟩
theorem Qm : OpR X (compareOp .LtE) (fun x y H Q => ∃ i j, x = .str i ∧ y = .str j ∧ Q (.bl (!decide (j.cps.toList < i.cps.toList))) H) := by
 intro pins s σ H x y v u Q I rx ry h;obtain ⟨i, j, rfl, rfl, q⟩ := h;obtain ⟨t, rfl⟩ := rx;obtain ⟨t', rfl⟩ := ry;exact PySem.P.le_str (yv I q rfl)
theorem zjr (hu : X.A.units < cLine) : OpR X (compareOp .NotEq) (fun x y H Q => ∃ a b xs, x = .ref a ∧ y = .ref b ∧ SqL X.K H a xs ∧ SqL X.K H b [] ∧ Q (.bl (!xs.isEmpty)) H) := by
 intro pins s σ H x y v u Q I rx ry h;obtain ⟨a, b, xs, rfl, rfl, ha, hb, q⟩ := h;cases rx;cases ry;obtain ⟨ia, ra, pa, za⟩ := I.list ha;obtain ⟨ib, rb, pb, zb⟩ := I.list hb;cases rb;cases xs with
 | nil =>
   cases ra;exact SeqAt.RcNeAt.lists (e := fun _ => true) pa.isList pb.isList rfl hu (fun i hi => absurd hi (di i)) X.prog X.w _ _ ⟨.bl false, H, I, rfl, q⟩
 | cons z r =>
   cases ra with
   | cons r1 r2 =>
     exact SeqAt.RcNeAt.lists_lengths pa.isList pb.isList (by simp) hu X.prog X.w _ _ ⟨.bl true, H, I, rfl, q⟩
theorem wg (hc : X.calm = true) : v9 X (.builtin "all") (fun xs H Q => ∃ (a : Addr) (bs : List Bool), xs = [.ref a] ∧ SqL X.K H a (bs.map V.bl) ∧ Q (.bl (bs.all id)) H) := by
 intro pins s σ H xs us Q I r h;obtain ⟨a, bs, rfl, hq, q⟩ := h;obtain ⟨u, rfl, rx⟩ := v8 r;cases rx;obtain ⟨its, rv, p, hz⟩ := I.list hq;have hlt : a < s.heap.objs.size := by obtain ⟨_, e, _⟩ := p.isList; exact ac e
 have hl := rv.length;rw [a7] at hl;refine call_all_walk (wpAny_pyIter_list p.isList ?_);refine ⟨s.heap.objs.size, _, _, _, _, _, fun i => (bs[i]?).getD false, rfl, Walks.list (A := X.A.in1) (show X.A.in1.handled = none from I.ok.hd hc) s.heap.objs.size a (aw hlt) its.toArray, ⟨⟨_, ar _ rfl, rfl, rfl⟩, p.isList.push _⟩, ?_, fun h' tk hk => ?_⟩
 · intro i v s' Q' E' hP hQ';have hP : its[i]? = some v := by simpa using hP
   cases e : bs[i]? with
   | none =>
     have := List.getElem?_eq_none_iff.mp e;have h2 : its[i]? = none := List.getElem?_eq_none_iff.mpr (by omega);rw [h2] at hP;cases hP
   | some b =>
     obtain ⟨u, hu, ru⟩ := rv.get (i := i) (x := V.bl b) (by rw [ao, e]; rfl);rw [hu] at hP;cases hP;cases (show v = Value.bool b from ru);dsimp only at hQ';rw [e] at hQ';exact a6 hQ'
 · have e : ((List.range its.toArray.size).all fun i => (bs[i]?).getD false) = bs.all id := by
    rw [ax, ← hl];clear q hq rv hl;rw [Bool.eq_iff_iff, cz, cz];constructor
    · intro h x hx;obtain ⟨i, hi, rfl⟩ := d0.mp hx;have := h i (cb.mpr hi);simpa [hi] using this
    · intro h i hi;have hi := cb.mp hi;have := h (bs[i]) (List.getElem_mem hi);simpa [hi] using this
   rw [e];refine ⟨.bl (bs.all id), H, I.kept fun b o e => hk b o (fun hb => ?_) (a8 _ e), rfl, q⟩;have z : b = s.heap.objs.size := by simpa using hb
   exact absurd (ac e) (by rw [z]; exact c6 _)
end
section
theorem W2 {t : Addr} {v : Value} (hit : s.heap.IsTupleIter it t i) (ht : s.heap.IsTuple t its) (hv : its[i]? = some v)
  (k : ∀ g, g.IsTupleIter it t (i + 1) → Heap.SameBut it s.heap g → Q v { s with heap := g }) : wpAny (model prog w) A (Builtin.SmallTypes.nextOf (.ref it)) Q E s := by
 obtain ⟨o, e1, e2, e3⟩ := id hit;obtain ⟨ot, et, _, nt, dt⟩ := ht;unfold Builtin.SmallTypes.nextOf;refine a4 (wpAny_callSpecial?_slot (name := Str.ofString "__next__") hit.typeIs PySem.F.slot_tuple_iterator_next (c0 PySem.F.slot_tuple_iterator_next hit.typeIs PySem.F.entry_tuple_iterator_next ?_ (PySem.F.args_tuple_iterator_next_1 _)));show wpAny _ _ (field (.ref it) 0 >>= _) _ _ s;refine a4 (wpAny_field e1 e3 (x := .ref t) rfl ?_);show wpAny _ _ (if (Value.ref t == Value.none) = true then _ else _) _ _ s;rw [if_neg (fun z => by cases (show false = true from z))];show wpAny _ _ (field (.ref it) 1 >>= _) _ _ s;refine a4 (wpAny_field e1 e3 (x := .int i 0) rfl ?_);show wpAny _ _ (seqItems? (.ref t) >>= _) _ _ s;refine a4 (wpAny_seqItems et dt ?_);simp only [bw, hv];refine a4 (wpAny_setField e1 e3 (by simp) (a6 ⟨v, rfl, a6 (k _ ⟨_, Heap.get?_update_self _ e1 (Obj.isFreed_of_fields (Obj.data_mapFields e3 _)), (Obj.cls_mapFields ..).trans e2, ?_⟩ (Heap.SameBut.update ..))⟩));rw [Obj.data_mapFields e3]; simp [rawInt]
theorem Zl {t : Addr} (hh : A.handled = none) (hit : s.heap.IsTupleIter it t i) (ht : s.heap.IsTuple t its) (hv : its[i]? = none)
  (k : ∀ g x, Heap.ExtBut it s.heap g → (∃ o, g.get? x = some o ∧ o.cls = .type "StopIteration") → E (.ref x) { s with heap := g }) : wpAny (model prog w) A (Builtin.SmallTypes.nextOf (.ref it)) Q E s := by
 obtain ⟨o, e1, e2, e3⟩ := id hit;obtain ⟨ot, et, _, nt, dt⟩ := ht;unfold Builtin.SmallTypes.nextOf;refine a4 (wpAny_callSpecial?_slot (name := Str.ofString "__next__") hit.typeIs PySem.F.slot_tuple_iterator_next (c0 PySem.F.slot_tuple_iterator_next hit.typeIs PySem.F.entry_tuple_iterator_next ?_ (PySem.F.args_tuple_iterator_next_1 _)));show wpAny _ _ (field (.ref it) 0 >>= _) _ _ s;refine a4 (wpAny_field e1 e3 (x := .ref t) rfl ?_);show wpAny _ _ (if (Value.ref t == Value.none) = true then _ else _) _ _ s;rw [if_neg (fun z => by cases (show false = true from z))];show wpAny _ _ (field (.ref it) 1 >>= _) _ _ s;refine a4 (wpAny_field e1 e3 (x := .int i 0) rfl ?_);show wpAny _ _ (seqItems? (.ref t) >>= _) _ _ s;refine a4 (wpAny_seqItems et dt ?_);simp only [bw, hv];refine a4 (wpAny_rule (a4 (wpAny_setField e1 e3 (by simp) ?_)));show wpAny _ _ (newExc (.type "StopIteration") [] >>= _) _ _ _;refine a4 ?_;simp only [newExc, newTuple];refine a4 (ca ?_ (by size_fits));refine a4 (m := firstArgMember _ _) (wpAny_of_eq (a := Value.none) (by first | rfl | (simp only [firstArgMember]; rfl)) ?_);refine ca ?_ (by size_fits);simp only [raiseNew];refine a4 (wpAny_handled ?_);first | rw [show A.in1.handled = none from hh] | rw [hh]
 exact a4 (a6 (wpAny_throw (k _ _ (((Heap.SameBut.update ..).extBut.push _).push _) ⟨_, ar _ rfl, rfl⟩)))
theorem zcr {e t : Addr} {v : Value} {Q : Option Value → Shared → Prop} (he : IsEnum s.heap e it i old) (hit : s.heap.IsTupleIter it t i) (ht : s.heap.IsTuple t its) (hv : its[i]? = some v) (hne : e ≠ it)
  (k : ∀ g, IsEnumOut g e it ((i : Int) + 1) v s.heap.objs.size → g.IsTupleIter it t (i + 1) → g.get? s.heap.objs.size = some { cls := .type "tuple", data := .seq #[.int i s.toks, v] } → g.objs.size = s.heap.objs.size + 1 →
   (∀ b o, b ≠ e → b ≠ it → s.heap.get? b = some o → g.get? b = some o) → Q (some (.ref s.heap.objs.size)) { s with heap := g, toks := s.toks + 1 }) : wpAny (model prog w) A (pyNext (.ref e)) Q E s := by
 have hT : s.TypeIs (.ref e) "enumerate" := ⟨_, he, rfl⟩
 unfold pyNext;refine a4 (wpAny_attempt (wpAny_callSpecial?_slot (name := Str.ofString "__next__") hT PySem.F.slot_enumerate_next (c0 PySem.F.slot_enumerate_next hT PySem.F.entry_enumerate_next ?_ (PySem.F.args_enumerate_next_1 _))));obtain ⟨hp, gs, d, tk, os⟩ := s;show wpAny _ _ (field (.ref e) 2 >>= _) _ _ _;refine a4 (wpAny_field he rfl (x := .ref it) rfl ?_);refine a4 (W2 hit ht hv fun g1 hit1 hs1 => ?_);replace hs1 : Heap.SameBut it hp g1 := hs1;have he1 : IsEnum g1 e it i old := (hs1.2 e hne).trans he;show wpAny _ _ (field (.ref e) 3 >>= _) _ _ ⟨g1, gs, d, tk, os⟩;refine a4 (wpAny_field he1 rfl (x := rawInt i) rfl ?_);show wpAny _ _ (field (.ref e) 4 >>= _) _ _ ⟨g1, gs, d, tk, os⟩;refine a4 (wpAny_field he1 rfl (x := .none) rfl ?_);show wpAny _ _ (mkInt i >>= _) _ _ ⟨g1, gs, d, tk, os⟩;refine a4 (wpAny_mkInt ?_);show wpAny _ _ (setField (.ref e) 3 (rawInt ((i : Int) + 1)) >>= _) _ _ ⟨g1, gs, d, tk + 1, os⟩;refine a4 (wpAny_setField_rec he1 (by simp) fun g2 he2 hs2 => ?_);replace hs2 : Heap.SameBut e g1 g2 := hs2;replace he2 : IsEnum g2 e it ((i : Int) + 1) old := he2;show wpAny _ _ (setField (.ref e) 4 .none >>= _) _ _ ⟨g2, gs, d, tk + 1, os⟩;refine a4 (wpAny_setField_rec he2 (by simp) fun g3 he3 hs3 => ?_);replace hs3 : Heap.SameBut e g2 g3 := hs3;replace he3 : IsEnum g3 e it ((i : Int) + 1) old := he3;show wpAny _ _ (newTuple [.int i tk, v] >>= _) _ _ ⟨g3, gs, d, tk + 1, os⟩;refine a4 (wpAny_newTuple ?_);have he4 : IsEnum (g3.push { cls := .type "tuple", data := .seq #[.int i tk, v] }) e it ((i : Int) + 1) old := a8 _ he3;generalize hh4 : g3.push { cls := .type "tuple", data := .seq #[.int i tk, v] } = g4 at he4;have hsz : g3.objs.size = hp.objs.size := by rw [hs3.1, hs2.1, hs1.1]
 have hel : e < hp.objs.size := ac he;have ht4 : g4.get? hp.objs.size = some { cls := .type "tuple", data := .seq #[.int i tk, v] } := by rw [← hh4, ← hsz]; exact ar _ rfl
 have hz4 : g4.objs.size = hp.objs.size + 1 := by rw [← hh4, cy, hsz]
 have hk4 : ∀ b o, b ≠ e → b ≠ it → hp.get? b = some o → g4.get? b = some o := fun b o n1 n2 hb => by
  rw [← hh4]; exact a8 _ (hs3.extBut b o n1 (hs2.extBut b o n1 (hs1.extBut b o n2 hb)))
 have hit4 : g4.IsTupleIter it t (i + 1) := by
  rw [← hh4];obtain ⟨o, ho, r⟩ := (hit1.extBut hs2.extBut (ae hne)).extBut hs3.extBut (ae hne);exact ⟨o, a8 _ ho, r⟩
 show wpAny _ _ (Builtin.SmallTypes.ownedTupleIsFree (.ref e) >>= _) _ _ ⟨g4, gs, d, tk + 1, os⟩;rw [hsz];clear hh4 he3 hs3 he2 hs2 he1 hs1 hit1 hsz g3 g2 g1;refine a4 ?_;unfold Builtin.SmallTypes.ownedTupleIsFree;refine a4 (wpAny_field he4 rfl (x := .none) rfl (a6 ?_));simp only [if_true];refine a4 (wpAny_rule (a4 (wpAny_field he4 rfl (x := old) rfl (a4 (wpAny_setField_rec he4 (by simp) fun g5 he5 hs5 => ?_)))));replace hs5 : Heap.SameBut e g4 g5 := hs5;replace he5 : IsEnum g5 e it ((i : Int) + 1) v := he5;show wpAny _ _ (Builtin.SmallTypes.ownedTupleHandOut (.ref e) (.ref hp.objs.size) >>= _) _ _ ⟨g5, gs, d, tk + 1, os⟩;refine a4 ?_;unfold Builtin.SmallTypes.ownedTupleHandOut;refine a4 (wpAny_setField_rec he5 (by simp) fun g6 he6 hs6 => ?_);replace hs6 : Heap.SameBut e g5 g6 := hs6;replace he6 : IsEnumOut g6 e it ((i : Int) + 1) v hp.objs.size := he6;refine wpAny_setField_rec he6 (by simp) fun g7 he7 hs7 => ?_;replace hs7 : Heap.SameBut e g6 g7 := hs7;replace he7 : IsEnumOut g7 e it ((i : Int) + 1) v hp.objs.size := he7;refine a4 (wpAny_letGo (a6 ⟨_, rfl, a6 (k g7 he7 ?_ ?_ ?_ ?_)⟩))
 · exact ((hit4.extBut hs5.extBut (ae hne)).extBut hs6.extBut (ae hne)).extBut hs7.extBut (ae hne)
 · exact hs7.extBut _ _ (ce hel) (hs6.extBut _ _ (ce hel) (hs5.extBut _ _ (ce hel) ht4))
 · rw [hs7.1, hs6.1, hs5.1, hz4]
 · exact fun b o n1 n2 hb => hs7.extBut b o n1 (hs6.extBut b o n1 (hs5.extBut b o n1 (hk4 b o n1 n2 hb)))
theorem zfh {e t : Addr} {Q : Option Value → Shared → Prop} (hh : A.handled = none) (he : IsEnum s.heap e it i old) (hit : s.heap.IsTupleIter it t i) (ht : s.heap.IsTuple t its) (hv : its[i]? = none)
  (k : ∀ g, Heap.ExtBut it s.heap g → Q none { s with heap := g }) : wpAny (model prog w) A (pyNext (.ref e)) Q E s := by
 have hT : s.TypeIs (.ref e) "enumerate" := ⟨_, he, rfl⟩
 unfold pyNext;refine a4 (wpAny_attempt (wpAny_callSpecial?_slot (name := Str.ofString "__next__") hT PySem.F.slot_enumerate_next (c0 PySem.F.slot_enumerate_next hT PySem.F.entry_enumerate_next ?_ (PySem.F.args_enumerate_next_1 _))));show wpAny _ _ (field (.ref e) 2 >>= _) _ _ _;refine a4 (wpAny_field he rfl (x := .ref it) rfl ?_);refine a4 (Zl hh hit ht hv fun g x hx ⟨o, ho, hc⟩ => ?_);exact a4 (cn (T := "StopIteration") (b := true) ⟨o, ho, hc⟩ isSubtype_stop (a6 (k _ hx)))
theorem zhf (t : Addr) (its : Array Value) (n : Nat) (dct : Option Addr) (sl : Array (Option Value)) :
  Meets (Builtin.«enumerate.__new__» ⟨[.type "enumerate", .ref t], []⟩) (fun _ R s => s.heap.get? t = some { cls := .type "tuple", dict := dct, data := .seq its n, slots := sl } ∧
   R (.ok (.ret (.ref (s.heap.push { cls := .type "tuple_iterator", data := .fields #[.ref t, .int 0 0] }).objs.size)))
     { s with heap := (s.heap.push { cls := .type "tuple_iterator", data := .fields #[.ref t, .int 0 0] }).push { cls := .type "enumerate", data := .fields #[.none, .bool false, .ref s.heap.objs.size, rawInt 0, .none, .none] } }) :=
 .of_wp fun prog w A R s h => by
  obtain ⟨hp, g, d, tk, os⟩ := s;obtain ⟨hl, h⟩ := h;have hsub := sub_enumerate;have hL : Heap.IsTuple (Shared.heap ⟨hp, g, d, tk, os⟩) t its := ⟨_, hl, rfl, n, rfl⟩
  wp_walk using AutoSeq1.wpAny_loadPart' hl
  refine wpAny_stack_any fun st => a6 ?_;split
  · rename_i c _ _ _ _ _
    cases (c == Value.type "enumerate")
    · wp_walk using AutoSeq1.wpAny_loadPart' hl, wpAny_pyIter_tuple hL
      exact ⟨_, rfl, h⟩
    · wp_walk using AutoSeq1.wpAny_loadPart' hl, wpAny_pyIter_tuple hL
      exact ⟨_, rfl, h⟩
  · wp_walk using AutoSeq1.wpAny_loadPart' hl, wpAny_pyIter_tuple hL
    exact ⟨_, rfl, h⟩
theorem zcz {t : Addr} (ht : s.heap.IsTuple t its)
  (k : ∀ g, IsEnum g (s.heap.objs.size + 1) s.heap.objs.size 0 .none → g.IsTupleIter s.heap.objs.size t 0 → g.objs.size = s.heap.objs.size + 2 → (∀ b o, s.heap.get? b = some o → g.get? b = some o) → Q (.ref (s.heap.objs.size + 1)) { s with heap := g }) :
  wpAny (model prog w) A (call (.type "enumerate") [.ref t]) Q E s := by
 obtain ⟨⟨c, dct, dt, sl⟩, hl, hc, n, hd⟩ := ht;replace hc : c = .type "tuple" := hc;replace hd : dt = .seq its n := hd;subst hc hd;refine callType_new PySem.F.called_enumerate (by decide) (PySem.F.typeCall_enumerate_1 _) (PySem.F.newCall_enumerate_1 _) (fun obj => PySem.F.args_object_init_2 obj _) PySem.F.entry_enumerate_new (zhf t its n dct sl) ⟨hl, ?_⟩;have hz : (s.heap.push { cls := .type "tuple_iterator", data := .fields #[.ref t, .int 0 0] }).objs.size = s.heap.objs.size + 1 := cy ..;show _ ∧ _;rw [hz];have he : IsEnum ((s.heap.push { cls := .type "tuple_iterator", data := .fields #[.ref t, .int 0 0] }).push { cls := .type "enumerate", data := .fields #[.none, .bool false, .ref s.heap.objs.size, rawInt 0, .none, .none] }) (s.heap.objs.size + 1) s.heap.objs.size 0 .none := by
  have q := ar (s.heap.push { cls := .type "tuple_iterator", data := .fields #[.ref t, .int 0 0] }) (o := { cls := .type "enumerate", data := .fields #[.none, .bool false, .ref s.heap.objs.size, rawInt 0, .none, .none] }) rfl;rw [hz] at q;exact q
 refine ⟨⟨_, he, rfl⟩, k _ he ⟨_, a8 _ (ar _ rfl), rfl, rfl⟩ (by rw [cy, hz]) fun b o e => a8 _ (a8 _ e)⟩
end
noncomputable def Ite (K : PySem.W.Frag) (a : Addr) : It :=
 ⟨fun i H => ∃ xs x, SqT K H a xs ∧ xs[i]? = some x, fun i H x H' => ∃ p y, x = .ref p ∧ H p = none ∧ H' = upd H p (.tup [.int i, y]) ∧ ∀ xs, SqT K H a xs → xs[i]? = some y, fun i H => ∃ xs, SqT K H a xs ∧ xs.length ≤ i⟩
theorem zef {k1} (a e it : Addr) (hne : e ≠ it) (hb : sizeLine ≥ 2) :
  Turn P w K (.Tuple elts k1 pos) (Ite K a) [e, it] e (fun i h => (∃ old, IsEnum h e it i old) ∧ h.IsTupleIter it a i) where
 mem := by simp
 obj := fun i h st b hb => by
  obtain ⟨⟨old, he⟩, hi⟩ := st;rcases aa.mp hb with z | z
  · rw [z];exact ⟨_, he, fun v q => by
     have q' : Data.fields _ = Data.cell v := q;cases q'⟩
  · have z : b = it := by simpa using z
    rw [z];obtain ⟨o, e1, c, d⟩ := hi;exact ⟨o, e1, fun v q => by rw [d] at q; cases q⟩
 keep := fun i h h' st k => by
  obtain ⟨⟨old, he⟩, o, e1, r⟩ := st;exact ⟨⟨old, k e (by simp) _ he⟩, o, k it (by simp) o e1, r⟩
 item := by
  intro X hP hw hK hc i pins s σ H E I hf st hg;subst hP hw hK;obtain ⟨xs, x, hq, hx⟩ := hg;obtain ⟨its, rv, p, hz⟩ := I.tuple hq;obtain ⟨u, hu, ru⟩ := rv.get hx;obtain ⟨⟨old, he⟩, hi⟩ := st;obtain ⟨f0, f1, f2, f3, f4, f5⟩ := hf e (by simp);obtain ⟨g0, g1, g2, g3, g4, g5⟩ := hf it (by simp);refine zcr he hi (show s.heap.IsTuple a its.toArray from p) (v := u) (by simpa using hu) hne fun g ho hi' hT hsz hk => ?_;refine ⟨.ref s.heap.objs.size, rfl, wpAny_letOwnedTupleGo_enum ho fun g' he' hs' => ?_⟩;have hTe : s.heap.objs.size ≠ e := ce (ac he);have hTi : s.heap.objs.size ≠ it := by
   obtain ⟨o, e1, _⟩ := hi;exact ce (ac e1)
  have hk' : ∀ b o, b ≠ e → b ≠ it → s.heap.get? b = some o → g'.get? b = some o := fun b o n1 n2 z => (hs'.2 b n1).trans (hk b o n1 n2 z);have hT' : g'.get? s.heap.objs.size = some { cls := .type "tuple", data := .seq #[.int i s.toks, u] } := (hs'.2 _ hTe).trans hT;have hfr : H s.heap.objs.size = none := I.hok.fresh (a9 _);have old1 : ∀ b o, H b = some o → b ≠ e ∧ b ≠ it := fun b o z => ⟨(fun q => by rw [q, f0] at z; cases z), (fun q => by rw [q, g0] at z; cases z)⟩
  have I1 : Inv X pins σ (upd H s.heap.objs.size (.tup [.int i, x])) { s with heap := g', toks := s.toks + 1 } := by
   refine I.step (g' := s.gens) (d' := s.drawn) (ch := [e, it]) (fun b hb => ?_) (fun b o n1 n2 n3 z _ => hk' b o (fun q => n3 (by simp [q])) (fun q => n3 (by simp [q])) z)
    (fun b o n1 n2 n3 z _ => ⟨o.slots, hk' b o (fun q => n3 (by simp [q])) (fun q => n3 (by simp [q])) z⟩) (fun b o n3 z n => ?_) (fun b o n3 z => ⟨o, hk' b o (fun q => n3 (by simp [q])) (fun q => n3 (by simp [q])) z⟩)
    (fun b ys z => by rw [zk (zm z hfr)]; exact z) (fun b o ys z => by rw [zk (zm z hfr)]; exact z) (fun b ps z => ⟨#[], by rw [zk (zm z hfr), z]; simp⟩) (fun m hm => ?_) (fun b ob z => ?_) I.bare
   · rcases aa.mp hb with q | q
     · rw [q]; exact ⟨f3, f1, f4, f5⟩
     · have q : b = it := by simpa using q
       rw [q]; exact ⟨g3, g1, g4, g5⟩
   · rw [zk (aw (ac z))]; exact n
   · obtain ⟨o, es, ep, hoo, r⟩ := hm;exact ⟨o, es, ep, hk' _ o (ae f1) (ae g1) hoo, r⟩
   · by_cases hb : b = s.heap.objs.size
     · subst hb;rw [zf] at z;cases z;exact ⟨by show 2 ≤ sizeLine; omega, [.int i s.toks, u], .cons ⟨_, rfl⟩ (.cons ru .nil), ⟨_, hT', rfl, _, rfl⟩, fun q hq => by
        have hq : g'.get? s.heap.objs.size = some q := hq;rw [hT'] at hq;cases hq;rfl⟩
     · rw [zk hb] at z;refine (I.hok b ob z).stay (fun c v hc q => ?_) (fun c q => by rw [zk (zm q hfr)]; exact q) fun c ys q => by rw [zk (zm q hfr)]; exact q
       rcases hc with rfl | hc
       · exact hk' c v (old1 c _ z).1 (old1 c _ z).2 q
       · exact hk' c v (old1 c _ hc).1 (old1 c _ hc).2 q
  refine ⟨.ref s.heap.objs.size, _, I1, rfl, ⟨_, x, rfl, hfr, rfl, fun ys hy => by rw [I.tuple_inj hy hq]; exact hx⟩, ⟨⟨u, by simpa using he'⟩, ?_⟩, fun b hb => ?_⟩
  · obtain ⟨o, e1, r⟩ := hi';exact ⟨o, (hs'.2 it (ae hne)).trans e1, r⟩
  · rcases aa.mp hb with q | q
    · rw [q, zk (ae hTe)]; exact f0
    · have q : b = it := by simpa using q
      rw [q, zk (ae hTi)]; exact g0
 done := by
  intro X hP hw hK hc i pins s σ H E I hf st hg;subst hP hw hK;obtain ⟨xs, hq, hx⟩ := hg;obtain ⟨its, rv, p, hz⟩ := I.tuple hq;obtain ⟨⟨old, he⟩, hi⟩ := st;obtain ⟨g0, g1, g2, g3, g4, g5⟩ := hf it (by simp);have hl := rv.length;exact zfh (I.ok.hd hc) he hi (show s.heap.IsTuple a its.toArray from p) (by simp; omega) fun g eb => ⟨rfl, I.turned (t' := s.toks) (fun b o hb z => eb b o hb z) g0 g1 g3 g4 g5⟩
 self := fun _ _ _ _ _ st h => by
  obtain ⟨⟨old, he⟩, _⟩ := st;exact wpAny_pyIter_enum he h
section
noncomputable def zpa (K : PySem.W.Frag) (ta : TA) : TI := fun σ H R => ta σ H fun vs H1 => ∃ a xs, vs = [.ref a] ∧ SqT K H1 a xs ∧ R (Ite K a) H1
theorem zdi {k1} {tpos : Pos} {a : Expr} {ta : TA} {p : Pos} (hg : Gl X "enumerate") (hm : X.mg "enumerate" = none) (ha : PA X [a] ta) (hs : starEach [a] X.env = [(false, eval a X.env)] := by rfl) :
  PI X (.Tuple elts k1 tpos) (.Call (.Name "enumerate" p) [a] [] pos) (zpa X.K ta) := by
 intro pins s σ H R I h;refine Call_ (Zy I hg hm boot_enumerate (PyProof.Rows.callWith_type1 (thn (ha pos pins s σ H _ I h) fun us s1 ⟨vs, H1, I1, r1, q1⟩ => ?_) hs rfl));obtain ⟨t, xs, e, hq, q⟩ := q1;subst e;obtain ⟨u, rfl, ru⟩ := v8 r1;cases ru;obtain ⟨its, rv, pt, hz⟩ := I1.tuple hq;refine zcz (show s1.heap.IsTuple t its.toArray from pt) fun g he hi hsz hk => ?_;refine wpAny_pyIter_enum he ?_;have hlt : t < s1.heap.objs.size := by obtain ⟨o, e1, _⟩ := pt; exact ac e1
 refine ⟨s1.heap.objs.size + 1, [s1.heap.objs.size + 1, s1.heap.objs.size], _, _, H1, rfl, I1.kept (t' := s1.toks) hk, zef t (s1.heap.objs.size + 1) s1.heap.objs.size (Nat.succ_ne_self _) (by rw [sizeLine_eq]; omega), ⟨⟨_, he⟩, hi⟩, fun b hb => ?_, q⟩;rcases aa.mp hb with z | z
 · rw [z]; exact I1.fpOk (Nat.le_succ _) (I1.hok.fresh (Nat.le_succ _))
 · have z : b = s1.heap.objs.size := by simpa using z
   rw [z]; exact I1.fpOk (a9 _) (I1.hok.fresh (a9 _))
end
theorem zh8 {tb : TS} {D : Ends} (Pv : Nat → St → Hp → Prop) (h0 : Pv 0 σ H) (hl : ∀ i σ H, i ≤ xs.length → Pv i σ H → SqT K H a xs)
  (hs : ∀ i x σ H p, xs[i]? = some x → Pv i σ H → H p = none → g (.ref p) σ (upd H p (.tup [.int i, x])) fun σ2 H2 => tb { D with nx := Pv (i + 1), ct := Pv (i + 1), bk := D.nx } σ2 H2) (hd : ∀ σ H, Pv xs.length σ H → D.nx σ H) :
  ∃ W : Nat → Nat → St → Hp → Prop, (∃ m, W 0 m σ H) ∧ ∀ i m σ H, W i m σ H →
    ((Ite K a).stop i H ∧ D.nx σ H) ∨ ((Ite K a).go i H ∧ ∃ N : St → Hp → Prop, (∀ σ' H', N σ' H' → ∃ m', m' < m ∧ W (i + 1) m' σ' H') ∧ ∀ x H', (Ite K a).yld i H x H' → g x σ H' fun σ2 H2 => tb { D with nx := N, ct := N, bk := D.nx } σ2 H2) := by
 refine ⟨fun i m σ H => m = xs.length - i ∧ i ≤ xs.length ∧ Pv i σ H, ⟨xs.length, by simp, bo _, h0⟩, ?_⟩;rintro i m σ H ⟨rfl, hi, p⟩;have q := hl i σ H hi p;by_cases hlt : i < xs.length
 · refine .inr ⟨⟨xs, xs[i], q, by simp [hlt]⟩, Pv (i + 1), fun σ' H' p' => ⟨xs.length - (i + 1), by omega, rfl, hlt, p'⟩, fun x H' y => ?_⟩;obtain ⟨p', y', rfl, hn, rfl, hy⟩ := y;exact hs i y' σ H p' (hy xs q) p hn
 · have e : i = xs.length := by omega
   subst e;exact .inl ⟨⟨xs, q, a9 _⟩, hd σ H p⟩
section
end
theorem Qx : entryFor table "dict.update.loop" = some Builtin.«dict.update.loop» := entryFor_of_tree (by kernel_rfl)
theorem Zg : plainId "dict.update.loop" = true := by decide +kernel
section
set_option maxRecDepth 8000 in
end
section
end
section
end
noncomputable def Its (x : Str) : It := ⟨fun i _ => i < x.cps.size, fun i H v H' => H' = H ∧ ∃ c, x.cps[i]? = some c ∧ v = .str ⟨#[c]⟩, fun i _ => x.cps.size ≤ i⟩
theorem zf2 {ty : String} (it : Addr) (x : Str) (t : Tok) (hty : ty = "str_ascii_iterator" ∨ ty = "str_iterator") :
  Turn P w K tg (Its x) [it] it (fun i h => i ≤ x.cps.size ∧ h.IsStrIter it ty x t i) where
 mem := by simp
 obj := fun i h st b hb => by
  have e : b = it := by simpa using hb
  subst e;obtain ⟨_, o, e, c, d⟩ := st;exact ⟨o, e, fun v z => by rw [d] at z; cases z⟩
 keep := fun i h h' st k => by
  obtain ⟨z, o, e, r⟩ := st;exact ⟨z, o, k it (by simp) o e, r⟩
 item := by
  intro X hP hw hK hc i pins s σ H E I hf st hg;subst hP hw hK;obtain ⟨z, st⟩ := st;have hg : i < x.cps.size := hg;obtain ⟨f0, f1, f2, f3, f4, f5⟩ := hf it (by simp);have fin : ∀ (h' : Heap) (tk : Nat) (v : Value), SignAt x i v → h'.IsStrIter it ty x t (i + 1) → (∀ b o, b ∉ [it] → s.heap.get? b = some o → h'.get? b = some o) →
    ∃ u, some v = some u ∧ wpAny (model X.prog X.w) X.A (letOwnedTupleGo tg (.ref it) u) (fun _ s2 => ∃ y H', Inv X pins σ H' s2 ∧ yw y u ∧ (Its x).yld i H y H' ∧ (i + 1 ≤ x.cps.size ∧ s2.heap.IsStrIter it ty x t (i + 1)) ∧ ∀ b ∈ [it], H' b = none) E { s with heap := h', toks := tk } := by
   intro h' tk v hv st' kk;obtain ⟨c, u, hcx, rfl⟩ := hv;have I1 : Inv X pins σ H { s with heap := h', toks := tk } := I.turned (fun b o hb e => kk b o (by simpa using hb) e) f0 f1 f3 f4 f5;obtain ⟨o, e1, e2, e3⟩ := id st';refine ⟨_, rfl, za1 (s := { s with heap := h', toks := tk }) (n := ty) e1 e2 e3 (by rcases hty with rfl | rfl <;> decide) ⟨.str ⟨#[c]⟩, H, I1, ⟨u, rfl⟩, ⟨rfl, c, hcx, rfl⟩, ⟨hg, st'⟩, fun b hb => (hf b hb).1⟩⟩
  rcases hty with rfl | rfl
  · exact (Walks.strAscii (prog := X.prog) (w := X.w) (I.ok.hd hc) it x t).item i s _ _ hg st fun v h' tk hv st' kk => fin h' tk v hv st' kk
  · exact (Walks.strWide (prog := X.prog) (w := X.w) (I.ok.hd hc) it x t).item i s _ _ hg st fun v h' tk hv st' kk => fin h' tk v hv st' kk
 done := by
  intro X hP hw hK hc i pins s σ H E I hf st hg;subst hP hw hK;obtain ⟨z, st⟩ := st;have hg : x.cps.size ≤ i := hg;have e : i = x.cps.size := by omega
  subst e;obtain ⟨f0, f1, f2, f3, f4, f5⟩ := hf it (by simp);rcases hty with rfl | rfl
  · exact (Walks.strAscii (prog := X.prog) (w := X.w) (I.ok.hd hc) it x t).done s _ _ st fun h' tk kk => ⟨rfl, I.turned (fun b o hb e => kk b o (by simpa using hb) e) f0 f1 f3 f4 f5⟩
  · exact (Walks.strWide (prog := X.prog) (w := X.w) (I.ok.hd hc) it x t).done s _ _ st fun h' tk kk => ⟨rfl, I.turned (fun b o hb e => kk b o (by simpa using hb) e) f0 f1 f3 f4 f5⟩
 self := fun _ _ _ _ _ st h => by
  rcases hty with rfl | rfl
  · exact wpAny_pyIter_striter_ascii st.2 h
  · exact wpAny_pyIter_striter_wide st.2 h
section
noncomputable def zp4 (tl : TE) : TI := fun σ H R => tl σ H fun v H1 => ∃ x, v = .str x ∧ R (Its x) H1
theorem zl4 {l : Expr} {tl : TE} (hl : PE X l tl) : PI X tg l (zp4 tl) := by
 intro pins s σ H R I h;refine thn (hl pins s σ H _ I h) fun v s1 ⟨x, H1, I1, r1, q1⟩ => ?_;obtain ⟨y, e, q⟩ := q1;subst e;obtain ⟨t, rfl⟩ := r1;have mk : ∀ ty, (ty = "str_ascii_iterator" ∨ ty = "str_iterator") → PIE X pins σ tg R (.ref s1.heap.objs.size) { s1 with heap := s1.heap.push { cls := .type ty, data := .fields #[.str y t, .int 0 0] } } := fun ty hty => by
  refine ⟨s1.heap.objs.size, [s1.heap.objs.size], _, _, H1, rfl, I1.kept (t' := s1.toks) fun b o e => a8 _ e, zf2 _ y t hty, ⟨bo _, _, ar _ rfl, rfl, rfl⟩, fun b hb => ?_, q⟩;have e : b = s1.heap.objs.size := by simpa using hb
  subst e;exact I1.fpOk (a9 _) (I1.hok.fresh (a9 _))
 cases ha : y.cps.all (· < 128)
 · exact wpAny_pyIter_wide ha (mk _ (.inr rfl))
 · exact wpAny_pyIter_ascii ha (mk _ (.inl rfl))
end
section
variable {Q : VK}
theorem qp (Pv : Nat → List V → Hp → Prop) (h0 : Pv 0 [] H) (hl : ∀ i ys H, i ≤ xs.length → Pv i ys H → SqT K H a xs ∧ ys.length ≤ sizeLine)
  (hs : ∀ i x ys H, xs[i]? = some x → Pv i ys H → g x (capσ k cap σ) H fun σ2 H2 => tc σ2 H2 fun b H3 => if b = true then te σ2 H3 fun y H4 => Pv (i + 1) (ys ++ [y]) H4 else Pv (i + 1) ys H3)
  (hd : ∀ ys H, Pv xs.length ys H → ∀ p, H p = none → Q (.ref p) (upd H p (.lst ys))) : Y1 (Itt K a) g tc te k cap σ H Q := by
 refine ⟨fun i m ys H => m = xs.length - i ∧ i ≤ xs.length ∧ Pv i ys H, ⟨xs.length, by simp, bo _, h0⟩, ?_⟩;rintro i m ys H ⟨rfl, hi, p⟩;obtain ⟨q, hz⟩ := hl i ys H hi p;by_cases hlt : i < xs.length
 · refine .inr ⟨⟨xs, xs[i], q, by simp [hlt]⟩, hz, Pv (i + 1), fun ys' H' p' => ⟨xs.length - (i + 1), by omega, rfl, hlt, p'⟩, fun x H' y => ?_⟩;obtain ⟨e, y⟩ := y;subst e;exact hs i x ys _ (y xs q) p
 · have e : i = xs.length := by omega
   subst e;exact .inl ⟨⟨xs, q, a9 _⟩, hz, hd ys H p⟩
theorem qx (Pv : Nat → List V → Hp → Prop) (h0 : Pv 0 [] H) (hl : ∀ i ys H, i ≤ xs.length → Pv i ys H → SqL K H a xs ∧ ys.length ≤ sizeLine)
  (hs : ∀ i x ys H, xs[i]? = some x → Pv i ys H → g x (capσ k cap σ) H fun σ2 H2 => tc σ2 H2 fun b H3 => if b = true then te σ2 H3 fun y H4 => Pv (i + 1) (ys ++ [y]) H4 else Pv (i + 1) ys H3)
  (hd : ∀ ys H, Pv xs.length ys H → ∀ p, H p = none → Q (.ref p) (upd H p (.lst ys))) : Y1 (Itl K a) g tc te k cap σ H Q := by
 refine ⟨fun i m ys H => m = xs.length - i ∧ i ≤ xs.length ∧ Pv i ys H, ⟨xs.length, by simp, bo _, h0⟩, ?_⟩;rintro i m ys H ⟨rfl, hi, p⟩;obtain ⟨q, hz⟩ := hl i ys H hi p;by_cases hlt : i < xs.length
 · refine .inr ⟨⟨xs, xs[i], q, by simp [hlt]⟩, hz, Pv (i + 1), fun ys' H' p' => ⟨xs.length - (i + 1), by omega, rfl, hlt, p'⟩, fun x H' y => ?_⟩;obtain ⟨e, y⟩ := y;subst e;exact hs i x ys _ (y xs q) p
 · have e : i = xs.length := by omega
   subst e;exact .inl ⟨⟨xs, q, a9 _⟩, hz, hd ys H p⟩
theorem je {lo : Int} (Pv : Nat → List V → Hp → Prop) (h0 : Pv 0 [] H) (hl : ∀ i ys H, i ≤ n → Pv i ys H → ys.length ≤ sizeLine)
  (hs : ∀ i ys H, i < n → Pv i ys H → g (.int (lo + i)) (capσ k cap σ) H fun σ2 H2 => tc σ2 H2 fun b H3 => if b = true then te σ2 H3 fun y H4 => Pv (i + 1) (ys ++ [y]) H4 else Pv (i + 1) ys H3)
  (hd : ∀ ys H, Pv n ys H → ∀ p, H p = none → Q (.ref p) (upd H p (.lst ys))) : Y1 (Itr lo n) g tc te k cap σ H Q := by
 refine ⟨fun i m ys H => m = n - i ∧ i ≤ n ∧ Pv i ys H, ⟨n, by simp, bo _, h0⟩, ?_⟩;rintro i m ys H ⟨rfl, hi, p⟩;have hz := hl i ys H hi p;by_cases hlt : i < n
 · refine .inr ⟨hlt, hz, Pv (i + 1), fun ys' H' p' => ⟨n - (i + 1), by omega, rfl, hlt, p'⟩, fun x H' y => ?_⟩;obtain ⟨e, y⟩ := y;subst e y;exact hs i ys _ hlt p
 · have e : i = n := by omega
   subst e;exact .inl ⟨a9 _, hz, hd ys H p⟩
theorem zmf (Pv : Nat → List V → Hp → Prop) (h0 : Pv 0 [] H) (hl : ∀ i ys H, i ≤ x.cps.size → Pv i ys H → ys.length ≤ sizeLine)
  (hs : ∀ i c ys H, x.cps[i]? = some c → Pv i ys H → g (.str ⟨#[c]⟩) (capσ k cap σ) H fun σ2 H2 => tc σ2 H2 fun b H3 => if b = true then te σ2 H3 fun y H4 => Pv (i + 1) (ys ++ [y]) H4 else Pv (i + 1) ys H3)
  (hd : ∀ ys H, Pv x.cps.size ys H → ∀ p, H p = none → Q (.ref p) (upd H p (.lst ys))) : Y1 (Its x) g tc te k cap σ H Q := by
 refine ⟨fun i m ys H => m = x.cps.size - i ∧ i ≤ x.cps.size ∧ Pv i ys H, ⟨x.cps.size, by simp, bo _, h0⟩, ?_⟩;rintro i m ys H ⟨rfl, hi, p⟩;have hz := hl i ys H hi p;by_cases hlt : i < x.cps.size
 · refine .inr ⟨hlt, hz, Pv (i + 1), fun ys' H' p' => ⟨x.cps.size - (i + 1), by omega, rfl, hlt, p'⟩, fun v H' y => ?_⟩;obtain ⟨e, c, hc, rfl⟩ := y;subst e;exact hs i c ys _ hc p
 · have e : i = x.cps.size := by omega
   subst e;exact .inl ⟨a9 _, hz, hd ys H p⟩
end
inductive T where
 | non | bl (b : Bool) | int (i : Int) | str (x : Str) | tup (ts : List T) | lst (ts : List T) | dct
mutual
noncomputable def Is (H : Hp) : T → V → Prop
 | .non, v => v = .non
 | .bl b, v => v = .bl b
 | .int i, v => v = .int i
 | .str x, v => v = .str x
 | .tup ts, v => ∃ a xs, v = .ref a ∧ H a = some (.tup xs) ∧ IsL H ts xs
 | .lst ts, v => ∃ a xs, v = .ref a ∧ H a = some (.lst xs) ∧ IsL H ts xs
 | .dct, v => ∃ a, v = .ref a ∧ H a = some (.dK [])
noncomputable def IsL (H : Hp) : List T → List V → Prop
 | [], xs => xs = []
 | t :: ts, xs => ∃ v vs, xs = v :: vs ∧ Is H t v ∧ IsL H ts vs
end
noncomputable def vt (H H' : Hp) : Prop := ∀ b xs, H b = some (.tup xs) → H' b = some (.tup xs)
theorem Same.new (h : H p = none) (o : HO) : Same H (upd H p o) := fun b u q => by rw [zk (zm q h)]; exact q
theorem vt.upd {H : Hp} {p : Addr} {o o' : HO} (h : H p = some o) (ho : ∀ xs, o ≠ .tup xs) : vt H (upd H p o') := fun b xs e => by
 rw [zk (ke e h (fun z => ho xs z.symm))]; exact e
mutual
theorem Is.mono {H H' : Hp} (s : Same H H') : ∀ {t : T} {v : V}, Is H t v → Is H' t v
 | .non, v, h => h
 | .bl b, v, h => h
 | .int i, v, h => h
 | .str x, v, h => h
 | .tup ts, v, h => by
   obtain ⟨a, xs, e, ha, hl⟩ := h;exact ⟨a, xs, e, s a _ ha, IsL.mono s hl⟩
 | .lst ts, v, h => by
   obtain ⟨a, xs, e, ha, hl⟩ := h;exact ⟨a, xs, e, s a _ ha, IsL.mono s hl⟩
 | .dct, v, h => by
   obtain ⟨a, e, ha⟩ := h;exact ⟨a, e, s a _ ha⟩
theorem IsL.mono {H H' : Hp} (s : Same H H') : ∀ {ts : List T} {xs : List V}, IsL H ts xs → IsL H' ts xs
 | [], xs, h => h
 | t :: ts, xs, h => by
   obtain ⟨v, vs, e, h1, h2⟩ := h;exact ⟨v, vs, e, Is.mono s h1, IsL.mono s h2⟩
end
mutual
noncomputable def Fro : T → Prop
 | .tup ts => wx ts
 | .lst _ => False
 | .dct => False
 | _ => True
noncomputable def wx : List T → Prop
 | [] => True
 | t :: ts => Fro t ∧ wx ts
end
mutual
theorem Is.tups {H H' : Hp} (s : vt H H') : ∀ {t : T} {v : V}, Fro t → Is H t v → Is H' t v
 | .non, v, _, h => h
 | .bl b, v, _, h => h
 | .int i, v, _, h => h
 | .str x, v, _, h => h
 | .tup ts, v, f, h => by
   obtain ⟨a, xs, e, ha, hl⟩ := h;have f : wx ts := by unfold Fro at f; exact f
   exact ⟨a, xs, e, s a _ ha, IsL.tups s f hl⟩
 | .lst ts, v, f, h => by unfold Fro at f; exact f.elim
 | .dct, v, f, h => by unfold Fro at f; exact f.elim
theorem IsL.tups {H H' : Hp} (s : vt H H') : ∀ {ts : List T} {xs : List V}, wx ts → IsL H ts xs → IsL H' ts xs
 | [], xs, _, h => h
 | t :: ts, xs, f, h => by
   obtain ⟨v, vs, e, h1, h2⟩ := h;have f : Fro t ∧ wx ts := by unfold wx at f; exact f
   exact ⟨v, vs, e, Is.tups s f.1 h1, IsL.tups s f.2 h2⟩
end
theorem wx.all {ts : List T} : wx ts ↔ ∀ t ∈ ts, Fro t := by
 induction ts with
 | nil => simp [wx]
 | cons t ts ih => simp [wx, ih]
theorem IsL.length {H : Hp} : ∀ {ts : List T} {xs : List V}, IsL H ts xs → xs.length = ts.length
 | [], xs, h => by cases h; rfl
 | t :: ts, xs, h => by
   obtain ⟨v, vs, rfl, _, h2⟩ := h;simp [IsL.length h2]
theorem IsL.get {H : Hp} : ∀ {ts : List T} {xs : List V} {i : Nat} {t : T}, IsL H ts xs → ts[i]? = some t → ∃ v, xs[i]? = some v ∧ Is H t v
 | [], _, _, _, _, e => by simp at e
 | t :: ts, xs, i, t', h, e => by
   obtain ⟨v, vs, rfl, h1, h2⟩ := h;cases i with
   | zero => simp at e; subst e; exact ⟨v, rfl, h1⟩
   | succ i =>
     obtain ⟨w, e1, e2⟩ := IsL.get (i := i) h2 (by simpa using e);exact ⟨w, by simpa using e1, e2⟩
theorem IsL.get' {ts : List T} (h : IsL H ts xs) (e : xs[i]? = some v) : ∃ t, ts[i]? = some t ∧ Is H t v := by
 have hl := h.length;have hi : i < ts.length := by have := (bh.mp e).1; omega
 obtain ⟨w, e1, e2⟩ := h.get (ah hi);rw [e] at e1;cases e1;exact ⟨_, ah hi, e2⟩
theorem IsL.append {H : Hp} : ∀ {ts us : List T} {xs ys : List V}, IsL H ts xs → IsL H us ys → IsL H (ts ++ us) (xs ++ ys)
 | [], us, xs, ys, h, k => by cases h; exact k
 | t :: ts, us, xs, ys, h, k => by
   obtain ⟨v, vs, rfl, h1, h2⟩ := h;exact ⟨v, vs ++ ys, rfl, h1, IsL.append h2 k⟩
theorem IsL.drop {H : Hp} : ∀ {ts : List T} {xs : List V} (n : Nat), IsL H ts xs → IsL H (ts.drop n) (xs.drop n)
 | ts, xs, 0, h => h
 | [], xs, n + 1, h => by cases h; exact rfl
 | t :: ts, xs, n + 1, h => by
   obtain ⟨v, vs, rfl, h1, h2⟩ := h;exact IsL.drop n h2
theorem IsL.take {H : Hp} : ∀ {ts : List T} {xs : List V} (n : Nat), IsL H ts xs → IsL H (ts.take n) (xs.take n)
 | ts, xs, 0, h => rfl
 | [], xs, n + 1, h => by cases h; exact rfl
 | t :: ts, xs, n + 1, h => by
   obtain ⟨v, vs, rfl, h1, h2⟩ := h;exact ⟨v, vs.take n, rfl, h1, IsL.take n h2⟩
theorem IsL.one {t : T} (h : Is H t v) : IsL H [t] [v] := ⟨v, [], rfl, h, rfl⟩
theorem IsL.two {t u : T} {w : V} (h : Is H t v) (k : Is H u w) : IsL H [t, u] [v, w] := ⟨v, [w], rfl, h, w, [], rfl, k, rfl⟩
theorem IsL.three {t u r : T} {w y : V} (h : Is H t v) (k : Is H u w) (m : Is H r y) : IsL H [t, u, r] [v, w, y] := ⟨v, [w, y], rfl, h, w, [y], rfl, k, y, [], rfl, m, rfl⟩
theorem Is.newTup {ts : List T} (hp : H p = none) (h : IsL H ts xs) : Is (upd H p (.tup xs)) (.tup ts) (.ref p) := ⟨p, xs, rfl, zf, IsL.mono (Same.new hp _) h⟩
noncomputable def tyn : T → String
 | .non => "NoneType" | .bl _ => "bool" | .int _ => "int" | .str _ => "str" | .tup _ => "tuple" | .lst _ => "list" | .dct => "dict"
theorem Is.ty {t : T} (h : Is H t v) : TyOf K H v (.type (tyn t)) := by
 cases t with
 | non => cases (show v = .non from h); exact .non
 | bl b => cases (show v = .bl b from h); exact .bl b
 | int i => cases (show v = .int i from h); exact .int i
 | str x => cases (show v = .str x from h); exact .str x
 | tup ts => obtain ⟨a, xs, rfl, ha, _⟩ := h; exact .tup ha
 | lst ts => obtain ⟨a, xs, rfl, ha, _⟩ := h; exact .lst ha
 | dct => obtain ⟨a, rfl, ha⟩ := h; exact .dK ha
noncomputable def zo9 : T → Bool | .int _ => true | .bl _ => true | _ => false
noncomputable def iBl : T → Bool | .bl _ => true | _ => false
noncomputable def zo5 : T → Bool | .tup _ => true | _ => false
noncomputable def zo6 : T → Bool | .str _ => true | _ => false
theorem J9 (K : PySem.W.Frag) (t : T) : PySem.W.kitOne K (.type (tyn t)) (.type "int") = some (zo9 t) := by cases t <;> kernel_rfl
theorem Vb (K : PySem.W.Frag) (t : T) : PySem.W.kitOne K (.type (tyn t)) (.type "bool") = some (iBl t) := by cases t <;> kernel_rfl
theorem ju (K : PySem.W.Frag) (t : T) : PySem.W.kitOne K (.type (tyn t)) (.type "tuple") = some (zo5 t) := by cases t <;> kernel_rfl
theorem zds (K : PySem.W.Frag) (t : T) : PySem.W.kitOne K (.type (tyn t)) (.type "str") = some (zo6 t) := by cases t <;> kernel_rfl
section
variable {d : Addr} {u u' : HO}
theorem Inv.retag (I : Inv X pins σ H s) (e : H d = some u) (n1 : ∀ xs, u ≠ .tup xs) (n2 : ∀ x, u ≠ .own x) (n3 : ∀ ps, u ≠ .tbl ps) (n4 : ∀ o v, X.H₀ d ≠ some (.frz o v))
  (ok : xk X.prog X.w (upd H d u') s.heap d u') : Inv X pins σ (upd H d u') s := by
 have ne0 : ∀ {b}, H b = none → b ≠ d := fun z q => by rw [q, e] at z; cases z
 refine ⟨I.ok, I.os, I.bare, ⟨I.base.keep, I.base.slot, fun b ob q n hx => ?_, I.base.there, fun b xs q => ?_, fun b ob v q => ?_, fun b ps q => ?_⟩, I.loc, I.cell, ?_, fun x c q => ?_, fun p hp => ?_, fun b ob q => ?_, I.len⟩
 · have z := I.base.free b ob q n hx;rw [zk (ne0 z)]; exact z
 · have z := I.base.tups b xs q;rw [zk (ke z e (fun w => n1 xs w.symm))]; exact z
 · have z := I.base.frzs b ob v q;have nb : b ≠ d := fun w => by rw [w] at q; exact n4 _ _ q
   rw [zk nb]; exact z
 · obtain ⟨more, z⟩ := I.base.tbls b ps q;exact ⟨more, by rw [zk (ke z e (fun w => n3 _ w.symm))]; exact z⟩
 · rw [zk (ne0 I.free)]; exact I.free
 · rw [zk (ne0 (I.freeC x c q))]; exact I.freeC x c q
 · obtain ⟨h1, h2, h3⟩ := I.pin p hp;exact ⟨h1, by rw [zk (ne0 h2)]; exact h2, h3⟩
 · by_cases hb : b = d
   · subst hb; rw [zf] at q; cases q; exact ok
   · rw [zk hb] at q;exact (I.hok b ob q).stay (fun _ _ _ z => z) (fun c z => by rw [zk (ke z e (fun w => n2 _ w.symm))]; exact z) fun c xs z => by rw [zk (ke z e (fun w => n1 _ w.symm))]; exact z
theorem Inv.thaw (I : Inv X pins σ H s) (e : H d = some (.frz o u)) (nf : ∀ o v, X.H₀ d ≠ some (.frz o v)) : Inv X pins σ (upd H d u) s := by
 refine I.retag e (fun _ z => by cases z) (fun _ z => by cases z) (fun _ z => by cases z) nf ?_;obtain ⟨_, ok⟩ := I.hok d _ e;refine ok.stay (fun _ _ _ z => z) (fun c z => ?_) fun c xs z => ?_
 · rw [zk (ke z e (fun w => by cases w))]; exact z
 · rw [zk (ke z e (fun w => by cases w))]; exact z
end
noncomputable def znd (d : Addr) (o : Obj) (u : HO) (D : Ends) : Ends where
 nx := fun σ H => H d = some (.frz o u) ∧ D.nx σ (upd H d u)
 rt := fun v H => H d = some (.frz o u) ∧ D.rt v (upd H d u)
 bk := fun σ H => H d = some (.frz o u) ∧ D.bk σ (upd H d u)
 ct := fun σ H => H d = some (.frz o u) ∧ D.ct σ (upd H d u)
section
end
section
end
section
variable {d : Addr} {Q : VK}
end
theorem zc5 : ∀ {xs : List V} {us : List Value}, xs.length = us.length → (∀ (j : Nat) x u, xs[j]? = some x → us[j]? = some u → yw x u) → ym xs us
 | [], [], _, _ => .nil
 | x :: xs, u :: us, hl, h => .cons (h 0 x u rfl rfl) (zc5 (by simpa using hl) fun j y v e1 e2 => h (j + 1) y v (by simpa using e1) (by simpa using e2))
 | [], _ :: _, hl, _ => by simp at hl
 | _ :: _, [], hl, _ => by simp at hl
section
theorem zb5 : OpR X (compareOp .Is) (fun x y H Q => ∃ a b, x = .bl a ∧ y = .bl b ∧ Q (.bl (a == b)) H) := by
 intro pins s σ H x y v u Q I rx ry h;obtain ⟨a, b, rfl, rfl, q⟩ := h;cases rx;cases ry;exact PyProof.Rows.is_bool ⟨.bl _, H, I, rfl, q⟩
end
noncomputable def off (S : Addr → Prop) (H : Hp) : Hp := fun b => @ite _ (S b) (Classical.propDecidable _) none (H b)
theorem Wa {S : Addr → Prop} {b : Addr} {o : HO} : off S H b = some o ↔ ¬ S b ∧ H b = some o := by
 unfold off;split
 · rename_i h; exact ⟨(fun z => by cases z), fun z => absurd h z.1⟩
 · rename_i h; exact ⟨fun z => ⟨h, z⟩, fun z => z.2⟩
theorem zhb {S : Addr → Prop} (s : Same H H') : Same (off S H) (off S H') := fun b o e => by
 rw [Wa] at e ⊢;exact ⟨e.1, s _ _ e.2⟩
theorem zl9 {S : Addr → Prop} : Same (off S H) H := fun b o e => (Wa.mp e).2
noncomputable def Sd (S : Addr → Prop) (H : Hp) : Prop := ∀ b, S b → H b ≠ none
theorem zjv {S : Addr → Prop} {o : HO} (d : Sd S H) (h : H p = none) : off S (upd H p o) p = some o := Wa.mpr ⟨fun z => d p z h, zf⟩
theorem zhc (H : Hp) : off (fun _ => False) H = H := by
 funext b;unfold off;exact if_neg (fun h => h)
theorem Is.off {S : Addr → Prop} {H : Hp} {t : T} {v : V} (h : Is (off S H) t v) : Is H t v := h.mono zl9
theorem Is.off0 {t : T} (h : Is H t v) : Is (L2.off (fun _ => False) H) t v := by rw [zhc]; exact h
theorem Is.nt {S : Addr → Prop} {ts : List T} (d : Sd S H) (hp : H p = none) (h : IsL (L2.off S H) ts xs) : Is (L2.off S (upd H p (.tup xs))) (.tup ts) (.ref p) :=
 ⟨p, xs, rfl, zjv d hp, IsL.mono (zhb (Same.new hp _)) h⟩
end
end L2
namespace HT
open PySem PyProof.Rows
open PySem.SeqAt
open PySem.AutoSeq1 (wpAny_loadPart')
open PySem.MeetsSeq PySem.MeetsSeq2 PySem.MeetsSeq3
variable {A : Around} {items : Array Value} {s : Shared} {E Q : Value → Shared → Prop}
section
variable {prog : Program} {w : World}
theorem getItem_tuple_all {t sl : Addr} {vl vu : Value} {lo hi : Option Int} (ht : IsTup s.heap t items) (hs : s.heap.IsSliceOf sl vl vu .none) (pl : IsPart vl lo) (pu : IsPart vu hi)
  (hw : sIx items.size 0 lo = 0 ∧ sIx items.size items.size hi = items.size) (h : Q (.ref t) s) : wpAny (model prog w) A (getItem (.ref t) (.ref sl)) Q E s := by
 obtain ⟨os, hos, hcs, hds⟩ := id hs;have hTs : s.TypeIs (.ref sl) "slice" := ⟨os, hos, hcs⟩
 unfold getItem
 try with_reducible refine wpAny_holding ?_
 first | refine a4 (a6 ?_) | skip
 refine a4 (wpAny_sequenceKey ht.typeIs (by decide) ?_);refine a4 (wpAny_callSpecial?_slot (name := Str.ofString "__getitem__") ht.typeIs PyProof.Rows.slot_tuple_getitem
  (c0 PyProof.Rows.slot_tuple_getitem ht.typeIs entry_tuple_getitem ?_ (args_tuple_getitem _ _)))
 show wpAny _ _ (Builtin.Tuple.tupleItemsOf (.ref t) >>= _) _ _ s;refine a4 (tupleItemsOf_ ht ?_);refine a4 (wpAny_typeOf hTs ?_);rw [if_pos (by decide)];refine a4 (js hs pl pu ?_);have hyes : (((sIx items.size 0 lo : Nat) : Int) == 0 && (1 : Int) == 1 && (sIx items.size items.size hi - sIx items.size 0 lo) == items.size) = true := by
  rw [hw.1, hw.2]; simp
 show wpAny _ _ (if (((sIx items.size 0 lo : Nat) : Int) == 0 && (1 : Int) == 1 && (sIx items.size items.size hi - sIx items.size 0 lo) == items.size) = true then _ else _) _ _ s;rw [if_pos hyes];refine a4 ?_;unfold Builtin.Tuple.tupleIsExact;refine a4 (wpAny_typeOf ht.typeIs (a6 ?_));rw [if_pos (by decide)];exact a4 (wpAny_rule (a6 ⟨_, rfl, a6 h⟩))
end
end HT
namespace L2
open PySem PySem.Spec PyProof.Rows
variable {L e f : Addr} {A : Around} {vs : Array Value} {X : Cx} {env : Env} {base : Heap} {H H₀ : Hp} {pins : List (Addr × Obj)} {outer : List Env} {N : List Str} {oe : Obj} {P : Program} {K : PySem.W.Frag} {scope : Scope} {s s₀ : Shared} {σ : St} {qual : Str} {mg : Str → Option Value} {Q : Unit → Shared → Prop} {cd : Value} {E Ex : Value → Shared → Prop} {w : World}
section
variable {S : Addr → Prop}
noncomputable def Vk {α : Type} (xs : List α) (lo hi : Option Int) : List α := (xs.drop (HT.sIx xs.length 0 lo)).take (HT.sIx xs.length xs.length hi - HT.sIx xs.length 0 lo)
theorem zmx {ts : List T} {xs : List V} (h : IsL H ts xs) (lo hi : Option Int) : IsL H (Vk ts lo hi) (Vj xs lo hi) := by
 unfold Vk Vj;rw [h.length];exact IsL.take _ (IsL.drop _ h)
noncomputable def zok (S : Addr → Prop) : V → Option Int → Option Int → Hp → VK → Prop := fun x lo hi H Q => ∃ ts, Is (off S H) (.tup ts) x ∧ Sd S H ∧ ∀ v H', Same H H' → Is (off S H') (.tup (Vk ts lo hi)) v → Q v H'
theorem zob : SlR X (zok S) := by
 intro pins s σ H x v vl vu lo hi sl Q I rx hs pl pu h;obtain ⟨ts, ⟨a, xs, rfl, ha, hl⟩, d, q⟩ := h;have ha' := (Wa.mp ha).2;have e1 := hl.length;by_cases hw : HT.sIx xs.length 0 lo = 0 ∧ HT.sIx xs.length xs.length hi = xs.length
 · cases rx;obtain ⟨its, r, ht, hz⟩ := I.tuple (SqT.of ha');have hlen : its.toArray.size = xs.length := by rw [ax]; exact r.length.symm
   refine ⟨"tuple", _, PyProof.Rows.slot_tuple_getitem.lookup, ht.typeIs, ?_⟩;refine HT.getItem_tuple_all ht hs pl pu (by rw [hlen]; exact hw) ⟨.ref a, H, I, rfl, q _ H (Same.refl H) ?_⟩;have e : Vk ts lo hi = ts := by
    unfold Vk;rw [← e1, hw.1, hw.2, e1, List.drop_zero, Nat.sub_zero, c8]
   rw [e];exact ⟨a, xs, rfl, ha, hl⟩
 · exact zlw pins s σ H (.ref a) v vl vu lo hi sl Q I rx hs pl pu ⟨a, xs, rfl, SqT.of ha', hw, fun p hp => q _ _ (Same.new hp _) (Is.nt d hp (zmx hl lo hi))⟩
end
inductive Tm where
 | var (i : Nat) | con (t : T) | add (a b : Tm) | sub (a b : Tm) | mul (a b : Tm) | tup (ts : List Tm) | lst (ts : List Tm) | upto (a b : Tm) | frm (a b : Tm) | ix (a b : Tm) | toL (a : Tm) | neg (a : Tm) | toS (a : Tm) | sum (a : Tm) | dct
section
variable {S : Addr → Prop} {aL : Str → Bool}
theorem zy {n : Nat} (h : n ≤ 1000) : n ≤ sizeLine := ay h (by decide)
end
section
variable {M : Model} {T0 : Addr} {cls a0 : Value}
end
section
variable {E : XK}
end
section
variable {E : XK}
end
structure OwnErr (K : PySem.W.Frag) (mg : Str → Option Value) (base : Heap) (x : Str) (C : Addr) : Prop where
 cls : OwnCls x C [.type "ValueError", .type "Exception", .type "BaseException", .type "object"] "ValueError.__new__" mg base
 keep : PySem.W.keepIn K (.ref C) = true
section
variable {M : Model} {h : Heap} {g : Array GenState} {d : Drawn} {t : Nat} {os : OsState} {Q : Bool → Shared → Prop}
end
section
variable {E : XK} {s' : Shared} {e : Value} {R : Shared → Prop}
end
section
end
section
variable {a C : Addr}
end
end L2
namespace PySem
open Sem (wp)
noncomputable def qn : List Str := ["__class__", "__getattribute__", "__getattr__", "__init__"]
abbrev vE : List Value := [.type "ValueError", .type "Exception", .type "BaseException", .type "object"]
section
variable {M : Model} {prog : Program} {w : World} {A : Around} {E : Value → Shared → Prop} {h : Heap} {g : Array GenState} {d : Drawn} {t : Nat} {os : OsState} {a : Addr} {o : Obj}
 {nm q : Str} {C N : Addr} {bs bm : List Value} {hdct : Bool} {sn : List Str} {sub : List Value} {ab : Bool} {col : Option Bool} {dd : Option Addr} {k0 k1 k2 k3 k5 : Option Value} {newId : String} {mN : Str → Option Value}
end
section
variable {M : Model} {prog : Program} {w : World} {A : Around} {E : Value → Shared → Prop} {h : Heap} {g : Array GenState} {d : Drawn} {t : Nat} {os : OsState} {a : Addr} {o : Obj}
 {nm q : Str} {C N : Addr} {bs bm : List Value} {hdct : Bool} {sn : List Str} {sub : List Value} {ab : Bool} {col : Option Bool} {dd : Option Addr} {k0 k1 k2 k3 k5 : Option Value} {newId : String} {mN : Str → Option Value}
end
end PySem
namespace L2
open PySem PySem.Spec PyProof.Rows
variable {a it t1 t2 ti to z : Addr} {A : Around} {a1 a2 its : Array Value} {X : Cx} {H : Hp} {pins : List (Addr × Obj)} {elts es : List Expr} {cap : List Nat} {xs : List V} {i : Nat} {Q : Option Value → Shared → Prop} {pos : Pos} {P prog : Program} {K : PySem.W.Frag} {s : Shared} {σ : St} {mg : Str → Option Value} {E : Value → Shared → Prop} {w : World}
structure TwoErr (K : PySem.W.Frag) (C D : Addr) : Prop where
 c : ∃ nm q N bs hdct sn sub ab col dd k0 k1 k2 k3 k5, K.lookup C = some (excClassObj nm q C N bs (.ref D :: vE) hdct sn sub ab col dd k0 k1 k2 k3 k5 "ValueError.__new__") ∧ PySem.W.nsOkIn K N = true ∧ ∀ n ∈ qn, PySem.W.nsIn K N n = some none
 d : ∃ nm q N bs hdct sn sub ab col dd k0 k1 k2 k3 k5, K.lookup D = some (excClassObj nm q D N bs vE hdct sn sub ab col dd k0 k1 k2 k3 k5 "ValueError.__new__") ∧ PySem.W.nsOkIn K N = true ∧ ∀ n ∈ qn, PySem.W.nsIn K N n = some none
section
variable {C D : Addr} {base : Heap} {x : Str}
end
mutual
noncomputable def toD : T → PyData
 | .non => .none
 | .bl b => .bool b
 | .int i => .int i
 | .str x => .str x
 | .tup ts => .tuple (w5 ts)
 | .lst ts => .list (w5 ts)
 | .dct => .dict []
noncomputable def w5 : List T → List PyData
 | [] => []
 | t :: r => toD t :: w5 r
end
section
mutual
theorem wu (I : Inv X pins σ H s) : ∀ {t : T} {v : V} {u : Value}, (toD t).canLay0 = true → Is H t v → yw v u → ∃ as, Reads s.heap u (toD t) as
 | .non, v, u, _, h, r => by
   cases (show v = .non from h); cases (show u = Value.none from r);exact ⟨_, by unfold toD; exact .none⟩
 | .bl b, v, u, _, h, r => by
   cases (show v = .bl b from h); cases (show u = Value.bool b from r);exact ⟨_, by unfold toD; exact .bool b⟩
 | .int i, v, u, _, h, r => by
   cases (show v = .int i from h);obtain ⟨t, rfl⟩ := (show ∃ t, u = Value.int i t from r)
   exact ⟨_, by unfold toD; exact .int i t⟩
 | .str x, v, u, _, h, r => by
   cases (show v = .str x from h);obtain ⟨t, rfl⟩ := (show ∃ t, u = Value.str x t from r)
   exact ⟨_, by unfold toD; exact .str x t⟩
 | .tup ts, v, u, l, h, r => by
   obtain ⟨a, xs, rfl, ha, hl⟩ := h;cases (show u = Value.ref a from r);obtain ⟨its, rv, ⟨o, e, c, n, d⟩, _⟩ := I.tuple (SqT.of ha);obtain ⟨as, ra⟩ := qh I (by unfold toD PyData.canLay0 at l; exact l) hl rv;exact ⟨_, by unfold toD; exact .tuple e c d (by simpa using ra)⟩
 | .lst ts, v, u, l, h, r => by
   obtain ⟨a, xs, rfl, ha, hl⟩ := h;cases (show u = Value.ref a from r);obtain ⟨its, rv, ⟨o, n, e, c, _, d⟩, _⟩ := I.list (SqL.of ha);obtain ⟨as, ra⟩ := qh I (by unfold toD PyData.canLay0 at l; exact l) hl rv;exact ⟨_, by unfold toD; exact .list e c d (by simpa using ra)⟩
 | .dct, v, u, l, h, r => by unfold toD PyData.canLay0 at l; cases l
theorem qh (I : Inv X pins σ H s) : ∀ {ts : List T} {xs : List V} {us : List Value}, PyData.canLayAll0 (w5 ts) = true → IsL H ts xs → ym xs us → ∃ as, ReadsAll s.heap us (w5 ts) as
 | [], xs, us, _, h, r => by
   cases (show xs = [] from h); cases r;exact ⟨_, by unfold w5; exact .nil⟩
 | t :: ts, xs, us, l, h, r => by
   obtain ⟨v, vs, rfl, h1, h2⟩ := h;cases r with
   | cons r1 r2 =>
     unfold w5 PyData.canLayAll0 at l;rw [bc] at l;obtain ⟨as, ra⟩ := wu I l.1 h1 r1;obtain ⟨bs, rb⟩ := qh I l.2 h2 r2;exact ⟨_, by unfold w5; exact .cons ra rb⟩
end
end
noncomputable def rTr (f : Bool → Bool) : R2 := fun x y H Q => ∃ t u, Is H t x ∧ Is H u y ∧ (toD t).canLay0 = true ∧ (toD u).canLay0 = true ∧ (toD t).depth ≤ 20 ∧ Q (.bl (f (PyData.eqv (toD t) (toD u)))) H
section
theorem zjq (hu : X.A.units + 64 < cLine) : OpR X (compareOp .NotEq) (rTr (!·)) := by
 intro pins s σ H x y v u Q I rx ry h;obtain ⟨t, t', h1, h2, l1, l2, d, q⟩ := h;obtain ⟨as, ra⟩ := wu I l1 h1 rx;obtain ⟨bs, rb⟩ := wu I l2 h2 ry;exact SeqAt.compareNe_reads ra rb l1 l2 (by omega) ⟨.bl _, H, I, rfl, q⟩
theorem zdm (hu : X.A.units + 64 < cLine) : OpR X (compareOp .Eq) (rTr id) := by
 intro pins s σ H x y v u Q I rx ry h;obtain ⟨t, t', h1, h2, l1, l2, d, q⟩ := h;obtain ⟨as, ra⟩ := wu I l1 h1 rx;obtain ⟨bs, rb⟩ := wu I l2 h2 ry;exact SeqAt.rcAt_reads ra rb l1 l2 (by omega) X.prog X.w _ _ ⟨.bl _, H, I, rfl, q⟩
end
noncomputable def iT (ns : List Int) : List T := ns.map T.int
theorem Y3 : ∀ ns : List Int, w5 (iT ns) = ns.map PyData.int
 | [] => by unfold iT; rfl
 | n :: r => by
   show w5 (T.int n :: iT r) = _;unfold w5;rw [Y3 r];unfold toD;rfl
theorem zaw : ∀ ns : List Int, PyData.canLayAll0 (w5 (iT ns)) = true
 | [] => rfl
 | n :: r => by
   show PyData.canLayAll0 (w5 (T.int n :: iT r)) = true;unfold w5 toD PyData.canLayAll0;rw [zaw r];simp [PyData.canLay0]
theorem Vg : ∀ ns : List Int, PyData.depthAll (w5 (iT ns)) = 0
 | [] => rfl
 | n :: r => by
   show PyData.depthAll (w5 (T.int n :: iT r)) = 0;unfold w5 toD PyData.depthAll;rw [Vg r];simp [PyData.depth]
theorem zia : ∀ ns ms : List Int, PyData.eqvAll (w5 (iT ns)) (w5 (iT ms)) = decide (ns = ms) := fun ns ms => by
 rw [Y3, Y3];induction ns generalizing ms with
 | nil => cases ms <;> simp [PyData.eqvAll]
 | cons a r ih =>
   cases ms with
   | nil => simp [PyData.eqvAll]
   | cons b q =>
     simp only [de, PyData.eqvAll, PyData.eqv, ih q];by_cases h : a = b <;> by_cases h' : r = q <;> simp [h, h']
theorem IsL.ints {H : Hp} : ∀ {ns : List Int} {xs : List V}, IsL H (iT ns) xs ↔ xs = ns.map V.int
 | [], xs => Iff.rfl
 | n :: r, xs => by
   constructor
   · rintro ⟨v, vs, rfl, h1, h2⟩;rw [IsL.ints.mp h2, show v = .int n from h1];rfl
   · rintro rfl;exact ⟨_, _, rfl, rfl, IsL.ints.mpr rfl⟩
theorem jj (ns : List Int) : (toD (.lst (iT ns))).canLay0 = true := by unfold toD PyData.canLay0; exact zaw ns
theorem Qz (ns : List Int) : (toD (.lst (iT ns))).depth ≤ 20 := by unfold toD PyData.depth; rw [Vg]; decide
theorem zkj (ns ms : List Int) : PyData.eqv (toD (.lst (iT ns))) (toD (.lst (iT ms))) = decide (ns = ms) := by unfold toD PyData.eqv; exact zia ns ms
noncomputable def tt (ps ns : List Int) : T := .tup [.tup (iT ps), .tup (iT ns)]
section
end
section
noncomputable def zoq (K : PySem.W.Frag) : V → V → Hp → VK → Prop := fun o i H Q => ∃ p xs k v, o = .ref p ∧ i = .int k ∧ 0 ≤ k ∧ SqL K H p xs ∧ xs[k.toNat]? = some v ∧ Q v H
theorem za2 : zpj X (zoq X.K) := by
 intro pins s σ H o i ov iv Q I ro ri h;obtain ⟨p, xs, k, v, rfl, rfl, h0, hq, he, q⟩ := h;cases (show ov = Value.ref p from ro);obtain ⟨t, rfl⟩ := ri;obtain ⟨its, r, pl, hz⟩ := I.list hq;obtain ⟨w, ew, rw'⟩ := r.get he;have hl := r.length;have hn := Zx;have hk : k.toNat < its.length := (bh.mp ew).1;exact wpAny_getItem_list pl.isList h0 (by omega) (by simpa using ew) ⟨v, H, I, rw', q⟩
end
section
noncomputable def xc (h : Heap) (z ti to : Addr) (f0 : Value) : Prop := h.get? z = some { cls := .type "zip", data := .fields #[f0, .bool false, .bool true, .ref ti, .ref to] }
noncomputable def kf (h : Heap) (ti it1 it2 : Addr) : Prop := h.get? ti = some { cls := .type "tuple", data := .seq #[.ref it1, .ref it2] }
theorem jo {t : Addr} {v : Value} (hit : s.heap.IsTupleIter it t i) (ht : s.heap.IsTuple t its) (hv : its[i]? = some v)
  (k : ∀ g, g.IsTupleIter it t (i + 1) → Heap.SameBut it s.heap g → Q (some v) { s with heap := g }) : wpAny (model prog w) A (Builtin.SmallTypes.nextOrEnd (.ref it)) Q E s := by
 unfold Builtin.SmallTypes.nextOrEnd;exact a4 (wpAny_attempt (W2 hit ht hv fun g h1 h2 => a6 (k g h1 h2)))
theorem qb {t : Addr} (hh : A.handled = none) (hit : s.heap.IsTupleIter it t i) (ht : s.heap.IsTuple t its) (hv : its[i]? = none)
  (k : ∀ g, Heap.ExtBut it s.heap g → Q none { s with heap := g }) : wpAny (model prog w) A (Builtin.SmallTypes.nextOrEnd (.ref it)) Q E s := by
 unfold Builtin.SmallTypes.nextOrEnd;refine a4 (wpAny_attempt (Zl hh hit ht hv fun g x hx ⟨o, ho, hc⟩ => ?_));exact a4 (cn (T := "StopIteration") (b := true) ⟨o, ho, hc⟩ isSubtype_stop (a6 (k _ hx)))
theorem zfv {it1 it2 : Addr} {v1 v2 a b : Value} (hz : xc s.heap z ti to .none) (hti : kf s.heap ti it1 it2) (hto : s.heap.get? to = some { cls := .type "tuple", data := .seq #[a, b] })
  (hi1 : s.heap.IsTupleIter it1 t1 i) (hi2 : s.heap.IsTupleIter it2 t2 i)
  (h1 : s.heap.IsTuple t1 a1) (h2 : s.heap.IsTuple t2 a2) (e1 : a1[i]? = some v1) (e2 : a2[i]? = some v2) (nd : [z, ti, to, it1, it2].Nodup) (nt : t1 ∉ [z, to, it1, it2] ∧ t2 ∉ [z, to, it1, it2])
  (k : ∀ g, xc g z ti to (rawInt s.heap.objs.size) → kf g ti it1 it2 → g.get? to = some { cls := .type "tuple", data := .seq #[v1, v2] } → g.IsTupleIter it1 t1 (i + 1) → g.IsTupleIter it2 t2 (i + 1) →
   g.get? s.heap.objs.size = some { cls := .type "tuple", data := .seq #[v1, v2] } → g.objs.size = s.heap.objs.size + 1 → (∀ c o, c ≠ z → c ≠ to → c ≠ it1 → c ≠ it2 → s.heap.get? c = some o → g.get? c = some o) → Q (some (.ref s.heap.objs.size)) { s with heap := g }) :
  wpAny (model prog w) A (pyNext (.ref z)) Q E s := by
 have hT : s.TypeIs (.ref z) "zip" := ⟨_, hz, rfl⟩
 simp only [c7, aa, aj, or_false, not_or, not_false_eq_true, List.nodup_nil, and_true] at nd;simp only [aa, aj, or_false, not_or] at nt;obtain ⟨⟨n1, n2, n3, n4⟩, ⟨n5, n6, n7⟩, ⟨n8, n9⟩, n10⟩ := nd;obtain ⟨⟨m1, m2, m3, m4⟩, m5, m6, m7, m8⟩ := nt;unfold pyNext;refine a4 (wpAny_attempt (wpAny_callSpecial?_slot (name := Str.ofString "__next__") hT PySem.F.slot_zip_next (c0 PySem.F.slot_zip_next hT PySem.F.entry_zip_next ?_ (PySem.F.args_zip_next_1 _))));obtain ⟨hp, gs, d, tk, os⟩ := s;show wpAny _ _ (field (.ref z) 2 >>= _) _ _ _;refine a4 (wpAny_field hz rfl (x := .bool true) rfl ?_);show wpAny _ _ (field (.ref z) 3 >>= _) _ _ _;refine a4 (wpAny_field hz rfl (x := .ref ti) rfl ?_);refine a4 (wpAny_seqItems hti rfl ?_);dsimp only;refine a4 ?_;unfold Builtin.SmallTypes.ownedTupleIsFree;refine a4 (wpAny_field hz rfl (x := .none) rfl (a6 ?_));simp only [if_true];refine a4 (wpAny_rule (a4 (wpAny_field hz rfl (x := .ref to) rfl ?_)));dsimp only;refine a4 (wpAny_setField_rec hz (by simp) fun g1 hz1 hs1 => ?_);replace hs1 : Heap.SameBut z hp g1 := hs1;replace hz1 : xc g1 z ti to .ellipsis := hz1;refine a4 ?_;have hto1 : g1.get? to = some { cls := .type "tuple", data := .seq #[a, b] } := hs1.extBut _ _ (ae n2) hto;have hi11 : g1.IsTupleIter it1 t1 i := hi1.extBut hs1.extBut (ae n3);have hi21 : g1.IsTupleIter it2 t2 i := hi2.extBut hs1.extBut (ae n4);have h11 : g1.IsTuple t1 a1 := h1.extBut hs1.extBut m1;have h21 : g1.IsTuple t2 a2 := h2.extBut hs1.extBut m5;rw [show ([Value.ref it1, Value.ref it2] : List Value).zipIdx = [(Value.ref it1, 0), (Value.ref it2, 1)] from rfl, List.forIn_cons];refine a4 (a4 (wpAny_onRaise ?_));show wpAny _ _ (Builtin.SmallTypes.nextOrEnd (.ref it1)) _ _ ⟨g1, gs, d, tk, os⟩;refine jo hi11 h11 e1 fun g2 hi12 hs2 => ?_;replace hs2 : Heap.SameBut it1 g1 g2 := hs2;dsimp only;have hto2 : g2.get? to = some { cls := .type "tuple", data := .seq #[a, b] } := hs2.extBut _ _ n8 hto1;refine a4 (wpAny_seqItems (s := ⟨g2, gs, d, tk, os⟩) hto2 rfl ?_);dsimp only;refine a4 (wpAny_updateSeq_pair (s := ⟨g2, gs, d, tk, os⟩) hto2 fun g3 hto3 hs3 => ?_);replace hs3 : Heap.SameBut to g2 g3 := hs3;replace hto3 : g3.get? to = some { cls := .type "tuple", data := .seq #[v1, b] } := hto3;refine a4 (wpAny_letGo (a6 ?_));dsimp only;rw [List.forIn_cons];refine a4 (a4 (wpAny_onRaise ?_));show wpAny _ _ (Builtin.SmallTypes.nextOrEnd (.ref it2)) _ _ ⟨g3, gs, d, tk, os⟩;have hi23 : g3.IsTupleIter it2 t2 i := (hi21.extBut hs2.extBut (ae n10)).extBut hs3.extBut (ae n9);have h23 : g3.IsTuple t2 a2 := (h21.extBut hs2.extBut m7).extBut hs3.extBut m6;refine jo hi23 h23 e2 fun g4 hi24 hs4 => ?_;replace hs4 : Heap.SameBut it2 g3 g4 := hs4;dsimp only;have hto4 : g4.get? to = some { cls := .type "tuple", data := .seq #[v1, b] } := hs4.extBut _ _ n9 hto3;refine a4 (wpAny_seqItems (s := ⟨g4, gs, d, tk, os⟩) hto4 rfl ?_);dsimp only;refine a4 (wpAny_updateSeq_pair (s := ⟨g4, gs, d, tk, os⟩) hto4 fun g5 hto5 hs5 => ?_);replace hs5 : Heap.SameBut to g4 g5 := hs5;replace hto5 : g5.get? to = some { cls := .type "tuple", data := .seq #[v1, v2] } := hto5;refine a4 (wpAny_letGo (a6 ?_));dsimp only;rw [List.forIn_nil];refine a6 ?_;dsimp only;refine a4 (wpAny_seqItems (s := ⟨g5, gs, d, tk, os⟩) hto5 rfl ?_);dsimp only;refine a4 (wpAny_newTuple (s := ⟨g5, gs, d, tk, os⟩) ?_);have hz5 : xc g5 z ti to .ellipsis := hs5.extBut _ _ n2 (hs4.extBut _ _ n4 (hs3.extBut _ _ n2 (hs2.extBut _ _ n3 hz1)));have sz5 : g5.objs.size = hp.objs.size := by rw [hs5.1, hs4.1, hs3.1, hs2.1, hs1.1]
 have keep5 : ∀ c o, c ≠ z → c ≠ to → c ≠ it1 → c ≠ it2 → hp.get? c = some o → g5.get? c = some o := fun c o q1 q2 q3 q4 e => hs5.extBut c o q2 (hs4.extBut c o q4 (hs3.extBut c o q2 (hs2.extBut c o q3 (hs1.extBut c o q1 e))));have hi15 : g5.IsTupleIter it1 t1 (i + 1) := ((hi12.extBut hs3.extBut (ae n8)).extBut hs4.extBut n10).extBut hs5.extBut (ae n8);have hi25 : g5.IsTupleIter it2 t2 (i + 1) := hi24.extBut hs5.extBut (ae n9);have hzl : z < hp.objs.size := ac hz;dsimp only;rw [sz5];have hz6 : xc (g5.push { cls := .type "tuple", data := .seq [v1, v2].toArray }) z ti to .ellipsis := a8 _ hz5;have hT6 : (g5.push { cls := .type "tuple", data := .seq [v1, v2].toArray }).get? hp.objs.size = some { cls := .type "tuple", data := .seq #[v1, v2] } := by rw [← sz5]; exact ar _ rfl
 have keep6 : ∀ c o, g5.get? c = some o → (g5.push { cls := .type "tuple", data := .seq [v1, v2].toArray }).get? c = some o := fun c o e => a8 _ e;have sz6 : (g5.push { cls := .type "tuple", data := .seq [v1, v2].toArray }).objs.size = hp.objs.size + 1 := by rw [cy, sz5]
 show wpAny _ _ (Builtin.SmallTypes.ownedTupleHandOut (.ref z) (.ref hp.objs.size) >>= _) _ _ ⟨g5.push { cls := .type "tuple", data := .seq [v1, v2].toArray }, gs, d, tk, os⟩;generalize g5.push { cls := .type "tuple", data := .seq [v1, v2].toArray } = g6 at hz6 hT6 keep6 sz6 ⊢;refine a4 ?_;unfold Builtin.SmallTypes.ownedTupleHandOut;refine a4 (wpAny_setField_rec hz6 (by simp) fun g7 hz7 hs7 => ?_);replace hs7 : Heap.SameBut z g6 g7 := hs7;replace hz7 : xc g7 z ti to (rawInt hp.objs.size) := hz7;refine wpAny_setField_rec hz7 (by simp) fun g8 hz8 hs8 => ?_;replace hs8 : Heap.SameBut z g7 g8 := hs8;replace hz8 : xc g8 z ti to (rawInt hp.objs.size) := hz8;have up : ∀ c o, c ≠ z → g5.get? c = some o → g8.get? c = some o := fun c o q e => hs8.extBut c o q (hs7.extBut c o q (keep6 c o e));refine a6 ⟨_, rfl, a6 (k g8 hz8 ?_ (up _ _ (ae n2) hto5) ?_ ?_ ?_ ?_ fun c o q1 q2 q3 q4 e => up c o q1 (keep5 c o q1 q2 q3 q4 e))⟩
 · exact up _ _ (ae n1) (keep5 _ _ (ae n1) n5 n6 n7 hti)
 · obtain ⟨o, e, r⟩ := hi15;exact ⟨o, up _ _ (ae n3) e, r⟩
 · obtain ⟨o, e, r⟩ := hi25;exact ⟨o, up _ _ (ae n4) e, r⟩
 · exact hs8.extBut _ _ (ce hzl) (hs7.extBut _ _ (ce hzl) hT6)
 · rw [hs8.1, hs7.1, sz6]
theorem zix {it1 it2 : Addr} {a b : Value} (hh : A.handled = none) (hz : xc s.heap z ti to .none) (hti : kf s.heap ti it1 it2) (hto : s.heap.get? to = some { cls := .type "tuple", data := .seq #[a, b] })
  (hi1 : s.heap.IsTupleIter it1 t1 i) (hi2 : s.heap.IsTupleIter it2 t2 i)
  (h1 : s.heap.IsTuple t1 a1) (h2 : s.heap.IsTuple t2 a2) (e1 : a1[i]? = none) (e2 : a2[i]? = none) (nd : [z, ti, to, it1, it2].Nodup) (nt : t1 ∉ [z, to, it1, it2] ∧ t2 ∉ [z, to, it1, it2])
  (k : ∀ g, (∀ c o, c ≠ z → c ≠ it1 → c ≠ it2 → s.heap.get? c = some o → g.get? c = some o) → Q none { s with heap := g }) :
  wpAny (model prog w) A (pyNext (.ref z)) Q E s := by
 have hT : s.TypeIs (.ref z) "zip" := ⟨_, hz, rfl⟩
 simp only [c7, aa, aj, or_false, not_or, not_false_eq_true, List.nodup_nil, and_true] at nd;simp only [aa, aj, or_false, not_or] at nt;obtain ⟨⟨n1, n2, n3, n4⟩, ⟨n5, n6, n7⟩, ⟨n8, n9⟩, n10⟩ := nd;obtain ⟨⟨m1, m2, m3, m4⟩, m5, m6, m7, m8⟩ := nt;unfold pyNext;refine a4 (wpAny_attempt (wpAny_callSpecial?_slot (name := Str.ofString "__next__") hT PySem.F.slot_zip_next (c0 PySem.F.slot_zip_next hT PySem.F.entry_zip_next ?_ (PySem.F.args_zip_next_1 _))));obtain ⟨hp, gs, d, tk, os⟩ := s;show wpAny _ _ (field (.ref z) 2 >>= _) _ _ _;refine a4 (wpAny_field hz rfl (x := .bool true) rfl ?_);show wpAny _ _ (field (.ref z) 3 >>= _) _ _ _;refine a4 (wpAny_field hz rfl (x := .ref ti) rfl ?_);refine a4 (wpAny_seqItems hti rfl ?_);dsimp only;refine a4 ?_;unfold Builtin.SmallTypes.ownedTupleIsFree;refine a4 (wpAny_field hz rfl (x := .none) rfl (a6 ?_));simp only [if_true];refine a4 (wpAny_rule (a4 (wpAny_field hz rfl (x := .ref to) rfl ?_)));dsimp only;refine a4 (wpAny_setField_rec hz (by simp) fun g1 hz1 hs1 => ?_);replace hs1 : Heap.SameBut z hp g1 := hs1;replace hz1 : xc g1 z ti to .ellipsis := hz1;refine a4 ?_;have hi11 : g1.IsTupleIter it1 t1 i := hi1.extBut hs1.extBut (ae n3);have hi21 : g1.IsTupleIter it2 t2 i := hi2.extBut hs1.extBut (ae n4);have h11 : g1.IsTuple t1 a1 := h1.extBut hs1.extBut m1;have h21 : g1.IsTuple t2 a2 := h2.extBut hs1.extBut m5;rw [show ([Value.ref it1, Value.ref it2] : List Value).zipIdx = [(Value.ref it1, 0), (Value.ref it2, 1)] from rfl, List.forIn_cons];refine a4 (a4 (wpAny_onRaise ?_));show wpAny _ _ (Builtin.SmallTypes.nextOrEnd (.ref it1)) _ _ ⟨g1, gs, d, tk, os⟩;refine qb hh hi11 h11 e1 fun g2 hs2 => ?_;replace hs2 : Heap.ExtBut it1 g1 g2 := hs2;dsimp only;have hz2 : xc g2 z ti to .ellipsis := hs2 _ _ n3 hz1;refine a4 (wpAny_setField_rec (s := ⟨g2, gs, d, tk, os⟩) hz2 (by simp) fun g3 hz3 hs3 => ?_);replace hs3 : Heap.SameBut z g2 g3 := hs3;have hi23 : g3.IsTupleIter it2 t2 i := (hi21.extBut hs2 (ae n10)).extBut hs3.extBut (ae n4);have h23 : g3.IsTuple t2 a2 := (h21.extBut hs2 m7).extBut hs3.extBut m5;refine a4 ?_;show wpAny _ _ (forIn [(Value.ref it2, 1)] PUnit.unit _ >>= _) _ _ _;refine a4 ?_;rw [List.forIn_cons];refine a4 ?_;dsimp only;refine a4 (qb hh hi23 h23 e2 fun g4 hs4 => ?_);replace hs4 : Heap.ExtBut it2 g3 g4 := hs4;simp only [Option.isSome_none, Bool.false_eq_true, if_false];refine a6 ?_;dsimp only;rw [List.forIn_nil];refine a6 (a4 (wpAny_rule ?_));have keep4 : ∀ c o, c ≠ z → c ≠ it1 → c ≠ it2 → hp.get? c = some o → g4.get? c = some o := fun c o q1 q2 q3 e => hs4 c o q3 (hs3.extBut c o q1 (hs2 c o q2 (hs1.extBut c o q1 e)));unfold Builtin.SmallTypes.stopIteration;show wpAny _ _ (newExc (.type "StopIteration") [] >>= _) _ _ _;refine a4 ?_;simp only [newExc, newTuple];refine a4 (ca ?_ (by size_fits));refine a4 (m := firstArgMember _ _) (wpAny_of_eq (a := Value.none) (by first | rfl | (simp only [firstArgMember]; rfl)) ?_);refine ca ?_ (by size_fits);simp only [raiseNew];refine a4 (wpAny_handled ?_);first | rw [show A.in1.handled = none from hh] | rw [hh]
 refine a4 (a6 (wpAny_throw ?_));exact a4 (cn (T := "StopIteration") (b := true) ⟨_, ar _ rfl, rfl⟩ isSubtype_stop (a6 (k _ fun c o q1 q2 q3 e => a8 _ (a8 _ (keep4 c o q1 q2 q3 e)))))
theorem Ys {f0 : Value} {Q : Value → Shared → Prop} (hz : xc s.heap z ti to f0) (h : Q (.ref z) s) : wpAny (model prog w) A (pyIter (.ref z)) Q E s :=
 have hT : s.TypeIs (.ref z) "zip" := ⟨_, hz, rfl⟩
 wpAny_pyIter_slot hT PySem.F.slot_zip_iter (c0 PySem.F.slot_zip_iter hT PySem.F.entry_zip_iter (show wpAny _ _ (ret (.ref z)) _ _ s from a6 ⟨_, rfl, "zip", _, hT, PySem.F.slot_zip_next.lookup, h⟩) (PySem.F.args_zip_iter_1 _))
theorem Qq {x1} {T : Addr} {Q : Unit → Shared → Prop} (hz : xc s.heap z ti to (rawInt T)) (hQ : ∀ h', xc h' z ti to .none → Heap.SameBut z s.heap h' → Q () { s with heap := h' }) :
  wpAny (model prog w) A (letOwnedTupleGo (.Tuple elts x1 pos) (.ref z) (.ref T)) Q E s := by
 unfold letOwnedTupleGo;refine a4 (wpAny_load hz ?_);refine (show wpAny _ _ (if (["enumerate", "zip", "dict_itemiterator", "dict_reverseitemiterator", "odict_iterator", "itertools.zip_longest", "itertools.pairwise"].contains "zip" && (#[rawInt T, .bool false, .bool true, .ref ti, .ref to] : Array Value)[0]? == some (rawInt T)) = true then _ else _) Q E s from ?_);rw [if_pos (by simp)];refine a4 (wpAny_rule ?_);exact wpAny_setField_rec hz (by simp) fun h' hz' hs' => hQ h' hz' hs'
end
noncomputable def Itz (a b : Addr) : It :=
 ⟨fun i H => ∃ xs ys x y, H a = some (.tup xs) ∧ H b = some (.tup ys) ∧ xs[i]? = some x ∧ ys[i]? = some y,
  fun i H v H' => ∃ p x y, v = .ref p ∧ H p = none ∧ H' = upd H p (.tup [x, y]) ∧ (∀ xs, H a = some (.tup xs) → xs[i]? = some x) ∧ ∀ ys, H b = some (.tup ys) → ys[i]? = some y,
  fun i H => ∃ xs ys, H a = some (.tup xs) ∧ H b = some (.tup ys) ∧ xs.length ≤ i ∧ ys.length ≤ i⟩
theorem Z9 {h : Heap} (ok : HOk P w H h) (e : H a = some (.tup xs)) : ∃ its : List Value, ym xs its ∧ h.IsTuple a its.toArray := by
 obtain ⟨_, its, r, t, _⟩ := (show xk P w H h a (.tup xs) from ok a _ e)
 exact ⟨its, r, t⟩
theorem zf1 {k1} (a b z ti to it1 it2 : Addr) (nd : [z, ti, to, it1, it2].Nodup) (hb : sizeLine ≥ 2) :
  Turn P w K (.Tuple elts k1 pos) (Itz a b) [z, ti, to, it1, it2] z (fun i h => xc h z ti to .none ∧ kf h ti it1 it2 ∧ (∃ u v, h.get? to = some { cls := .type "tuple", data := .seq #[u, v] }) ∧ h.IsTupleIter it1 a i ∧ h.IsTupleIter it2 b i) where
 mem := by simp
 obj := fun i h st c hc => by
  obtain ⟨hz, hti, ⟨u, v, hto⟩, h1, h2⟩ := st;simp only [aa, aj, or_false] at hc;rcases hc with rfl | rfl | rfl | rfl | rfl
  · exact ⟨_, hz, fun v q => by
     have q' : Data.fields _ = Data.cell v := q;cases q'⟩
  · exact ⟨_, hti, fun v q => by
     have q' : Data.seq _ _ = Data.cell v := q;cases q'⟩
  · exact ⟨_, hto, fun v q => by
     have q' : Data.seq _ _ = Data.cell v := q;cases q'⟩
  · obtain ⟨o, e1, c, d⟩ := h1;exact ⟨o, e1, fun v q => by rw [d] at q; cases q⟩
  · obtain ⟨o, e1, c, d⟩ := h2;exact ⟨o, e1, fun v q => by rw [d] at q; cases q⟩
 keep := fun i h h' st k => by
  obtain ⟨hz, hti, ⟨u, v, hto⟩, ⟨o1, e1, r1⟩, o2, e2, r2⟩ := st;exact ⟨k z (by simp) _ hz, k ti (by simp) _ hti, ⟨u, v, k to (by simp) _ hto⟩, ⟨o1, k it1 (by simp) o1 e1, r1⟩, o2, k it2 (by simp) o2 e2, r2⟩
 item := by
  intro X hP hw hK hc i pins s σ H E I hf st hg;subst hP hw hK;obtain ⟨xs, ys, x, y, hxs, hys, hx, hy⟩ := hg;obtain ⟨its, rv, p⟩ := Z9 I.hok hxs;obtain ⟨jts, rw', q⟩ := Z9 I.hok hys;obtain ⟨u, hu, ru⟩ := rv.get hx;obtain ⟨v, hv, rvv⟩ := rw'.get hy;obtain ⟨hz, hti, ⟨u0, v0, hto⟩, hi1, hi2⟩ := st;have ff : ∀ c ∈ [z, ti, to, it1, it2], H c = none := fun c hc => (hf c hc).1;have ne : ∀ {c d : Addr} {o : HO}, H c = some o → d ∈ [z, ti, to, it1, it2] → c ≠ d := fun {c d o} e hd q => by rw [q, ff d hd] at e; cases e
  refine zfv hz hti hto hi1 hi2 p q (v1 := u) (v2 := v) (by simpa using hu) (by simpa using hv) nd ⟨fun m => ?_, fun m => ?_⟩ fun g gz gti gto gi1 gi2 gT gsz gk => ?_
  · simp only [aa, aj, or_false] at m;rcases m with m | m | m | m <;> exact ne hxs (by simp) m
  · simp only [aa, aj, or_false] at m;rcases m with m | m | m | m <;> exact ne hys (by simp) m
  refine ⟨.ref s.heap.objs.size, rfl, Qq gz fun g' gz' gs' => ?_⟩;replace gs' : Heap.SameBut z g g' := gs';have hfr : H s.heap.objs.size = none := I.hok.fresh (a9 _);have hin : ∀ c ∈ [z, ti, to, it1, it2], c < s.heap.objs.size := fun c hc => by
   simp only [aa, aj, or_false] at hc;rcases hc with rfl | rfl | rfl | rfl | rfl
   · exact ac hz
   · exact ac hti
   · exact ac hto
   · obtain ⟨o, e, _⟩ := hi1; exact ac e
   · obtain ⟨o, e, _⟩ := hi2; exact ac e
  have hTn : ∀ c ∈ [z, ti, to, it1, it2], s.heap.objs.size ≠ c := fun c hc => ce (hin c hc);have hk' : ∀ c o, c ∉ [z, to, it1, it2] → s.heap.get? c = some o → g'.get? c = some o := fun c o n e => by
   simp only [aa, aj, or_false, not_or] at n;exact gs'.extBut c o n.1 (gk c o n.1 n.2.1 n.2.2.1 n.2.2.2 e)
  have hT' : g'.get? s.heap.objs.size = some { cls := .type "tuple", data := .seq #[u, v] } := gs'.extBut _ _ (hTn z (by simp)) gT;have old1 : ∀ c o, H c = some o → c ∉ [z, to, it1, it2] := fun c o e m => ne e (show c ∈ [z, ti, to, it1, it2] by
   simp only [aa, aj, or_false] at m ⊢;rcases m with m | m | m | m <;> simp [m]) rfl
  have I1 : Inv X pins σ (upd H s.heap.objs.size (.tup [x, y])) { s with heap := g', toks := s.toks } := by
   refine I.step (g' := s.gens) (d' := s.drawn) (ch := [z, to, it1, it2]) (fun c hc => ?_) (fun c o n1 n2 n3 e _ => hk' c o n3 e)
    (fun c o n1 n2 n3 e _ => ⟨o.slots, hk' c o n3 e⟩) (fun c o n3 e n => ?_) (fun c o n3 e => ⟨o, hk' c o n3 e⟩)
    (fun c zs e => by rw [zk (zm e hfr)]; exact e) (fun c o zs e => by rw [zk (zm e hfr)]; exact e) (fun c ps e => ⟨#[], by rw [zk (zm e hfr), e]; simp⟩) (fun m hm => ?_) (fun c ob e => ?_) I.bare
   · obtain ⟨f0, f1, f2, f3, f4, f5⟩ := hf c (by
      simp only [aa, aj, or_false] at hc ⊢;rcases hc with hc | hc | hc | hc <;> simp [hc])
     exact ⟨f3, f1, f4, f5⟩
   · rw [zk (aw (ac e))]; exact n
   · obtain ⟨o, es, ep, hoo, r⟩ := hm;refine ⟨o, es, ep, hk' _ o (fun m => ?_) hoo, r⟩;simp only [aa, aj, or_false] at m;rcases m with m | m | m | m
     · exact (hf z (by simp)).2.1 m.symm
     · exact (hf to (by simp)).2.1 m.symm
     · exact (hf it1 (by simp)).2.1 m.symm
     · exact (hf it2 (by simp)).2.1 m.symm
   · by_cases hcb : c = s.heap.objs.size
     · subst hcb;rw [zf] at e;cases e;exact ⟨by show 2 ≤ sizeLine; omega, [u, v], .cons ru (.cons rvv .nil), ⟨_, hT', rfl, _, rfl⟩, fun q hq => by
        have hq : g'.get? s.heap.objs.size = some q := hq;rw [hT'] at hq;cases hq;rfl⟩
     · rw [zk hcb] at e;refine (I.hok c ob e).stay (fun d o hc q => ?_) (fun d q => by rw [zk (zm q hfr)]; exact q) fun d zs q => by rw [zk (zm q hfr)]; exact q
       rcases hc with rfl | hc
       · exact hk' d o (old1 d _ e) q
       · exact hk' d o (old1 d _ hc) q
  refine ⟨.ref s.heap.objs.size, _, I1, rfl, ⟨_, x, y, rfl, hfr, rfl, fun zs e => by rw [hxs] at e; cases e; exact hx, fun zs e => by rw [hys] at e; cases e; exact hy⟩, ⟨gz', gs'.extBut _ _ ?_ gti, ⟨u, v, gs'.extBut _ _ ?_ gto⟩, gi1.extBut gs'.extBut ?_, gi2.extBut gs'.extBut ?_⟩, fun c hc => ?_⟩
  · simp only [c7, aa, aj, or_false, not_or] at nd; exact ae nd.1.1
  · simp only [c7, aa, aj, or_false, not_or] at nd; exact ae nd.1.2.1
  · simp only [c7, aa, aj, or_false, not_or] at nd; exact ae nd.1.2.2.1
  · simp only [c7, aa, aj, or_false, not_or] at nd; exact ae nd.1.2.2.2
  · rw [zk (ae (hTn c hc))]; exact ff c hc
 done := by
  intro X hP hw hK hc i pins s σ H E I hf st hg;subst hP hw hK;obtain ⟨xs, ys, hxs, hys, hx, hy⟩ := hg;obtain ⟨its, rv, p⟩ := Z9 I.hok hxs;obtain ⟨jts, rw', q⟩ := Z9 I.hok hys;obtain ⟨hz, hti, ⟨u0, v0, hto⟩, hi1, hi2⟩ := st;have ff : ∀ c ∈ [z, ti, to, it1, it2], H c = none := fun c hc => (hf c hc).1;have ne : ∀ {c d : Addr} {o : HO}, H c = some o → d ∈ [z, ti, to, it1, it2] → c ≠ d := fun {c d o} e hd q => by rw [q, ff d hd] at e; cases e
  have l1 := rv.length;have l2 := rw'.length;refine zix (I.ok.hd hc) hz hti hto hi1 hi2 p q (by simp; omega) (by simp; omega) nd ⟨fun m => ?_, fun m => ?_⟩ fun g gk => ⟨rfl, ?_⟩
  · simp only [aa, aj, or_false] at m;rcases m with m | m | m | m <;> exact ne hxs (by simp) m
  · simp only [aa, aj, or_false] at m;rcases m with m | m | m | m <;> exact ne hys (by simp) m
  have hk' : ∀ c o, c ∉ [z, it1, it2] → s.heap.get? c = some o → g.get? c = some o := fun c o n e => by
   simp only [aa, aj, or_false, not_or] at n;exact gk c o n.1 n.2.1 n.2.2 e
  have old1 : ∀ c o, H c = some o → c ∉ [z, it1, it2] := fun c o e m => ne e (show c ∈ [z, ti, to, it1, it2] by
   simp only [aa, aj, or_false] at m ⊢;rcases m with m | m | m <;> simp [m]) rfl
  refine I.step (g' := s.gens) (t' := s.toks) (d' := s.drawn) (ch := [z, it1, it2]) (fun c hc => ?_) (fun c o n1 n2 n3 e _ => hk' c o n3 e)
   (fun c o n1 n2 n3 e _ => ⟨o.slots, hk' c o n3 e⟩) (fun _ _ _ _ n => n) (fun c o n3 e => ⟨o, hk' c o n3 e⟩)
   (fun _ _ e => e) (fun _ _ _ e => e) (fun c ps e => ⟨#[], by rw [e]; simp⟩) (fun m hm => ?_) (fun c ob e => ?_) I.bare
  · obtain ⟨f0, f1, f2, f3, f4, f5⟩ := hf c (by
     simp only [aa, aj, or_false] at hc ⊢;rcases hc with hc | hc | hc <;> simp [hc])
    exact ⟨f3, f1, f4, f5⟩
  · obtain ⟨o, es, ep, hoo, r⟩ := hm;refine ⟨o, es, ep, hk' _ o (fun m => ?_) hoo, r⟩;simp only [aa, aj, or_false] at m;rcases m with m | m | m
    · exact (hf z (by simp)).2.1 m.symm
    · exact (hf it1 (by simp)).2.1 m.symm
    · exact (hf it2 (by simp)).2.1 m.symm
  · refine (I.hok c ob e).stay (fun d o hc q => ?_) (fun d q => q) fun d zs q => q;rcases hc with rfl | hc
    · exact hk' d o (old1 d _ e) q
    · exact hk' d o (old1 d _ hc) q
 self := fun _ _ _ _ _ st h => by
  obtain ⟨hz, _⟩ := st;exact Ys hz h
noncomputable def zg (h : Heap) (t1 t2 : Addr) : Heap := ((((h.push { cls := .type "tuple_iterator", data := .fields #[.ref t1, .int 0 0] }).push { cls := .type "tuple_iterator", data := .fields #[.ref t2, .int 0 0] }).push { cls := .type "tuple", data := .seq #[.ref h.objs.size, .ref (h.objs.size + 1)] }).push { cls := .type "tuple", data := .seq #[.none, .none] }).push { cls := .type "zip", data := .fields #[.none, .bool false, .bool true, .ref (h.objs.size + 2), .ref (h.objs.size + 3)] }
theorem zm8 (h : Heap) (t1 t2 : Addr) : xc (zg h t1 t2) (h.objs.size + 4) (h.objs.size + 2) (h.objs.size + 3) .none ∧ kf (zg h t1 t2) (h.objs.size + 2) h.objs.size (h.objs.size + 1) ∧ (zg h t1 t2).get? (h.objs.size + 3) = some { cls := .type "tuple", data := .seq #[.none, .none] } ∧
  (zg h t1 t2).IsTupleIter h.objs.size t1 0 ∧ (zg h t1 t2).IsTupleIter (h.objs.size + 1) t2 0 ∧ (zg h t1 t2).objs.size = h.objs.size + 5 ∧ ∀ c o, h.get? c = some o → (zg h t1 t2).get? c = some o := by
 have at' : ∀ (g : Heap) (o : Obj) (n : Nat), g.objs.size = n → o.isFreed = false → (g.push o).get? n = some o := fun g o n e f => by rw [← e]; exact ar _ f
 have sz : ∀ (g : Heap) (o : Obj) (n : Nat), g.objs.size = n → (g.push o).objs.size = n + 1 := fun g o n e => by rw [cy, e]
 refine ⟨?_, ?_, ?_, ?_, ?_, ?_, fun c o e => ?_⟩
 · exact at' _ _ _ (sz _ _ _ (sz _ _ _ (sz _ _ _ (sz _ _ _ rfl)))) rfl
 · exact a8 _ (a8 _ (at' _ _ _ (sz _ _ _ (sz _ _ _ rfl)) rfl))
 · exact a8 _ (at' _ _ _ (sz _ _ _ (sz _ _ _ (sz _ _ _ rfl))) rfl)
 · exact ⟨_, a8 _ (a8 _ (a8 _ (a8 _ (at' _ _ _ rfl rfl)))), rfl, rfl⟩
 · exact ⟨_, a8 _ (a8 _ (a8 _ (at' _ _ _ (sz _ _ _ rfl) rfl))), rfl, rfl⟩
 · exact sz _ _ _ (sz _ _ _ (sz _ _ _ (sz _ _ _ (sz _ _ _ rfl))))
 · exact a8 _ (a8 _ (a8 _ (a8 _ (a8 _ e))))
section
theorem zjx (t1 t2 : Addr) (a1 a2 : Array Value) (n1 n2 : Nat) (d1 d2 : Option Addr) (l1 l2 : Array (Option Value)) :
  Meets (Builtin.«zip.__new__» ⟨[.type "zip", .ref t1, .ref t2], [("strict", .bool true)]⟩) (fun _ R s => s.heap.get? t1 = some { cls := .type "tuple", dict := d1, data := .seq a1 n1, slots := l1 } ∧ s.heap.get? t2 = some { cls := .type "tuple", dict := d2, data := .seq a2 n2, slots := l2 } ∧
   R (.ok (.ret (.ref (s.heap.objs.size + 4)))) { s with heap := zg s.heap t1 t2 }) :=
 .of_wp fun prog w A R s h => by
  obtain ⟨hp, g, d, tk, os⟩ := s;obtain ⟨hl1, hl2, h⟩ := h;have hsub := sub_zip;have hL1 : Heap.IsTuple (Shared.heap ⟨hp, g, d, tk, os⟩) t1 a1 := ⟨_, hl1, rfl, n1, rfl⟩
  have hL2 : Heap.IsTuple (Shared.heap ⟨hp.push { cls := .type "tuple_iterator", data := .fields #[.ref t1, .int 0 0] }, g, d, tk, os⟩) t2 a2 := ⟨_, a8 _ hl2, rfl, n2, rfl⟩
  wp_walk using wpAny_pyIter_tuple hL1, wpAny_pyIter_tuple hL2
  refine ⟨_, rfl, ?_⟩;simp only [zg, cy, Nat.add_assoc, Nat.reduceAdd] at h ⊢;exact h
theorem zk9 (a b c : Value) : argsOk "object.__init__" ⟨[a, b, c], [("strict", .bool true)]⟩ := by unfold argsOk; kernel_rfl
theorem zfm {Q : Value → Shared → Prop} (h1 : s.heap.IsTuple t1 a1) (h2 : s.heap.IsTuple t2 a2)
  (k : ∀ g, xc g (s.heap.objs.size + 4) (s.heap.objs.size + 2) (s.heap.objs.size + 3) .none → kf g (s.heap.objs.size + 2) s.heap.objs.size (s.heap.objs.size + 1) → g.get? (s.heap.objs.size + 3) = some { cls := .type "tuple", data := .seq #[.none, .none] } →
   g.IsTupleIter s.heap.objs.size t1 0 → g.IsTupleIter (s.heap.objs.size + 1) t2 0 → g.objs.size = s.heap.objs.size + 5 → (∀ c o, s.heap.get? c = some o → g.get? c = some o) → Q (.ref (s.heap.objs.size + 4)) { s with heap := g }) :
  wpAny (model prog w) A (call (.type "zip") [.ref t1, .ref t2] [("strict", .bool true)]) Q E s := by
 have ft := PySem.F.called_zip;obtain ⟨c, tl, hmro⟩ := ft.mro;have hmade := ft.made;have hsub := ft.sub;have hct : checkTypeCall "zip" ⟨[.ref t1, .ref t2], [("strict", .bool true)]⟩ = pure () := by kernel_rfl
 have hcn : checkBuiltinCall "zip.__new__" ⟨[.type "zip", .ref t1, .ref t2], [("strict", .bool true)]⟩ = pure () := by kernel_rfl
 obtain ⟨⟨c1, dc1, dt1, sl1⟩, hl1, hc1, n1, hd1⟩ := h1;obtain ⟨⟨c2, dc2, dt2, sl2⟩, hl2, hc2, n2, hd2⟩ := h2;replace hc1 : c1 = .type "tuple" := hc1;replace hc2 : c2 = .type "tuple" := hc2;replace hd1 : dt1 = .seq a1 n1 := hd1;replace hd2 : dt2 = .seq a2 n2 := hd2;subst hc1 hc2 hd1 hd2;refine wpAny_call (codeAny_of_tree ?_);show wpAny _ _ (callAny (.type "zip") _) _ _ _;refine a6 ⟨Code.quiet_builtin _ (by decide +kernel), codeAny_builtin PySem.F.entry_type_call ?_⟩;rw [Around.under_plain (weight_type_call_type "zip" _ _) (units_type_call_type "zip" _ _)];have hq1 := ft.notType;have hq2 := ft.canCreate
 repeat any_goals first | assumption | wp_step
 refine codeAny_mono (codeAny_call_builtin ft.plain PySem.F.entry_zip_new (wpAny_of_eq hcn (zjx t1 t2 a1 a2 n1 n2 dc1 dc2 sl1 sl2 prog w A.in1 (wants (fun obj s₁ => obj = .ref (s.heap.objs.size + 4) ∧ s₁ = { s with heap := zg s.heap t1 t2 }) E) s ⟨hl1, hl2, ⟨rfl, rfl⟩⟩))) fun r s₁ hr => ?_;cases r with
 | error e => exact hr
 | ok fl =>
   cases fl with
   | ret obj =>
     obtain ⟨rfl, rfl⟩ := (show obj = .ref (s.heap.objs.size + 4) ∧ s₁ = { s with heap := zg s.heap t1 t2 } from hr)
     obtain ⟨f1, f2, f3, f4, f5, f6, f7⟩ := zm8 s.heap t1 t2;have hT : (⟨zg s.heap t1 t2, s.gens, s.drawn, s.toks, s.os⟩ : Shared).TypeIs (.ref (s.heap.objs.size + 4)) "zip" := ⟨_, f1, rfl⟩
     have hli := ft.init.lookup;have hbi := ft.init.bind (.ref (s.heap.objs.size + 4))
     repeat any_goals first | assumption | wp_step
     refine codeAny_mono (codeAny_call_builtin ft.init.plain PySem.F.entry_object_init (ft.init.check _ _ _ _ _ _ _ _ hT (zk9 _ _ _) ?_)) (R := wants (fun r s₂ => r = .none ∧ s₂ = ⟨zg s.heap t1 t2, s.gens, s.drawn, s.toks, s.os⟩) E) fun r₂ s₂ hr₂ => ?_
     · have hne : (some "zip.__new__" != some "object.__new__") = true := by decide
       repeat any_goals first | assumption | wp_step
       exact ⟨rfl, rfl⟩
     cases r₂ with
     | error e => exact hr₂
     | ok fl₂ =>
       cases fl₂ with
       | ret r =>
         obtain ⟨rfl, rfl⟩ := (show r = .none ∧ s₂ = _ from hr₂)
         repeat any_goals first | assumption | wp_step
         exact k _ f1 f2 f3 f4 f5 f6 f7
       | _ => exact hr₂.elim
   | _ => exact hr.elim
end
theorem zbe : bootBuiltins "zip" = some (.type "zip") := by decide +kernel
section
noncomputable def zp2 (ta : TA) : TI := fun σ H R => ta σ H fun vs H1 => ∃ a b xs ys, vs = [.ref a, .ref b] ∧ H1 a = some (.tup xs) ∧ H1 b = some (.tup ys) ∧ R (Itz a b) H1
theorem zl3 {k1 kc} {tpos kp kpos : Pos} {a b : Expr} {ta : TA} {p : Pos} (hg : Gl X "zip") (hm : X.mg "zip" = none) (ha : PA X [a, b] ta) (hs : starEach [a, b] X.env = (false, eval a X.env) :: starEach [b] X.env := by rfl) (hpl : ((backTo pos (starEach [a, b] X.env)).any (·.1)) = false := by rfl) :
  PI X (.Tuple elts k1 tpos) (.Call (.Name "zip" p) [a, b] [⟨some "strict", .Constant (.bool true) kc kp, kpos⟩] pos) (zp2 ta) := by
 intro pins s σ H R I h;refine wpAny_Call_Name_kw (Zy I hg hm zbe ?_);refine PySem.W.callWith_of (P := fun _ => True) (by rw [hpl]; rfl) (fun h _ => ⟨.machine, .inr (.inl rfl), ?_⟩) ?_
 · exact fun A Q E s _ q => (show wpAny _ A (pure Keeper.machine) Q E s from a6 q)
 have e0 : backTo pos (starEach [a, b] X.env) = (false, eval a X.env) :: backTo pos (starEach [b] X.env) := by rw [hs]; rfl
 rw [e0];refine evalArgs_kwB rfl ?_;rw [← e0];refine thn (ha pos pins s σ H _ I h) fun us s1 ⟨vs, H1, I1, r1, q1⟩ => ?_;obtain ⟨t1, t2, xs, ys, rfl, hx, hy, q⟩ := q1;refine kws_cons (Constant_bool (kws_nil ⟨trivial, ?_⟩));cases r1 with
 | cons ra rr =>
   cases rr with
   | cons rb rn =>
     cases rn;cases ra;cases rb;obtain ⟨its, rv, p1⟩ := Z9 I1.hok hx;obtain ⟨jts, rw', p2⟩ := Z9 I1.hok hy;refine zfm p1 p2 fun g f1 f2 f3 f4 f5 f6 f7 => ?_;refine Ys f1 ?_;refine ⟨s1.heap.objs.size + 4, [s1.heap.objs.size + 4, s1.heap.objs.size + 2, s1.heap.objs.size + 3, s1.heap.objs.size, s1.heap.objs.size + 1], _, _, H1, rfl, I1.kept (t' := s1.toks) f7, zf1 t1 t2 _ _ _ _ _ (by simp) (by rw [sizeLine_eq]; omega), ⟨f1, f2, ⟨_, _, f3⟩, f4, f5⟩, fun c hc => ?_, q⟩;have hl : s1.heap.objs.size ≤ c := by
      simp only [aa, aj, or_false] at hc;rcases hc with rfl | rfl | rfl | rfl | rfl <;> omega
     exact I1.fpOk hl (I1.hok.fresh hl)
end
section
variable {b : Addr} {zs : List V} {g : TG} {tc : TT} {te : TE} {k : Nat} {Q : VK}
theorem zme (hn : xs.length = zs.length) (Pv : Nat → List V → Hp → Prop) (h0 : Pv 0 [] H) (hl : ∀ i ys H, i ≤ xs.length → Pv i ys H → H a = some (.tup xs) ∧ H b = some (.tup zs) ∧ ys.length ≤ sizeLine)
  (hs : ∀ i x z ys H p, xs[i]? = some x → zs[i]? = some z → Pv i ys H → H p = none → g (.ref p) (capσ k cap σ) (upd H p (.tup [x, z])) fun σ2 H2 => tc σ2 H2 fun b H3 => if b = true then te σ2 H3 fun y H4 => Pv (i + 1) (ys ++ [y]) H4 else Pv (i + 1) ys H3)
  (hd : ∀ ys H, Pv xs.length ys H → ∀ p, H p = none → Q (.ref p) (upd H p (.lst ys))) : Y1 (Itz a b) g tc te k cap σ H Q := by
 refine ⟨fun i m ys H => m = xs.length - i ∧ i ≤ xs.length ∧ Pv i ys H, ⟨xs.length, by simp, bo _, h0⟩, ?_⟩;rintro i m ys H ⟨rfl, hi, p⟩;obtain ⟨q1, q2, hz⟩ := hl i ys H hi p;by_cases hlt : i < xs.length
 · have hlz : i < zs.length := by omega
   refine .inr ⟨⟨xs, zs, xs[i], zs[i], q1, q2, by simp [hlt], by simp [hlz]⟩, hz, Pv (i + 1), fun ys' H' p' => ⟨xs.length - (i + 1), by omega, rfl, hlt, p'⟩, fun x H' y => ?_⟩;obtain ⟨p', x', y', rfl, hn', rfl, hx, hy⟩ := y;exact hs i x' y' ys H p' (hx xs q1) (hy zs q2) p hn'
 · have e : i = xs.length := by omega
   subst e;exact .inl ⟨⟨xs, zs, q1, q2, a9 _, by omega⟩, hz, hd ys H p⟩
end
section
theorem zim (hc : X.calm = true) : v9 X (.builtin "any") (fun xs H Q => ∃ (a : Addr) (bs : List Bool), xs = [.ref a] ∧ SqL X.K H a (bs.map V.bl) ∧ Q (.bl (bs.any id)) H) := by
 intro pins s σ H xs us Q I r h;obtain ⟨a, bs, rfl, hq, q⟩ := h;obtain ⟨u, rfl, rx⟩ := v8 r;cases rx;obtain ⟨its, rv, p, hz⟩ := I.list hq;have hlt : a < s.heap.objs.size := by obtain ⟨_, e, _⟩ := p.isList; exact ac e
 have hl := rv.length;rw [a7] at hl;refine call_any_walk (wpAny_pyIter_list p.isList ?_);refine ⟨s.heap.objs.size, _, _, _, _, _, fun i => (bs[i]?).getD false, rfl, Walks.list (A := X.A.in1) (show X.A.in1.handled = none from I.ok.hd hc) s.heap.objs.size a (aw hlt) its.toArray, ⟨⟨_, ar _ rfl, rfl, rfl⟩, p.isList.push _⟩, ?_, fun h' tk hk => ?_⟩
 · intro i v s' Q' E' hP hQ';have hP : its[i]? = some v := by simpa using hP
   cases e : bs[i]? with
   | none =>
     have := List.getElem?_eq_none_iff.mp e;have h2 : its[i]? = none := List.getElem?_eq_none_iff.mpr (by omega);rw [h2] at hP;cases hP
   | some b =>
     obtain ⟨u, hu, ru⟩ := rv.get (i := i) (x := V.bl b) (by rw [ao, e]; rfl);rw [hu] at hP;cases hP;cases (show v = Value.bool b from ru);dsimp only at hQ';rw [e] at hQ';exact a6 hQ'
 · have e : ((List.range its.toArray.size).any fun i => (bs[i]?).getD false) = bs.any id := by
    rw [ax, ← hl];clear q hq rv hl;rw [Bool.eq_iff_iff, da, da];constructor
    · rintro ⟨i, hi, h⟩;have hi := cb.mp hi;exact ⟨bs[i], List.getElem_mem hi, by simpa [hi] using h⟩
    · rintro ⟨x, hx, h⟩;obtain ⟨i, hi, rfl⟩ := d0.mp hx;exact ⟨i, cb.mpr hi, by simpa [hi] using h⟩
   rw [e];refine ⟨.bl (bs.any id), H, I.kept fun b o e => hk b o (fun hb => ?_) (a8 _ e), rfl, q⟩;have z : b = s.heap.objs.size := by simpa using hb
   exact absurd (ac e) (by rw [z]; exact c6 _)
theorem Z4 (bt : Nat → Nat → Bool) : ∀ k, argBest bt k ≤ k
 | 0 => a9 0
 | k + 1 => by
   have := Z4 bt k;show (if bt (k + 1) (argBest bt k) then k + 1 else argBest bt k) ≤ k + 1;split <;> omega
theorem Zm (f : Nat → Int) : ∀ k i, i ≤ k → f (argBest (fun i j => decide (f i < f j)) k) ≤ f i
 | 0, i, h => by
   have : i = 0 := by omega
   subst this;exact bz _
 | k + 1, i, h => by
   have ih := Zm f k;have e : argBest (fun i j => decide (f i < f j)) (k + 1) = if decide (f (k + 1) < f (argBest (fun i j => decide (f i < f j)) k)) = true then k + 1 else argBest (fun i j => decide (f i < f j)) k := rfl
   rw [e];split
   · rename_i c
     have c := bp c;by_cases hi : i = k + 1
     · subst hi; exact bz _
     · have := ih i (by omega); omega
   · rename_i c
     have c : ¬ (f (k + 1) < f (argBest (fun i j => decide (f i < f j)) k)) := fun z => c (ai z);by_cases hi : i = k + 1
     · subst hi; omega
     · exact ih i (by omega)
theorem jw (hc : X.calm = true) : v9 X (.builtin "min") (fun xs H Q => ∃ (a : Addr) (ns : List Int), xs = [.ref a] ∧ SqL X.K H a (ns.map V.int) ∧ ns ≠ [] ∧ ∀ m, m ∈ ns → (∀ n ∈ ns, m ≤ n) → Q (.int m) H) := by
 intro pins s σ H xs us Q I r h;obtain ⟨a, ns, rfl, hq, h0, q⟩ := h;obtain ⟨u, rfl, rx⟩ := v8 r;cases rx;obtain ⟨its, rv, p, hz⟩ := I.list hq;have hlt : a < s.heap.objs.size := by obtain ⟨_, e, _⟩ := p.isList; exact ac e
 have hl := rv.length;rw [a7] at hl;have hn0 : 0 < ns.length := by
  cases ns with
  | nil => exact absurd rfl h0
  | cons => simp
 have val : ∀ i v, its[i]? = some v → ∃ t, v = Value.int (ns.getD i 0) t := fun i v hv => by
  have hi : i < its.length := (bh.mp hv).1;obtain ⟨u, hu, ru⟩ := rv.get (i := i) (x := V.int (ns.getD i 0)) (by rw [ao, aq, ah (by omega)]; rfl);rw [hu] at hv;cases hv;exact ru
 refine call_min_walk (wpAny_pyIter_list p.isList ?_);refine ⟨s.heap.objs.size, _, _, _, _, _, fun i j => decide (ns.getD i 0 < ns.getD j 0), rfl, Walks.list (A := X.A.in1) (show X.A.in1.handled = none from I.ok.hd hc) s.heap.objs.size a (aw hlt) its.toArray, ⟨⟨_, ar _ rfl, rfl, rfl⟩, p.isList.push _⟩, ?_, by rw [ax]; omega, ?_, fun v h' tk hv hk => ?_⟩
 · intro b hb;simp only [aa, aj, or_false, Heap.push] at hb ⊢;rcases hb with rfl | rfl
   · simp
   · simp only [dy]; exact Nat.lt_succ_of_lt hlt
 · intro i j vi vj s' Q' E' hi hj hQ';obtain ⟨t, rfl⟩ := val i vi (by simpa using hi);obtain ⟨t', rfl⟩ := val j vj (by simpa using hj);exact HT.rcLt_int _ _ _ _ _ _ _ _ _ _ hQ'
 · have hsz : its.toArray.size = ns.length := by rw [ax]; omega
   rw [hsz] at hv;obtain ⟨t, rfl⟩ := val (argBest (fun i j => decide (ns.getD i 0 < ns.getD j 0)) (ns.length - 1)) v (by rw [List.getElem?_toArray] at hv; exact hv);clear hv;generalize hm : argBest (fun i j => decide (ns.getD i 0 < ns.getD j 0)) (ns.length - 1) = m;have hm1 : m ≤ ns.length - 1 := by rw [← hm]; exact Z4 _ _
   have hml : m < ns.length := by omega
   refine ⟨.int (ns.getD m 0), H, I.kept fun b o e => hk b o (fun hb => ?_) (a8 _ e), ⟨_, rfl⟩, q _ ?_ fun n hn => ?_⟩
   · have z : b = s.heap.objs.size := by simpa using hb
     exact absurd (ac e) (by rw [z]; exact c6 _)
   · rw [aq, ah hml]; exact List.getElem_mem hml
   · obtain ⟨i, hi, rfl⟩ := d0.mp hn;have := Zm (fun i => ns.getD i 0) (ns.length - 1) i (by omega);rw [hm] at this;have e : ns.getD i 0 = ns[i] := by rw [aq, ah hi]; rfl
     rw [← e]; exact this
noncomputable def zgk : V → List V → Hp → VK → Prop := fun x ys H Q => ∃ (ts : List T) (u : T) (y : V), ys = [y] ∧ Is H (.tup ts) x ∧ Is H u y ∧ (∀ t ∈ ts, (toD t).canLay0 = true) ∧ (toD u).canLay0 = true ∧ (toD u).depth ≤ 20 ∧ Q (.int ((ts.countP fun t => PyData.eqv (toD t) (toD u) : Nat) : Int)) H
theorem Kf (A : Around) (s : Shared) (hu : A.units + 40 < cLine) {x : Value} {d : PyData} {bs : List Addr} (rb : Reads s.heap x d bs) (lb : d.canLay0 = true) (db : d.depth ≤ 20) {e : Value → Bool} (he : ∀ u t as, Reads s.heap u (toD t) as → (toD t).canLay0 = true → e u = PyData.eqv (toD t) d) : ∀ {us : List Value} {ts : List T} {as : List Addr}, ReadsAll s.heap us (w5 ts) as → PyData.canLayAll0 (w5 ts) = true →
  (∀ u ∈ us, SeqAt.EqAt A s u x (e u)) ∧ us.countP e = ts.countP fun t => PyData.eqv (toD t) d
 | us, [], as, r, _ => by
   unfold w5 at r;cases r;exact ⟨fun u h => (by simp at h), rfl⟩
 | us, t :: ts, as, r, l => by
   unfold w5 at r l;have l : (toD t).canLay0 = true ∧ PyData.canLayAll0 (w5 ts) = true := by simpa [PyData.canLayAll0] using l
   cases r with
   | cons r1 r2 =>
     obtain ⟨h1, h2⟩ := Kf A s hu rb lb db he r2 l.2;have e1 := he _ _ _ r1 l.1;refine ⟨fun u hm => ?_, ?_⟩
     · rcases aa.mp hm with rfl | hm
       · rw [e1];exact SeqAt.eqAt_reads _ _ A s _ _ _ _ r1 rb l.1 lb (by omega)
       · exact h1 u hm
     · rw [List.countP_cons, List.countP_cons, h2, e1]
open Classical in
theorem ze3 (hu : X.A.units + 64 < cLine) : MtR X "tuple.count" zgk := by
 intro pins s σ H x xs v us Q I rx rv h;obtain ⟨ts, u, y, rfl, hx, hy, lts, lu, du, q⟩ := h;obtain ⟨a, zs, rfl, ha, hz⟩ := hx;cases (show v = Value.ref a from rx);obtain ⟨u', rfl, ru⟩ := rv.one;obtain ⟨bs, rb⟩ := wu I lu hy ru;obtain ⟨its, r, ht, hzl⟩ := I.tuple (SqT.of ha);have la : PyData.canLayAll0 (w5 ts) = true := by
  clear hz q;induction ts with
  | nil => rfl
  | cons t ts ih =>
    unfold w5;simp only [PyData.canLayAll0, bc];exact ⟨lts t be, ih fun t' h => lts t' (bn _ h)⟩
 obtain ⟨as, ra⟩ := qh I la hz r;let e : Value → Bool := fun z => decide (∃ t as, Reads s.heap z (toD t) as ∧ (toD t).canLay0 = true ∧ PyData.eqv (toD t) (toD u) = true);have he : ∀ z t as, Reads s.heap z (toD t) as → (toD t).canLay0 = true → e z = PyData.eqv (toD t) (toD u) := fun z t as rz lz => by
  rw [Bool.eq_iff_iff];refine ⟨fun h => ?_, fun h => ai ⟨t, as, rz, lz, h⟩⟩;obtain ⟨t', as', rz', lz', h'⟩ := bp h;rw [SeqAt.Reads.unique _ _ _ _ _ lz rz rz'];exact h'
 obtain ⟨o, eo, hc, n, hd⟩ := ht;have eo' : s.heap.get? a = some { cls := .type "tuple", dict := o.dict, data := .seq its.toArray n, slots := o.slots } := by rw [eo, ← hc, ← hd]
 have hun : X.A.in1.units = X.A.units + 1 := rfl;obtain ⟨c1, c2⟩ := Kf X.A.in1 s (by omega) rb lu du he ra la;refine call_meets PySem.F.slot_tuple_count ⟨_, eo', rfl⟩ PySem.F.entry_tuple_count (PySem.F.args_tuple_count_2 _ _) (SeqAt.tuple_countAt a its.toArray n o.dict o.slots u' e) ⟨eo', fun z hz' => c1 z (by simpa using hz'), ?_⟩;rw [List.toList_toArray, c2];exact ⟨.int _, H, I.tok _, ⟨_, rfl⟩, q⟩
end
section
variable {o e : Expr} {to : TE} {t : TA} {name : Str} {apos cpos : Pos} {id : String} {r : V → List V → Hp → VK → Prop}
noncomputable def znm (r : V → List V → Hp → VK → Prop) (to : TE) (t : TA) : TE := fun σ H Q => to σ H fun x H1 => (∃ p xs, x = .ref p ∧ H1 p = some (.tup xs)) ∧ t σ H1 fun xs H2 => r x xs H2 Q
theorem zl7 (slot : Slot "tuple" name id) (hty : typeOf (.builtin id) = pure (.type "method_descriptor")) (hm : MtR X id r) (ho : PE X o to) (ha : PA X (e :: es) t)
  (hbase : attributeBase o name X.env (eval o X.env) = eval o X.env := by rfl)
  (hfew : ((backTo cpos (starEach (e :: es) X.env)).all (fun x => !x.1) && (backToKw cpos (keywordEach [] X.env)).all (fun x => x.1.isSome)
   && decide ((e :: es).length + ([] : List Keyword).length + (if ([] : List Keyword).isEmpty then 0 else 1) < 30)) = true := by rfl)
  (hline : (apos.endLine == cpos.line) = true := by rfl) (hs : starEach (e :: es) X.env = (false, eval e X.env) :: starEach es X.env := by rfl) (hplain : (backTo cpos (starEach es X.env)).any (·.1) = false := by rfl) :
  PE X (.Call (.Attribute o name apos) (e :: es) [] cpos) (znm r to t) := by
 intro pins s σ H Q I h;refine wpAny_Call_method_late hbase hfew hline rfl (thn (ho pins s σ H _ I h) fun v s1 ⟨x, H1, I1, r1, ty, q1⟩ => ?_);obtain ⟨p, xs, rfl, hp⟩ := ty;cases r1;obtain ⟨_, its, _, ⟨ob, eo, hc, n, hd⟩, nd⟩ := (show xk X.prog X.w H1 s1.heap p (.tup xs) from I1.hok p _ hp)
 refine ⟨"tuple", id, PySem.F.plainAttrs_tuple, slot, hty, ⟨ob, eo, hc⟩, fun a e => ?_, ?_⟩
 · cases e;exact ⟨ob, eo, nd ob eo⟩
 have hA := ha cpos pins s1 σ H1 _ I1 q1;rw [hs] at hA ⊢;refine Calls.callWith_builtin (by show (false || (backTo cpos (starEach es X.env)).any (·.1)) = false; rw [hplain] <;> rfl) (Calls.evalArgs_plain ?_);exact thn hA fun us s2 ⟨vs, H2, I2, r2, q2⟩ => hm pins s2 σ H2 (.ref p) vs (.ref p) us Q I2 rfl r2 q2
end
noncomputable def zoi (f : Bool → Bool) : R2 := fun x y H Q => ∃ t u, Is H t x ∧ Is H u y ∧ (toD t).canLay0 = true ∧ (toD u).canLay0 = true ∧ (toD u).depth ≤ 20 ∧ Q (.bl (f (PyData.eqv (toD t) (toD u)))) H
section
theorem zgx (hu : X.A.units + 64 < cLine) : OpR X (compareOp .NotEq) (zoi (!·)) := by
 intro pins s σ H x y v u Q I rx ry h;obtain ⟨t, t', h1, h2, l1, l2, d, q⟩ := h;obtain ⟨as, ra⟩ := wu I l1 h1 rx;obtain ⟨bs, rb⟩ := wu I l2 h2 ry;exact SeqAt.compareNe_reads ra rb l1 l2 (by omega) ⟨.bl _, H, I, rfl, q⟩
theorem zad (hu : X.A.units + 64 < cLine) : OpR X (compareOp .Eq) (zoi id) := by
 intro pins s σ H x y v u Q I rx ry h;obtain ⟨t, t', h1, h2, l1, l2, d, q⟩ := h;obtain ⟨as, ra⟩ := wu I l1 h1 rx;obtain ⟨bs, rb⟩ := wu I l2 h2 ry;exact SeqAt.rcAt_reads ra rb l1 l2 (by omega) X.prog X.w _ _ ⟨.bl _, H, I, rfl, q⟩
end
end L2
namespace L2
open PySem PySem.Spec PyProof.Rows PySem.W
variable {A : Around} {vs : List Value} {prog : Program} {s : Shared} {E : Value → Shared → Prop} {w : World}
section
variable {n : Nat} {lt : Nat → Nat → Bool}
end
section
variable {h0 : Heap} {κ : SortKind} {lt : Nat → Nat → Bool}
end
noncomputable def tI (g : List Int) : T := .tup (iT g)
section
end
section
variable {X : Cx}
end
end L2
namespace L2
open PySem PySem.Spec PyProof.Rows
variable {A : Around} {X : Cx} {es : List Expr} {pos : Pos} {prog : Program} {s : Shared} {E : Value → Shared → Prop} {w : World}
section
open Classical in
end
section
end
section
end
section
end
section
end
noncomputable def znj (t : TA) : TE := fun σ H Q => t σ H fun xs H1 => xs.length ≤ 1000 ∧ ∀ p H', Same H1 H' → H1 p = none → H' p = some (.lst xs) → Q (.ref p) H'
noncomputable def zne (t : TA) : TE := fun σ H Q => t σ H fun xs H1 => xs.length ≤ 1000 ∧ ∀ p H', Same H1 H' → H1 p = none → H' p = some (.tup xs) → Q (.ref p) H'
section
theorem qv {t : TA} (h : PA X es t) : PE X (.List es pos) (znj t) := by
 intro pins s σ H Q I hq;refine wpAny_List_spliced (thn (h pos pins s σ H _ I hq) fun us s1 ⟨xs, H1, I1, r, z, q⟩ => ⟨by rw [← r.length]; exact zy z, ?_⟩);have hf : H1 s1.heap.objs.size = none := I1.hok.fresh (a9 _);exact ⟨.ref s1.heap.objs.size, upd H1 s1.heap.objs.size (.lst xs), I1.laid (t' := s1.toks) (fun b u e => a8 _ e) (a9 _) ⟨zy z, us, 0, r, ar _ rfl⟩, rfl, q _ _ (Same.new hf _) hf zf⟩
theorem Zi {t : TA} {x1} (h : PA X es t) : PE X (.Tuple es x1 pos) (zne t) := by
 intro pins s σ H Q I hq;refine wpAny_Tuple_spliced (thn (h pos pins s σ H _ I hq) fun us s1 ⟨xs, H1, I1, r, z, q⟩ => ⟨by rw [← r.length]; exact zy z, ?_⟩);have hf : H1 s1.heap.objs.size = none := I1.hok.fresh (a9 _);exact ⟨.ref s1.heap.objs.size, upd H1 s1.heap.objs.size (.tup xs), I1.laid (t' := s1.toks) (fun b u e => a8 _ e) (a9 _) ⟨zy z, us, r, IsTup.new _ _, NoD.push⟩, rfl, q _ _ (Same.new hf _) hf zf⟩
end
end L2
namespace L2
open PySem PySem.Spec PyProof.Rows PySem.W
structure Ord (n : Nat) (lt : Nat → Nat → Bool) : Prop where
 irr : ∀ i, lt i i = false
 tr : ∀ i j k, lt i j = true → lt j k = true → lt i k = true
 tot : ∀ i j, i < n → j < n → i ≠ j → lt i j = true ∨ lt j i = true
section
variable {n : Nat} {lt : Nat → Nat → Bool}
end
section
variable {X : Cx}
end
end L2
namespace L2
open PySem PySem.Spec PyProof.Rows
theorem Kl : ∀ {us : List Value} {ns : List Int}, IntsAre us ns → ym (ns.map V.int) us
 | _, _, .nil => .nil
 | _, _, .cons _ _ r => .cons ⟨_, rfl⟩ (Kl r)
section
variable {X : Cx}
noncomputable def zlz (K : PySem.W.Frag) : List V → Hp → VK → Prop := fun xs H Q => ∃ (p : Addr) (ns : List Int), xs = [.ref p] ∧ SqL K H p (ns.map V.int) ∧ ns.length < 64 ∧ ∀ (ns' : List Int) l, ns'.Perm ns → ns'.Pairwise (· ≤ ·) → H l = none → Q (.ref l) (upd H l (.lst (ns'.map V.int)))
theorem zcx : v9 X (.builtin "sorted") (zlz X.K) := by
 intro pins s σ H xs us Q I r h;obtain ⟨p, ns, rfl, hq, h64, q⟩ := h;obtain ⟨u, rfl, rx⟩ := v8 r;cases rx;obtain ⟨its, rv, pl, hz⟩ := I.list hq;have hl := rv.length;rw [a7] at hl;refine sorted_ints pl.isList (zcq rv) (by omega) fun out ns' hi hp ho => ?_;obtain ⟨e, he⟩ := sortedAll_at s.heap its out;have hn := hp.length_eq;refine ⟨.ref (s.heap.objs.size + 1), upd H (s.heap.objs.size + 1) (.lst (ns'.map V.int)), I.laid (t' := s.toks) (fun b o ho => sortedAll_old ho) (Nat.le_succ _) (show xk X.prog X.w _ _ _ (.lst (ns'.map V.int)) from ⟨?_, out.toList, e, Kl hi, ?_⟩), rfl, q ns' _ hp ho (I.hok.fresh (Nat.le_succ _))⟩
 · rw [a7]; exact zy (by omega)
 · simpa [seqObj] using he
end
end L2
namespace L2
open PySem PySem.Spec PyProof.Rows PySem.W
variable {A : Around} {es : Array DictEntry} {h : Heap} {Q : Option Value → Shared → Prop} {s : Shared} {E : Value → Shared → Prop}
noncomputable def qj (h : Heap) (d : Addr) (es : Array DictEntry) (ep : Nat) : Prop := ∃ o, h.get? d = some o ∧ o.ExactDict ∧ o.data = .dict es ep
section
variable {prog : Program} {w : World} {d it : Addr} {ep i : Nat}
theorem qj.ty (x : qj s.heap d es ep) : s.TypeIs (.ref d) "dict" := let ⟨o, ho, hc, _⟩ := x; ⟨o, ho, hc.1⟩
theorem qj.at {h' : Heap} (x : qj h d es ep) (k : ∀ o, h.get? d = some o → h'.get? d = some o) : qj h' d es ep := let ⟨o, ho, r⟩ := x; ⟨o, k o ho, r⟩
theorem qj.lt (x : qj h d es ep) : d < h.objs.size := let ⟨_, ho, _⟩ := x; ac ho
theorem za6 {Q : Value → Shared → Prop} (hd : (d == sysModules) = false) (x : qj s.heap d es ep)
  (hQ : Q (.ref s.heap.objs.size) { s with heap := s.heap.push { cls := .type "dict_keyiterator", data := .fields #[.ref d, .int 0 0, .int es.size 0, .int ep 0] } }) : wpAny (model prog w) A (pyIter (.ref d)) Q E s := by
 have hT := x.ty;obtain ⟨o, ho, hc, hdat⟩ := id x;refine wpAny_pyIter_slot hT F.slot_dict_iter (c0 F.slot_dict_iter hT F.entry_dict_iter ?_ (F.args_dict_iter_1 _));unfold Builtin.«dict.__iter__»;refine a4 ?_;unfold Builtin.Dict.dictSlotNone;refine a4 (wpAny_notOrdered_dict hT (show wpAny _ _ (pure (Value.ref d)) _ _ s from a6 ?_));show wpAny _ _ (Builtin.Dict.showsAll d >>= _) _ _ s;unfold Builtin.Dict.showsAll;rw [if_neg (by rw [hd]; exact az)];refine a4 (a6 (a4 (wpAny_dictEntries ho hdat (a4 (wpAny_dictEpoch ho hdat ?_)))));refine a4 (ca (a6 ⟨_, rfl, "dict_keyiterator", _, ⟨_, ar _ rfl, rfl⟩, F.slot_dict_keyiterator_next.lookup, ?_⟩));simpa [rawInt] using hQ
theorem za5 (hit : s.heap.IsKeyIter it d i es.size ep) (x : qj s.heap d es ep) (hi : i < es.size)
  (hQ : ∀ h', h'.IsKeyIter it d (i + 1) es.size ep → Heap.SameBut it s.heap h' → Q (some es[i].key) { s with heap := h' }) : wpAny (model prog w) A (pyNext (.ref it)) Q E s := by
 obtain ⟨oi, ho, hc, hd⟩ := id hit;obtain ⟨od, hod, hcd, hdd⟩ := id x;unfold pyNext;refine a4 (wpAny_attempt (wpAny_callSpecial?_slot (name := Str.ofString "__next__") hit.typeIs F.slot_dict_keyiterator_next
  (c0 F.slot_dict_keyiterator_next hit.typeIs F.entry_dict_keyiterator_next (a4 (a6 (a4 (a4 ?_)))) (F.args_dict_keyiterator_next_1 _))))
 first | refine a4 (wpAny_typeNameOfWhole_keyiter hit.typeIs (a6 ?_)) | refine a4 (wpAny_typeNameOf_keyiter hit.typeIs (a6 ?_))
 refine a4 (wpAny_fieldsOf ho hd ?_);simp only [show Builtin.Dict_items.ownsTuple "dict_keyiterator" = false from by decide, Bool.false_eq_true, if_false];show wpAny _ _ (if (Value.ref d == Value.none) = true then _ else _) _ _ s;rw [if_neg (show ¬ ((Value.ref d == Value.none) = true) from az)];refine a4 (a6 (a4 (wpAny_dictEntries hod hdd ?_)));rw [if_neg (by simp)];refine a4 (a6 (a4 (wpAny_dictEpoch hod hdd ?_)));rw [if_neg (by simp)];refine a6 ?_;simp only [show ¬ ((i : Int) < 0) from by omega, if_false, bw, cp hi];refine a4 ?_;first | refine a4 (wpAny_typeNameOfWhole_keyiter hit.typeIs (a6 ?_)) | refine a4 (wpAny_typeNameOf_keyiter hit.typeIs (a6 ?_))
 refine a4 (wpAny_isOneOf_keyiter hit.typeIs ?_);show wpAny _ _ (setField (.ref it) 1 (rawInt ((i : Int) + 1)) >>= _) _ _ s;refine a4 (wpAny_setField ho hd (by simp) ?_);have h2 : (s.heap.update it (Obj.mapFields (·.setIfInBounds 1 (rawInt ((i : Int) + 1))))).IsKeyIter it d (i + 1) es.size ep :=
  ⟨_, Heap.get?_update_self _ ho (Obj.isFreed_of_fields (Obj.data_mapFields hd _)), (Obj.cls_mapFields ..).trans hc, by rw [Obj.data_mapFields hd]; simp [rawInt]⟩
 refine a4 (wpAny_holding (a4 (wpAny_isOneOf_keyiter (s := { s with heap := s.heap.update it (Obj.mapFields (·.setIfInBounds 1 (rawInt ((i : Int) + 1)))) }) h2.typeIs ?_)));show wpAny _ _ (pure es[i].key) _ _ _;exact a6 (a6 ⟨_, rfl, a6 (hQ _ h2 (Heap.SameBut.update ..))⟩)
theorem zdy (hh : A.handled = none) (hit : s.heap.IsKeyIter it d i es.size ep) (x : qj s.heap d es ep) (hi : es.size ≤ i)
  (hQ : ∀ h', Heap.ExtBut it s.heap h' → Q none { s with heap := h' }) : wpAny (model prog w) A (pyNext (.ref it)) Q E s := by
 obtain ⟨oi, ho, hc, hd⟩ := id hit;obtain ⟨od, hod, hcd, hdd⟩ := id x;unfold pyNext;refine a4 (wpAny_attempt (wpAny_callSpecial?_slot (name := Str.ofString "__next__") hit.typeIs F.slot_dict_keyiterator_next
  (c0 F.slot_dict_keyiterator_next hit.typeIs F.entry_dict_keyiterator_next (a4 (a6 (a4 (a4 ?_)))) (F.args_dict_keyiterator_next_1 _))))
 first | refine a4 (wpAny_typeNameOfWhole_keyiter hit.typeIs (a6 ?_)) | refine a4 (wpAny_typeNameOf_keyiter hit.typeIs (a6 ?_))
 refine a4 (wpAny_fieldsOf ho hd ?_);simp only [show Builtin.Dict_items.ownsTuple "dict_keyiterator" = false from by decide, Bool.false_eq_true, if_false];show wpAny _ _ (if (Value.ref d == Value.none) = true then _ else _) _ _ s;rw [if_neg (show ¬ ((Value.ref d == Value.none) = true) from az)];refine a4 (a6 (a4 (wpAny_dictEntries hod hdd ?_)));rw [if_neg (by simp)];refine a4 (a6 (a4 (wpAny_dictEpoch hod hdd ?_)));rw [if_neg (by simp)];refine a6 ?_;simp only [show ¬ ((i : Int) < 0) from by omega, if_false, bw, Array.getElem?_eq_none hi];refine a4 ?_;first | refine a4 (wpAny_typeNameOfWhole_keyiter hit.typeIs (a6 ?_)) | refine a4 (wpAny_typeNameOf_keyiter hit.typeIs (a6 ?_))
 show wpAny _ _ (setField (.ref it) 0 .none >>= _) _ _ s;refine a4 (wpAny_setField ho hd (by simp) ?_);show wpAny _ _ (newExc (.type "StopIteration") [] >>= _) _ _ _;refine a4 ?_;simp only [newExc, newTuple];refine a4 (ca (a4 (m := firstArgMember _ _) (wpAny_of_eq (a := Value.none) (by first | rfl | (simp only [firstArgMember]; rfl)) (ca ?_ (by size_fits)))) (by size_fits));simp only [raiseNew];refine a4 (wpAny_handled ?_);rw [show A.in1.handled = none from hh];refine a4 (a6 (wpAny_throw ?_));refine a4 (cn (T := "StopIteration") (b := true) ⟨_, ar _ rfl, rfl⟩ isSubtype_stop ?_);exact a6 (hQ _ (((Heap.SameBut.update ..).extBut.push _).push _))
theorem zfi (hh : A.handled = none) (I : Addr) (hne : d ≠ I) : Walks prog w A I [I, d] [I] es.size (fun i v => ∃ e, es[i]? = some e ∧ v = e.key) (fun i h => h.IsKeyIter I d i es.size ep ∧ qj h d es ep) where
 sub := fun b hb => by simp at hb; simp [hb]
 frame := fun _ _ _ st hk => ⟨st.1.at fun o e => hk I (by simp) o e, st.2.at fun o e => hk d (by simp) o e⟩
 item := fun i s Q E hi st hQ => za5 st.1 st.2 hi fun h' hit' hs' => hQ _ h' s.toks ⟨_, cp hi, rfl⟩ ⟨hit', st.2.at fun o e => hs'.extBut d o hne e⟩ fun b o hb e => hs'.extBut b o (fun h => hb (by simp [h])) e
 done := fun s Q E st hQ => zdy hh st.1 st.2 (a9 _) fun h' he' => hQ h' s.toks fun b o hb e => he' b o (fun h => hb (by simp [h])) e
 self := fun _ _ _ _ st hQ => wpAny_pyIter_keyiter st.1 hQ
theorem zkk (lo : (d == sysModules) = false) : KdlSrc prog w "dict" d d es.size (fun i v => ∃ e, es[i]? = some e ∧ v = e.key) (fun h => qj h d es ep) where
 type := fun _ x => x.ty
 there := fun _ x => ⟨x.lt, x.lt⟩
 keep := fun _ _ x hk => x.at fun o e => hk d (.inl rfl) o e
 notList := by decide
 notTuple := by decide
 hint := fun _ _ _ _ x hq => kdl_hint_dict x.ty hq
 iter := fun _ _ hh x => ⟨_, _, (fun _ _ hq => za6 lo x hq), zfi hh _ (aw x.lt), ⟨⟨_, ar _ rfl, rfl, rfl⟩, x.at fun o e => a8 _ e⟩⟩
end
noncomputable def kI (g : List Int) : List Key := g.map Sum.inl
theorem zo3 (g : List Int) : (kI g).map kV = g.map V.int := by unfold kI; rw [cv]; rfl
theorem zml {g g' : List Int} (h : kI g = kI g') : g = g' := by
 unfold kI at h;induction g generalizing g' with
 | nil => cases g' with
   | nil => rfl
   | cons => cases h
 | cons a g ih => cases g' with
   | nil => cases h
   | cons b g' =>
     injection h with h1 h2;injection h1 with h1;rw [h1, ih h2]
section
variable {X : Cx}
end
end L2
namespace L2
open PySem PySem.Spec PyProof.Rows
variable {a f : Addr} {A : Around} {sl : Array (Option Value)} {xs : Array Value} {X : Cx} {o : HO} {H : Hp} {k n : Nat} {Q : Option Value → Shared → Prop} {prog : Program} {R : Result → Shared → Prop} {s : Shared} {E : Value → Shared → Prop} {w : World}
theorem zcj : typeLookup (.type "list") "keys" = pure none := am_miss_of_fast (by decide +kernel)
section
set_option maxRecDepth 8000 in
theorem J5 {u : Tok} {Q : Value → Shared → Prop} (hx : s.heap.get? a = some { cls := .type "list", dict := none, data := .seq xs k, slots := sl }) (hA : A.handled = none)
  (h : ∀ h' tk e, Heap.NewExcOf s.heap h' e "AttributeError" → E (.ref e) { s with heap := h', toks := tk }) : wpAny (model prog w) A (getAttrBy (.ref a) (.str "keys" u) false) Q E s := by
 obtain ⟨hp, g, d, tk, os⟩ := s;have hT : ∀ tk', (⟨hp, g, d, tk', os⟩ : Shared).TypeIs (.ref a) "list" := fun _ => ⟨_, hx, rfl⟩
 have f1 := sub_AttributeError;have f3 := PySem.F.slot_list_getattribute.lookup;have f4 := PySem.F.slot_list_getattribute.bind (.ref a);have f5 := am_list_getattr_none;unfold getAttrBy
 repeat (any_goals (first | assumption | exact hT _ | ((with_reducible show wpAny _ _ (call (Value.builtin "list.__getattribute__") _ _) _ _ _); refine call_meets PySem.F.slot_list_getattribute (hT _) am_entry_list_getattribute (PySem.F.args_list_getattribute_2 _ _) (meets_getattribute_miss_list a xs k sl "keys" _ zcj (by decide +kernel) (by size_fits)) ⟨hx, hA, fun h' tk' e hx' => ?_⟩) | wp_step))
 obtain ⟨t', u', he⟩ := hx'.there;show wpAny _ _ (getattributeRaised _ _ _ _ _ _ _) _ _ _;unfold getattributeRaised
 repeat (any_goals (first | assumption | wp_step))
 exact h _ _ _ hx'.of
theorem zco (hx : s.heap.get? a = some { cls := .type "list", dict := none, data := .seq xs k, slots := sl }) (hA : A.handled = none)
  (h : ∀ h' tk, (∀ b o, s.heap.get? b = some o → h'.get? b = some o) → Q none { s with heap := h', toks := tk }) : wpAny (model prog w) A (getAttr? (.ref a) "keys") Q E s := by
 unfold getAttr? getAttrBy?;refine a4 (wpAny_mkText ?_);refine a4 (wpAny_attempt (J5 (s := { s with toks := s.toks + 1 }) hx hA fun h' tk e x => ?_));obtain ⟨c, r, he, hc, _⟩ := x.there;refine a4 (cn (T := "AttributeError") (b := true) ⟨_, he, hc⟩ sub_AttributeError ?_);exact a6 (h _ _ x.keeps)
end
section
end
section
end
theorem Z3 (h : n ≤ 20000) : n ≤ sizeLine := ay h (by decide)
theorem Vo (h : n ≤ 20000) : n < sizeLine := df h (by decide)
section
end
noncomputable def jr (d f : Addr) (H H' : Hp) : Prop := ∀ b o, b ≠ d → b ≠ f → H b = some o → H' b = some o
theorem jr.refl (d f : Addr) (H : Hp) : jr d f H H := fun _ _ _ _ e => e
theorem jr.trans {d : Addr} {H1 H2 : Hp} (x : jr d f H H1) (y : jr d f H1 H2) : jr d f H H2 := fun b o n m e => y b o n m (x b o n m e)
theorem Same.but2 {d : Addr} {H' : Hp} (s : Same H H') : jr d f H H' := fun b o _ _ e => s b o e
theorem jr.updD {d : Addr} : jr d f H (upd H d o) := fun b u n _ e => by rw [zk n]; exact e
theorem jr.updF {d : Addr} : jr d f H (upd H f o) := fun b u _ m e => by rw [zk m]; exact e
end L2
namespace L2
open PySem PySem.Spec PyProof.Rows PySem.W
variable {a b : Addr} {A : Around} {Q : Bool → Shared → Prop} {P : Fin → Shared → Prop} {s : Shared} {E : Value → Shared → Prop}
section
variable {prog : Program} {w : World} {K : Type} [DecidableEq K] (knd : KeyKind prog w K)
inductive NIts (h : Heap) : List (List K) → List Value → Prop
 | nil : NIts h [] []
 | cons {k : List K} {a : Addr} {ks : List (List K)} {vs : List Value} : IsTupleKey knd h k a → NIts h ks vs → NIts h (k :: ks) (.ref a :: vs)
noncomputable def vo (h : Heap) (ks : List (List K)) (a : Addr) : Prop := ∃ o items n, h.get? a = some o ∧ o.cls = .type "tuple" ∧ o.data = .seq items n ∧ NIts knd h ks items.toList
noncomputable def W3 (ks : List (List K)) : Int := reduceHash (Builtin.Tuple.tupleHashOf (ks.map (tupleKeyHash knd)))
noncomputable def Xh (ks : List (List K)) : Nat := (ks.map fun k => k.length + 1).sum + 1
variable {knd}
theorem NIts.inj {h : Heap} {x y : List (List K)} {vs : List Value} (hx : NIts knd h x vs) (hy : NIts knd h y vs) : x = y := by
 induction hx generalizing y with
 | nil => cases hy; rfl
 | cons h1 _ ih =>
   cases hy with
   | cons h2 t2 => rw [h1.inj h2, ih t2]
theorem vo.typeIs {ks : List (List K)} (x : vo knd s.heap ks a) : s.TypeIs (.ref a) "tuple" := let ⟨o, _, _, ho, hc, _⟩ := x; ⟨o, ho, hc⟩
theorem vo.inj {h : Heap} {a : Addr} {x y : List (List K)} (hx : vo knd h x a) (hy : vo knd h y a) : x = y := by
 obtain ⟨o, items, n, ho, _, hd, hi⟩ := hx;obtain ⟨o', items', n', ho', _, hd', hi'⟩ := hy;obtain rfl : o = o' := Option.some.inj (ho.symm.trans ho');rw [hd] at hd';injection hd' with h1 _;subst h1;exact hi.inj hi'
theorem NIts.keeps {h h' : Heap} {ks : List (List K)} {vs : List Value} {d : Addr} {o : Obj} {es ep} (x : NIts knd h ks vs) (ho : h.get? d = some o) (hd : o.data = .dict es ep) (hs : Heap.SameBut d h h') : NIts knd h' ks vs := by
 induction x with
 | nil => exact .nil
 | cons h1 _ ih => exact .cons (h1.keeps ho hd hs) ih
theorem vo.keeps {h h' : Heap} {ks : List (List K)} {a d : Addr} {o : Obj} {es ep} (x : vo knd h ks a) (ho : h.get? d = some o) (hd : o.data = .dict es ep) (hs : Heap.SameBut d h h') : vo knd h' ks a := by
 obtain ⟨o', items, n, ho', hc, hd', hi⟩ := x;have hne : a ≠ d := by
  rintro rfl;obtain rfl : o' = o := Option.some.inj (ho'.symm.trans ho);rw [hd] at hd'; exact nomatch hd'
 exact ⟨o', items, n, (hs.2 a hne).trans ho', hc, hd', hi.keeps ho hd hs⟩
theorem K5 {ks : List (List K)} {Q : Int → Shared → Prop} (hu : A.units + 2 < cLine) (hk : vo knd s.heap ks a) (h : Q (W3 knd ks) { s with toks := s.toks + Xh ks }) :
  wpAny (model prog w) A (pyHash (.ref a)) Q E s := by
 have hT := hk.typeIs;obtain ⟨o, items, n, ho, _, hd, hi⟩ := hk;unfold pyHash;first | unfold pyHashByItsType | skip
 first | refine a4 (wpAny_cRoomFor_or (.inr (show A.units < cLine by omega)) ?_) | skip
 refine a4 (wpAny_specialOf hT F.slot_tuple_hash.lookup ?_);show wpAny _ _ (if (some (Value.builtin "tuple.__hash__") == some Value.none) = true then _ else _) Q E s;rw [if_neg (by rw [beq_builtin_none]; exact az)];refine a4 (wpAny_specialOf hT F.slot_tuple_hash.lookup ?_);show wpAny _ _ (callSpecialIfBoundUnlessNone? (.ref a) "__hash__" _ >>= _) Q E s;refine a4 (wpAny_callSpecialIfBoundUnlessNone?_slot hT F.slot_tuple_hash (c0 F.slot_tuple_hash hT F.entry_tuple_hash ?_ (F.args_tuple_hash_1 _)));show wpAny _ _ (Builtin.Tuple.tupleItemsOf (.ref a) >>= _) _ _ s;refine a4 (wpAny_tupleItemsOf ho hd ?_);refine a4 ?_;rw [← Array.forIn_toList];refine wpAny_forIn_list _
  (fun we (b : Array Int) s' => ∃ done left, ks = done ++ left ∧ NIts knd s.heap left we ∧ b.toList = done.map (tupleKeyHash knd) ∧ s' = { s with toks := s.toks + (done.map fun k => k.length + 1).sum })
  _ ?_ ?_ _ _ ⟨[], ks, rfl, hi, rfl, rfl⟩
 · rintro x we b s' ⟨done, left, rfl, hl, hb, rfl⟩;cases hl with
   | @cons k c ks' _ h1 hl' =>
     refine a4 (wpAny_pyHash_tuple ?room (s := { s with toks := s.toks + (done.map fun k => k.length + 1).sum }) h1 ?_)
     case room =>
      show A.in1.units < cLine;have : A.in1.units = A.units + 1 := rfl;omega
     first
      | exact a6 ⟨done ++ [k], ks', by simp, hl', by simp [hb], by simp [Nat.add_assoc]⟩
      | exact a4 (a6 (a6 ⟨done ++ [k], ks', by simp, hl', by simp [hb], by simp [Nat.add_assoc]⟩))
 · rintro b s' ⟨done, left, rfl, hl, hb, rfl⟩;cases hl;rw [cw] at h;show wpAny _ _ (retInt (Builtin.Tuple.tupleHashOf b.toList)) _ _ _;rw [hb];refine wpAny_ret_mkInt ?_;show wpAny _ _ (if (decide (-(2 : Int) ^ 63 ≤ Builtin.Tuple.tupleHashOf (done.map (tupleKeyHash knd))) && decide (Builtin.Tuple.tupleHashOf (done.map (tupleKeyHash knd)) < 2 ^ 63)) = true then _ else _) Q E _;unfold W3 reduceHash Xh at h;by_cases hr : (decide (-(2 : Int) ^ 63 ≤ Builtin.Tuple.tupleHashOf (done.map (tupleKeyHash knd))) && decide (Builtin.Tuple.tupleHashOf (done.map (tupleKeyHash knd)) < 2 ^ 63)) = true
   · rw [if_pos hr];rw [if_pos hr] at h;exact a6 (by simpa [Nat.add_assoc] using h)
   · rw [if_neg hr];rw [if_neg hr] at h;exact a4 (wpAny_rule (a6 (by simpa [Nat.add_assoc] using h)))
theorem Jw {x y : List (List K)} (hu : A.units < cLine) (hx : vo knd s.heap x a) (hy : vo knd s.heap y b) (h : P (.done (.ret (.bool (decide (x = y))))) s) :
  wpAny (model prog w) A (Builtin.«tuple.__eq__» ⟨[.ref a, .ref b], []⟩) P E s := by
 have hTb := hy.typeIs;obtain ⟨oa, xs, na, hoa, _, hda, hia⟩ := hx;obtain ⟨ob, ys, nb, hob, _, hdb, hib⟩ := hy;show wpAny _ _ (isInstance (.ref b) (.type "tuple") >>= _) _ _ s;refine a4 (cn hTb isSubtype_tuple_tuple ?_);simp only [Bool.not_true, Bool.false_eq_true, if_false];refine a4 (wpAny_tupleItemsOf hoa hda ?_);refine a4 (wpAny_tupleItemsOf hob hdb ?_);refine a4 ?_;refine wpAny_forIn_list _
  (fun we r s' => r.1 = none ∧ s' = s ∧ ∃ x' y' xs' ys', we = List.zip xs' ys' ∧ NIts knd s.heap x' xs' ∧ NIts knd s.heap y' ys' ∧ decide (x' = y') = decide (x = y) ∧ (xs'.length == ys'.length) = (xs.size == ys.size))
  _ ?_ ?_ _ _ ⟨rfl, rfl, x, y, xs.toList, ys.toList, rfl, hia, hib, rfl, by simp⟩
 · rintro ⟨u, v⟩ we r s' ⟨hr, rfl, x', y', xs', ys', hz, hx', hy', hdec, hlen⟩;cases hx' with
   | nil => simp at hz
   | @cons k1 u' x'' xs'' h1 hx'' =>
     cases hy' with
     | nil => simp at hz
     | @cons k2 v' y'' ys'' h2 hy'' =>
       simp only [List.zip_cons_cons, List.cons.injEq, Prod.mk.injEq] at hz;obtain ⟨⟨rfl, rfl⟩, rfl⟩ := hz;refine a4 (wpAny_eqBool_tuple (x := k1) (y := k2) hu h1 h2 ?_);by_cases hk : k1 = k2
       · subst hk;rw [ai rfl];simp only [Bool.not_true, Bool.false_eq_true, if_false];refine a6 ⟨rfl, rfl, x'', y'', xs'', ys'', rfl, hx'', hy'', ?_, by simpa using hlen⟩;rw [← hdec];by_cases hxy : x'' = y''
         · simp [hxy]
         · simp [hxy]
       · rw [av hk];simp only [Bool.not_false, if_true];have hf : decide (x = y) = false := by rw [← hdec]; simp [hk]
         rw [hf] at h;exact a4 (a6 (a6 (a6 h)))
 · rintro ⟨r1, r2⟩ s' ⟨hr, rfl, x', y', xs', ys', hz, hx', hy', hdec, hlen⟩;simp only at hr;subst hr;refine a6 ?_;have hfin : (xs.size == ys.size) = decide (x = y) := by
    rw [← hdec, ← hlen];cases hx' with
    | nil =>
      cases hy' with
      | nil => simp
      | cons _ _ => simp
    | cons _ _ =>
      cases hy' with
      | nil => simp
      | cons _ _ => simp at hz
   show P (.done (.ret (.bool (xs.size == ys.size)))) s';rw [hfin]; exact h
theorem za4 {x y : List (List K)} (hu : A.units + 2 < cLine) (hx : vo knd s.heap x a) (hy : vo knd s.heap y b) (h : Q (decide (x = y)) s) :
  wpAny (model prog w) A (eqBool (.ref a) (.ref b)) Q E s := by
 unfold eqBool
 try with_reducible refine wpAny_holding ?_
 show wpAny _ _ (if (Value.ref a == Value.ref b) = true then _ else _) Q E s;by_cases hab : (Value.ref a == Value.ref b) = true
 · rw [if_pos hab];have e : a = b := by have := eq_of_beq hab; injection this
   subst e;obtain rfl := hx.inj hy;exact a4 (wpAny_rule (a6 (by simpa using h)))
 · rw [if_neg hab];refine a4 (wpAny_richCompare_same_room (op := .Eq) hx.typeIs hy.typeIs F.slot_tuple_eq
    (c0 F.slot_tuple_eq hx.typeIs F.entry_tuple_eq (Jw ?room hx hy ⟨_, rfl, (fun e => nomatch e), wpAny_truthy_bool h⟩) (F.args_tuple_eq_2 _ _)) (by omega))
   show A.in1.units < cLine;have : A.in1.units = A.units + 1 := rfl;omega
theorem zep {n : Nat} {ks : List K} (hk : IsTupleKey knd s.heap ks a) (h : Q true s) : wpAny (model prog w) A (eqIsQuiet (n + 1) (.ref a)) Q E s := by
 have hT := hk.typeIs;obtain ⟨o, items, m, ho, _, hd, hi⟩ := hk;unfold eqIsQuiet;refine a4 (wpAny_specialOf hT F.slot_tuple_eq.lookup ?_);show wpAny _ _ (isInstance (.ref a) (.type "tuple") >>= _) _ _ s;refine a4 (cn hT isSubtype_tuple_tuple ?_);simp only [Bool.not_true, Bool.false_eq_true, if_false];refine a4 (wpAny_seqItems ho hd ?_);refine a4 ?_;show wpAny _ _ (forIn items _ _) _ _ s;rw [← Array.forIn_toList];refine wpAny_forIn_list _ (fun we r s' => r.1 = none ∧ s' = s ∧ ∀ v ∈ we, carriedByValue v = true) _ ?_ ?_ _ _ ⟨rfl, rfl, hi.byValue⟩
 · rintro v we r s' ⟨hr, rfl, hall⟩;rw [eqIsQuiet_byValue _ (hall v be)];refine a4 (a6 ?_);simp only [Bool.not_true, Bool.false_eq_true, if_false];exact a6 ⟨rfl, rfl, fun u hu' => hall u (bn _ hu')⟩
 · rintro ⟨r1, r2⟩ s' ⟨hr, rfl, _⟩;simp only at hr;subst hr;exact a6 h
theorem zb0 {ks : List (List K)} (hk : vo knd s.heap ks a) (h : Q true s) : wpAny (model prog w) A (eqIsQuiet 8 (.ref a)) Q E s := by
 have hT := hk.typeIs;obtain ⟨o, items, m, ho, _, hd, hi⟩ := hk;unfold eqIsQuiet;refine a4 (wpAny_specialOf hT F.slot_tuple_eq.lookup ?_);show wpAny _ _ (isInstance (.ref a) (.type "tuple") >>= _) _ _ s;refine a4 (cn hT isSubtype_tuple_tuple ?_);simp only [Bool.not_true, Bool.false_eq_true, if_false];refine a4 (wpAny_seqItems ho hd ?_);refine a4 ?_;show wpAny _ _ (forIn items _ _) _ _ s;rw [← Array.forIn_toList];refine wpAny_forIn_list _ (fun we r s' => r.1 = none ∧ s' = s ∧ ∃ ks, NIts knd s.heap ks we) _ ?_ ?_ _ _ ⟨rfl, rfl, _, hi⟩
 · rintro v we r s' ⟨hr, rfl, ks', hall⟩;cases hall with
   | cons h1 t =>
     refine a4 (zep h1 ?_);simp only [Bool.not_true, Bool.false_eq_true, if_false];exact a6 ⟨rfl, rfl, _, t⟩
 · rintro ⟨r1, r2⟩ s' ⟨hr, rfl, _⟩;simp only at hr;subst hr;exact a6 h
end
noncomputable def yy {prog : Program} {w : World} {K : Type} [DecidableEq K] (knd : KeyKind prog w K) : HeapKind prog w (List (List K)) where
 is := vo knd
 hash := W3 knd
 draws := Xh
 room := fun A => A.units + 2 < cLine
 inj := fun hx hy => hx.inj hy
 keeps := fun x ho hd hs => x.keeps ho hd hs
 pyHash := fun hu hk h => K5 hu hk h
 eqBool := fun hu hx hy h => za4 hu hx hy h
 quiet := fun hk h => zb0 hk h
noncomputable def tN (k : List (List Int)) : T := .tup (k.map tI)
noncomputable def nK (k : List (List Int)) : List (List Key) := k.map kI
abbrev yz := List (List Int)
variable {h : Heap} {H : Hp} {kvs : List (yz × V)} {P : Program} {y : V} {u : Value} {w : World}
abbrev q8 := List (List Key) × Addr × Value
theorem Jx : ∀ {a b : yz}, nK a = nK b → a = b
 | [], [], _ => rfl
 | [], _ :: _, e => by cases e
 | _ :: _, [], e => by cases e
 | x :: xs, y :: ys, e => by
   injection e with e1 e2;rw [zml e1, Jx e2]
noncomputable def Xw (P : Program) (w : World) (d : Addr) (xs : List q8) : Heap → Prop := fun h => ∃ o es ep, h.get? d = some o ∧ o.ExactDict ∧ o.data = .dict es ep ∧ es.toList = xs.map (entryOfKey (yy (yk P w)))
theorem Xw.ok {d : Addr} {xs : List q8} (x : Xw P w d xs h) : xk P w H h d (.ext (Xw P w d xs)) := by
 refine ⟨x, ?_, fun h1 h2 y k => ?_⟩
 · obtain ⟨o, _, _, ho, _⟩ := x;exact ⟨o, ho⟩
 · obtain ⟨o, es, ep, ho, r⟩ := y;exact ⟨o, es, ep, k o ho, r⟩
abbrev KN (H : Hp) : List (yz × V) → List q8 → Prop := Paired fun p q => nK p.1 = q.1 ∧ Is H (tN p.1) (.ref q.2.1) ∧ yw p.2 q.2.2
theorem KN.val {xs : List q8} (r : KN H kvs xs) (k : yz) : V4 (jf kvs k) ((atKey xs (nK k)).map (·.2)) := by
 induction r with
 | nil => exact True.intro
 | @cons p q ps qs h t ih =>
   obtain ⟨h1, _, h2⟩ := h;by_cases e : p.1 = k
   · have e' : q.1 = nK k := by rw [← h1, e]
     have b : atKey (q :: qs) (nK k) = some q.2 := by simp [atKey, List.find?_cons, e']
     rw [Z6 e, b]; exact h2
   · have e' : ¬ q.1 = nK k := fun z => e (Jx (h1.trans z));have b : atKey (q :: qs) (nK k) = atKey qs (nK k) := by simp [atKey, List.find?_cons, e']
     rw [Z7 e, b]; exact ih
theorem KN.repl {xs : List q8} (r : KN H kvs xs) (k : yz) (ry : yw y u) : KN H (kvs.map fun kv => if kv.1 = k then (kv.1, y) else kv) (xs.map (putAt (nK k) u)) := by
 induction r with
 | nil => exact .nil
 | @cons p q ps qs h t ih =>
   rw [de, de];refine .cons ?_ ih;obtain ⟨h1, h2, h3⟩ := h;unfold putAt;by_cases e : p.1 = k
   · rw [if_pos e, if_pos (by rw [← h1, e])]; exact ⟨h1, h2, ry⟩
   · rw [if_neg e, if_neg (fun z => e (Jx (h1.trans z)))]; exact ⟨h1, h2, h3⟩
theorem KN.put {xs : List q8} (r : KN H kvs xs) (k : yz) (hb : Is H (tN k) (.ref b)) (ry : yw y u) : KN H (Zv kvs k y) (storedH xs (nK k) b u) := by
 have e : (kvs.any fun kv => decide (kv.1 = k)) = (atKey xs (nK k)).isSome := by
  rw [Z8, (r.val k).isSome_eq, Option.isSome_map]
 unfold Zv storedH;rw [e];by_cases q : (atKey xs (nK k)).isSome = true
 · rw [if_pos q, if_pos q]; exact r.repl k ry
 · rw [if_neg q, if_neg q]; exact Paired.snoc r ⟨rfl, hb, ry⟩
theorem fro_ints : ∀ (cs : List Int), wx (cs.map T.int)
 | [] => trivial
 | c :: cs => ⟨trivial, fro_ints cs⟩
theorem zmr (k : yz) : Fro (tN k) := wx.all.mpr fun t ht => by
 obtain ⟨g, _, rfl⟩ := bq.mp ht;exact fro_ints g
theorem KN.tups {H H' : Hp} {kvs : List (yz × V)} {xs : List q8} (r : KN H kvs xs) (t : vt H H') : KN H' kvs xs := Paired.mapP r fun _ _ z => ⟨z.1, z.2.1.tups t (zmr _), z.2.2⟩
noncomputable def NAt (P : Program) (w : World) (H : Hp) (d : Addr) (kvs : List (yz × V)) : Prop := ∃ xs : List q8, H d = some (.ext (Xw P w d xs)) ∧ (d == sysModules) = false ∧ kvs.length ≤ sizeLine ∧ (xs.map (·.1)).Nodup ∧ KN H kvs xs
section
variable {H' : Hp} {d : Addr}
theorem NAt.same (n : NAt P w H d kvs) (s : Same H H') : NAt P w H' d kvs := by
 obtain ⟨xs, e, a, b, c, r⟩ := n;exact ⟨xs, s _ _ e, a, b, c, Paired.mapP r fun _ _ z => ⟨z.1, z.2.1.mono s, z.2.2⟩⟩
theorem NAt.by (n : NAt P w H d kvs) (t : vt H H') (e : H' d = H d) : NAt P w H' d kvs := by
 obtain ⟨xs, e', a, b, c, r⟩ := n;exact ⟨xs, e.trans e', a, b, c, r.tups t⟩
theorem NAt.tups {o : HO} (n : NAt P w H d kvs) : vt H (upd H d o) := by
 obtain ⟨xs, e, _⟩ := n;exact vt.upd e (fun zs z => by cases z)
theorem NAt.ne {ys : List V} (n : NAt P w H d kvs) (h : H b = some (.lst ys)) : b ≠ d := fun z => by
 obtain ⟨xs, e, _⟩ := n;rw [z, e] at h;cases h
theorem zhz {h : Heap} (ok : HOk P w H h) : ∀ {k : yz} {xs : List V} {us : List Value}, IsL H (k.map tI) xs → ym xs us → NIts (yk P w) h (nK k) us
 | [], _, _, e, r => by
   cases (show _ = [] from e);cases r;exact .nil
 | g :: k, _, _, ⟨v, vs, e, h1, h2⟩, r => by
   subst e;cases r with
   | cons r1 r2 =>
     obtain ⟨b, zs, rfl, hb, hz⟩ := h1;rw [IsL.ints.mp hz, ← zo3] at hb;cases r1;exact .cons (zmi ok hb) (zhz ok h2 r2)
theorem qd (ok : HOk P w H h) {k : yz} (i : Is H (tN k) (.ref a)) : (yy (yk P w)).is h (nK k) a := by
 obtain ⟨a', xs, e, ha, hx⟩ := i;cases e;obtain ⟨_, its, r, ⟨o, h1, h2, n, h3⟩, _⟩ := (show xk P w H h a (.tup xs) from ok a _ ha)
 exact ⟨o, its.toArray, n, h1, h2, h3, by simpa using zhz ok hx r⟩
theorem NAt.dict (ok : HOk P w H h) (n : NAt P w H d kvs) : (d == sysModules) = false ∧ ∃ xs, KN H kvs xs ∧ xs.length ≤ sizeLine ∧ h.DictOfH (yy (yk P w)) d xs := by
 obtain ⟨xs, e, a, b, c, r⟩ := n;obtain ⟨⟨o, es, ep, h1, h2, h3, h4⟩, _⟩ := (show xk P w H h d (.ext (Xw P w d xs)) from ok d _ e)
 have hl := Paired.length r;refine ⟨a, xs, r, by omega, o, es, ep, h1, h2, h3, h4, ?_, c⟩;have all : ∀ {l : List (yz × V)} {m : List q8}, KN H l m → ∀ x ∈ m, (yy (yk P w)).is h x.1 x.2.1 := by
  intro l m q;induction q with
  | nil => intro x hx; exact nomatch hx
  | @cons p q ps qs hq t ih =>
    intro x hx;rcases aa.mp hx with e | hx
    · subst e;rw [← hq.1];exact qd ok hq.2.1
    · exact ih x hx
 exact all r
theorem zo1 {xs : List q8} (r : KN H kvs xs) : IsL H (kvs.map fun kv => tN kv.1) (xs.map fun x => V.ref x.2.1) := by
 induction r with
 | nil => rfl
 | cons h t ih => exact ⟨_, _, rfl, h.2.1, ih⟩
end
noncomputable def zi4 (P : Program) (w : World) (f : Bool → Bool) (ty td : TE) : TE := fun σ H Q => ty σ H fun y H1 => td σ H1 fun x H2 => ∃ d b kvs k, x = .ref d ∧ y = .ref b ∧ NAt P w H2 d kvs ∧ Is H2 (tN k) (.ref b) ∧ Q (.bl (f (jf kvs k).isSome)) H2
noncomputable def zni (P : Program) (w : World) (td ty : TE) : TE := fun σ H Q => td σ H fun x H1 => ty σ H1 fun y H2 => ∃ d b kvs k v, x = .ref d ∧ y = .ref b ∧ NAt P w H2 d kvs ∧ Is H2 (tN k) (.ref b) ∧ jf kvs k = some v ∧ Q v H2
noncomputable def zof (P : Program) (w : World) (td ty tv : TE) : TS := fun D σ H => tv σ H fun v H1 => td σ H1 fun x H2 => ty σ H2 fun y H3 => ∃ d b kvs k, x = .ref d ∧ y = .ref b ∧ NAt P w H3 d kvs ∧ Is H3 (tN k) (.ref b) ∧ kvs.length < sizeLine ∧
 ∀ o, NAt P w (upd H3 d o) d (Zv kvs k v) → D.nx σ (upd H3 d o)
noncomputable def zoo (P : Program) (w : World) : List V → Hp → VK → Prop := fun xs H Q => ∃ d kvs, xs = [.ref d] ∧ NAt P w H d kvs ∧ Q (.int ((kvs.length : Nat) : Int)) H
noncomputable def zl0 (P : Program) (w : World) : List V → Hp → VK → Prop := fun xs H Q => ∃ d kvs, xs = [.ref d] ∧ NAt P w H d kvs ∧ ∀ ys p H', Same H H' → H p = none → H' p = some (.lst ys) → IsL H' (kvs.map fun kv => tN kv.1) ys → Q (.ref p) H'
noncomputable def zi5 (P : Program) (w : World) (te tv : TE) : TE := fun σ H Q => ∀ p o, H p = none → NAt P w (upd H p o) p [] → te σ (upd H p o) fun x H1 => tv σ H1 fun y H2 => ∃ b k, x = .ref b ∧ Is H2 (tN k) (.ref b) ∧ NAt P w H2 p [] ∧ ∀ o', NAt P w (upd H2 p o') p [(k, y)] → Q (.ref p) (upd H2 p o')
section
variable {X : Cx} {o i e value : Expr} {pos pos' tpos : Pos} {td ty tv : TE}
theorem Qi (hu : A.units + 3 < cLine) : (yy (yk P w)).room A.in1 := by
 show A.in1.units + 2 < cLine;have : A.in1.units = A.units + 1 := rfl;omega
theorem zgt (hu : X.A.units + 3 < cLine) (hi : PE X i ty) (ho : PE X o td) : PC X .In i o (zi4 X.prog X.w id ty td) := by
 intro pins s σ H Q I h;refine thn (hi pins s σ H _ I h) fun iv s1 ⟨y, H1, I1, ry, q1⟩ => thn (ho pins s1 σ H1 _ I1 q1) fun u s2 ⟨x, H2, I2, rx, d, b, kvs, k, ex, ey, n, ik, q2⟩ => ?_;subst ex ey;obtain rfl : u = Value.ref d := rx;obtain rfl : iv = Value.ref b := ry;obtain ⟨hd, xs, rel, _, dd⟩ := n.dict I2.hok;refine wpAny_in_heap (Qi hu) (qd I2.hok ik) hd dd ?_;have q := (rel.val k).isSome_eq;rw [Option.isSome_map] at q;rw [← q];exact ⟨.bl (jf kvs k).isSome, H2, I2.tok _, rfl, q2⟩
theorem Xe (hu : X.A.units + 3 < cLine) (hi : PE X i ty) (ho : PE X o td) : PC X .NotIn i o (zi4 X.prog X.w (!·) ty td) := by
 intro pins s σ H Q I h;refine thn (hi pins s σ H _ I h) fun iv s1 ⟨y, H1, I1, ry, q1⟩ => thn (ho pins s1 σ H1 _ I1 q1) fun u s2 ⟨x, H2, I2, rx, d, b, kvs, k, ex, ey, n, ik, q2⟩ => ?_;subst ex ey;obtain rfl : u = Value.ref d := rx;obtain rfl : iv = Value.ref b := ry;obtain ⟨hd, xs, rel, _, dd⟩ := n.dict I2.hok;refine wpAny_notIn_heap (Qi hu) (qd I2.hok ik) hd dd ?_;have q := (rel.val k).isSome_eq;rw [Option.isSome_map] at q;rw [← q];exact ⟨.bl (!(jf kvs k).isSome), H2, I2.tok _, rfl, q2⟩
theorem zdj (hu : X.A.units + 3 < cLine) (ho : PE X o td) (hi : PE X i ty) (hs : zm5 i) : PE X (.Subscript o i pos) (zni X.prog X.w td ty) := by
 intro pins s σ H Q I h;refine zc8 PySem.F.slot_dict_getitem.lookup hs (thn (ho pins s σ H _ I h) fun u s1 ⟨x, H1, I1, rx, q1⟩ => thn (hi pins s1 σ H1 _ I1 q1) fun iv s2 ⟨y, H2, I2, ry, d, b, kvs, k, v, ex, ey, n, ik, l, q2⟩ => ?_);subst ex ey;obtain rfl : u = Value.ref d := rx;obtain rfl : iv = Value.ref b := ry;obtain ⟨hd, xs, rel, _, dd⟩ := n.dict I2.hok;obtain ⟨w', hw, rw'⟩ := V4.some_of (v := v) (o := (atKey xs (nK k)).map (·.2)) (by rw [← l]; exact rel.val k);obtain ⟨p, hp, hp2⟩ := dv.mp hw;refine ⟨dd.typeIs, wpAny_getItem_heap (Qi hu) (qd I2.hok ik) dd hp ?_⟩;rw [hp2];exact ⟨v, H2, I2.tok _, rw', q2⟩
theorem zdg (hu : X.A.units + 3 < cLine) (ho : PE X o td) (hi : PE X i ty) (hv : PE X value tv) (hs : swapsWith value (some (.Subscript o i pos')) pos.line X.env = pure false) :
  PS X (.Assign [.Subscript o i pos'] value pos) (zof X.prog X.w td ty tv) := by
 intro pins s σ H D I h;refine wpAny_Assign_Subscript (thn (hv pins s σ H _ I h) fun r s1 ⟨v, H1, I1, rv, q1⟩ => thn (ho pins s1 σ H1 _ I1 q1) fun u s2 ⟨x, H2, I2, rx, q2⟩ => thn (hi pins s2 σ H2 _ I2 q2) fun iv s3 ⟨y, H3, I3, ry, d, b, kvs, k, ex, ey, n, ik, hl, q3⟩ => ?_) hs;subst ex ey;obtain rfl : u = Value.ref d := rx;obtain rfl : iv = Value.ref b := ry;obtain ⟨hd, xs, rel, hz, dd⟩ := n.dict I3.hok;refine wpAny_setItem_heap (hsz := hz) (Qi hu) (qd I3.hok ik) dd fun h' dd' hs' => ?_;obtain ⟨q, es, ep, hq, h2, h3, h4, _, h5⟩ := dd';obtain ⟨xs0, e0, _⟩ := id n;have hlp := Xr kvs k v;refine ⟨σ, _, zd3 I3 (by rw [e0]; exact True.intro) hs' ⟨q, hq⟩ (Xw.ok (xs := storedH xs (nK k) b r) ⟨q, es, ep, hq, h2, h3, h4⟩), q3 _ ⟨_, zf, hd, by omega, h5, (rel.put k ik rv).tups n.tups⟩⟩
theorem zjy (h : Heap) : Xw P w h.objs.size [] (h.push { cls := .type "dict", data := .dict #[] }) := ⟨_, #[], 0, ar _ rfl, ⟨rfl, rfl, rfl⟩, rfl, rfl⟩
theorem jx : v9 X (.builtin "len") (zoo X.prog X.w) := by
 intro pins s σ H xs us Q I r h;obtain ⟨d, kvs, rfl, n, q⟩ := h;obtain ⟨u, rfl, rx⟩ := v8 r;cases (show u = Value.ref d from rx);obtain ⟨hd, xs, rel, z, ⟨o, es, ep, ho, hc, hdat, he, _, _⟩⟩ := n.dict I.hok;have hes : es.size = kvs.length := by
  have h1 := size_of_entries he;have h2 := Paired.length rel;omega
 have hT : s.TypeIs (.ref d) "dict" := ⟨o, ho, hc.1⟩
 have h63 : ((kvs.length : Nat) : Int) < 2 ^ 63 := by have := Paired.length rel; rw [sizeLine_eq] at z; omega
 refine Calls.call_function_entry kind_len plain_len entry_len (args_len1 _) ?_;unfold Builtin.«len»;refine a4 (m := oneArg "len" _) (a6 ?_);refine a4 (m := callSpecial? (.ref d) (Str.ofString "__len__")) (wpAny_callSpecial?_slot (name := Str.ofString "__len__") hT PySem.F.slot_dict_len (c0 PySem.F.slot_dict_len hT PySem.F.entry_dict_len ?_ (PySem.F.args_dict_len_1 _)));show wpAny _ _ (dictSize d >>= _) _ _ s;unfold dictSize;refine a4 (a4 (wpAny_dictEntries ho hdat (a6 ?_)));show wpAny _ _ (Builtin.Dict.pendingCount d >>= _) _ _ s;refine a4 (wpAny_pendingCount_other hd (wpAny_ret_mkInt ?_));rw [hes];have e0 : ((kvs.length : Nat) : Int) + ((0 : Nat) : Int) = ((kvs.length : Nat) : Int) := by simp
 rw [e0];refine a4 (wpAny_holding (a6 (a4 (wpAny_letGo ?_))));show wpAny _ _ (if ((kvs.length : Nat) : Int) < 0 then _ else _) _ _ _;rw [if_neg (by omega)];show wpAny _ _ (if ((kvs.length : Nat) : Int) ≥ 2 ^ 63 then _ else _) _ _ _;rw [if_neg (by omega)];exact a4 (wpAny_mkInt (a6 ⟨_, rfl, .int _, H, (I.tok _).tok _, ⟨_, rfl⟩, q⟩))
theorem Vm (hc : X.calm = true) : v9 X (.type "list") (zl0 X.prog X.w) := by
 intro pins s σ H xs us Q I r h;obtain ⟨d, kvs, rfl, n, q⟩ := h;obtain ⟨u, rfl, rx⟩ := v8 r;cases (show u = Value.ref d from rx);obtain ⟨hd, xs, rel, z, ⟨o, es, ep, ho, hcc, hdat, he, _, _⟩⟩ := n.dict I.hok;have hes := size_of_entries he;refine kdl_call (zkk (es := es) (ep := ep) hd) (I.ok.hd hc) ⟨o, ho, hcc, hdat⟩ (by omega) fun h' tk acc' c' hk hD hacc => ?_;have hv : ym (xs.map fun x => V.ref x.2.1) acc'.toList := zc5 (by have h1 := hacc.1; have h2 : acc'.toList.length = acc'.size := Array.length_toList; rw [a7]; omega) fun j x v e1 e2 => by
  obtain ⟨en, h1, h2⟩ := hacc.2 j v (by rw [← Array.getElem?_toList]; exact e2);rw [entry_at he j] at h1;rw [ao] at e1;cases e3 : xs[j]? with
  | none => rw [e3] at e1; cases e1
  | some x' =>
    rw [e3] at e1 h1;cases e1;cases h1;rw [h2];rfl
 have hi := zo1 rel;have hn := I.hok.fresh (a9 s.heap.objs.size);have sm := Same.new hn (.lst (xs.map fun x => V.ref x.2.1));exact ⟨.ref s.heap.objs.size, _, I.laid (t' := tk) (o := .lst (xs.map fun x => V.ref x.2.1)) hk (a9 _) ⟨by rw [a7]; omega, acc'.toList, c', hv, by simpa using hD⟩, rfl, q _ _ _ sm hn zf (hi.mono sm)⟩
theorem Ql {v : Expr} {te : TE} (hu : X.A.units + 3 < cLine) (he : PE X e te) (hv : PE X v tv) : PE X (.Dict [some e] [v] pos) (zi5 X.prog X.w te tv) := by
 intro pins s σ H Q I q;have hn := I.hok.fresh (a9 s.heap.objs.size);have hsm : (s.heap.objs.size == sysModules) = false := beq_eq_false_iff_ne.mpr (ae (aw I.big));have I1 := I.laid (a := s.heap.objs.size) (o := .ext (Xw X.prog X.w s.heap.objs.size [])) (h' := s.heap.push { cls := .type "dict", data := .dict #[] }) (t' := s.toks) (fun _ _ q => a8 _ q) (a9 _) (zjy s.heap).ok;rw [arm_eval_Dict];refine a4 (wpAny_standAt ?_);let vv : Sem Value := do let x ← eval v X.env; standAt pos; pure x
 show wpAny _ _ (dictDisplay ([(eval e X.env, vv)].map fun p => (some p.1, p.2))) _ _ _;rw [dictDisplay_pairs _ (by simp) (by simp)];refine a4 ?_;unfold subDict;refine a4 (wpAny_alloc (a4 (wpAny_holding ?_)));rw [if_pos (by simp)];refine a4 (evalPairs_cons ?_);refine thn (he pins _ σ _ _ I1 (q _ _ hn ⟨[], zf, hsm, bo _, List.nodup_nil, .nil⟩)) fun u s1 ⟨x, H1, I2, rx, q1⟩ => ?_;refine a4 (thn (hv pins s1 σ H1 _ I2 q1) fun u2 s2 ⟨y, H2, I3, ry, b, k, ex, ik, n, qq⟩ => ?_);subst ex;obtain rfl : u = Value.ref b := rx;refine a4 (wpAny_standAt (a6 (evalPairs_nil ?_)));refine wpAny_holding ?_;rw [List.forIn_cons];obtain ⟨hd, xs0, r0, _, ddH⟩ := n.dict I3.hok;cases r0;obtain ⟨xs1, e1, _⟩ := id n;refine a4 (a4 (a4 (wpAny_dictSet_heap (k := nK k) (knd := yy (yk X.prog X.w)) (show X.A.units + 2 < cLine by omega) (qd I3.hok ik) ddH (fun h' dd' hs => a6 ?_) (by rw [List.length_nil]; exact bo _))));dsimp only;rw [List.forIn_nil];refine a6 (a6 (a6 (a6 ?_)));obtain ⟨q', es, ep', hq, h2, h3, h4, _, h5⟩ := dd';refine ⟨.ref s.heap.objs.size, _, zd3 I3 (by rw [e1]; exact True.intro) hs ⟨q', hq⟩ (Xw.ok (xs := storedH [] (nK k) b u2) ⟨q', es, ep', hq, h2, h3, h4⟩), rfl, qq _ ⟨_, zf, hd, by show 1 ≤ sizeLine; decide, h5, ?_⟩⟩;exact (KN.put (kvs := []) (xs := []) .nil k ik ry).tups n.tups
end
end L2
namespace L2
open PySem PySem.Spec PyProof.Rows
variable {a b it t1 t2 : Addr} {A : Around} {a1 a2 its : Array Value} {X : Cx} {h : Heap} {H : Hp} {g x : yz} {ks : List (List Key)} {elts : List Expr} {gs : List yz} {cap : List Nat} {rows : List q8} {xs : List V} {us : List Value} {i : Nat} {Q : Option Value → Shared → Prop} {pos : Pos} {P prog : Program} {K : PySem.W.Frag} {R : Result → Shared → Prop} {s : Shared} {v : Value} {E : Value → Shared → Prop} {w : World}
noncomputable def Jy (xs rows : List q8) : List q8 := rows.foldl (fun acc r => storedH acc r.1 r.2.1 r.2.2) xs
theorem Kn (xs : List q8) (k : List (List Key)) (a : Addr) (v : Value) : (storedH xs k a v).length ≤ xs.length + 1 := by
 unfold storedH;split
 · rw [a7]; omega
 · rw [ba, cm]; exact a9 _
noncomputable def zft (h h' : Heap) : Prop := ∀ c o, o.cls = .type "tuple" → h.get? c = some o → h'.get? c = some o
section
variable {h' : Heap}
theorem NIts.keep (x : NIts (yk prog w) h ks us) (k : zft h h') : NIts (yk prog w) h' ks us := by
 induction x with
 | nil => exact .nil
 | cons h1 _ ih =>
   obtain ⟨o, its, n, ho, hc, r⟩ := h1;exact .cons ⟨o, its, n, k _ _ hc ho, hc, r⟩ ih
theorem Xg (x : (yy (yk prog w)).is h ks a) (k : zft h h') : (yy (yk prog w)).is h' ks a := by
 obtain ⟨o, its, n, ho, hc, hd, hi⟩ := x;exact ⟨o, its, n, k _ _ hc ho, hc, hd, hi.keep k⟩
noncomputable def zd9 (prog : Program) (w : World) (h : Heap) (v : Value) (r : q8) : Prop := ∃ b, v = .ref b ∧ h.IsTuple b #[.ref r.2.1, r.2.2] ∧ (yy (yk prog w)).is h r.1 r.2.1
theorem zd9.keep {r : q8} (p : zd9 prog w h v r) (k : zft h h') : zd9 prog w h' v r := by
 obtain ⟨b, e, ⟨o, ho, hc, n, hd⟩, r'⟩ := p;exact ⟨b, e, ⟨o, k _ _ hc ho, hc, n, hd⟩, Xg r' k⟩
theorem Yw {d : Addr} {xs : List q8} (x : h.DictOfH (yy (yk prog w)) d xs) (kd : ∀ o, h.get? d = some o → h'.get? d = some o) (k : zft h h') : h'.DictOfH (yy (yk prog w)) d xs := by
 obtain ⟨o, es, ep, ho, hc, hdd, he, his, hnd⟩ := x;exact ⟨o, es, ep, kd o ho, hc, hdd, he, fun y hy => Xg (his y hy) k, hnd⟩
theorem zfj {d t : Addr} (hu : A.units + 3 < cLine) (hh : A.handled = none) (hn1 : d ≠ it) (hn2 : t ≠ it) (hn3 : t ≠ d) (hl : its.size = rows.length) (hlz : rows.length ≤ sizeLine) :
  ∀ (k i : Nat) (s : Shared) (xs : List q8), rows.length - i = k → i ≤ rows.length → xs.length ≤ i → s.heap.IsListIter it t i → s.heap.IsList t its → s.heap.DictOfH (yy (yk prog w)) d xs →
    (∀ (j : Nat) v r, its[j]? = some v → rows[j]? = some r → zd9 prog w s.heap v r) →
    (∀ h' tk, h'.DictOfH (yy (yk prog w)) d (Jy xs (rows.drop i)) → (∀ b o, b ≠ d → b ≠ it → s.heap.get? b = some o → h'.get? b = some o) → R (.ok (.ret .none)) { s with heap := h', toks := tk }) →
    codeAny (model prog w) A (.builtin "dict.update.loop" ⟨[.ref d, .ref it, rawInt i, .none], []⟩) R s := by
 intro k;induction k with
 | zero =>
   intro i s xs hk hi hz hit ht hd hp hR;have e : i = rows.length := by omega
   have tk : ∀ h', Heap.ExtBut it s.heap h' → zft s.heap h' := fun h' eb c o hc z => eb c o (fun y => by
    obtain ⟨oi, hoi, hci, _⟩ := hit;rw [y, hoi] at z;cases z;rw [hci] at hc;exact absurd hc (by decide)) z
   refine codeAny_builtin Qx ?_;rw [Around.under_plainId Zg _];show wpAny _ A.in1 (pyNext (.ref it) >>= _) _ _ s;refine a4 (wpAny_pyNext_list_end (show A.in1.handled = none from hh) hit ht (Array.getElem?_eq_none (by omega)) fun h' eb => ?_);show wpAny _ A.in1 (Builtin.Dict.addKeywords d [] >>= _) _ _ _;refine a4 (a6 (a6 ?_));refine hR h' s.toks ?_ fun b o n1 n2 z => eb b o n2 z;rw [e, List.drop_length];exact Yw hd (fun o ho => eb d o hn1 ho) (tk h' eb)
 | succ k ih =>
   intro i s xs hk hi hz hit ht hd hp hR;have hlt : i < rows.length := by omega
   have hx : its[i]? = some its[i] := cp (by omega);have hr : rows[i]? = some rows[i] := ah hlt;have P0 := hp i _ _ hx hr;have notIt : ∀ c o, o.cls = .type "tuple" → s.heap.get? c = some o → c ≠ it := fun c o hc z y => by
    obtain ⟨oi, hoi, hci, _⟩ := hit;rw [y, hoi] at z;cases z;rw [hci] at hc;exact absurd hc (by decide)
   have notD : ∀ c o, o.cls = .type "tuple" → s.heap.get? c = some o → c ≠ d := fun c o hc z y => by
    obtain ⟨oi, es, ep, hoi, hci, _⟩ := hd;rw [y, hoi] at z;cases z;rw [hci.1] at hc;exact absurd hc (by decide)
   refine codeAny_builtin Qx ?_;rw [Around.under_plainId Zg _];show wpAny _ A.in1 (pyNext (.ref it) >>= _) _ _ s;refine a4 (wpAny_pyNext_list_item hit ht hx fun g hit' hs => ?_);have kg : zft s.heap g := fun c o hc z => hs.extBut c o (notIt c o hc z) z;obtain ⟨b, hb, hbt, hkey⟩ := P0.keep kg;have hd' : g.DictOfH (yy (yk prog w)) d xs := Yw hd (fun o ho => hs.extBut d o hn1 ho) kg;rw [hb];show wpAny _ A.in1 (holding [Value.ref b] _ >>= _) _ _ _;refine a4 (wpAny_holding (a4 (wpAny_tryCatch ?_)));unfold Builtin.Dict.pairItems;refine a4 (wpAny_typeOf (T := "tuple") (Heap.IsTuple.typeIs (s := { s with heap := g }) hbt) ?_);rw [if_pos (by rfl)];obtain ⟨ob, hob, _, nb, hdb⟩ := hbt;refine a4 (wpAny_seqItems (s := { s with heap := g }) hob hdb (a6 ?_));show wpAny _ A.in1 (holding [Value.ref rows[i].2.1, rows[i].2.2] (dictSet d (Value.ref rows[i].2.1) rows[i].2.2)) _ _ _;refine wpAny_holding (wpAny_dictSet_heap (knd := yy (yk prog w)) (Qi hu) hkey hd' (fun g2 hd2 hs2 => ?_) (ay (Nat.le_of_lt (df hz hlt)) hlz));refine a6 ⟨plainId_quiet Zg _, ?_⟩;have e1 : rawInt ((i : Int) + 1) = rawInt ((i + 1 : Nat) : Int) := by simp
   have keep : ∀ c o, c ≠ d → c ≠ it → s.heap.get? c = some o → g2.get? c = some o := fun c o n1 n2 z => hs2.extBut c o n1 (hs.extBut c o n2 z);show codeAny (model prog w) A (.builtin "dict.update.loop" ⟨[.ref d, .ref it, rawInt ((i : Int) + 1), .none], []⟩) R _;rw [e1];have lz := Kn xs rows[i].1 rows[i].2.1 rows[i].2.2;refine ih (i + 1) _ _ (by omega) hlt (by omega) (hit'.extBut hs2.extBut (ae hn1)) (ht.extBut hs.extBut hn2 |>.extBut hs2.extBut hn3) hd2 (fun j v r hv hr' => (hp j v r hv hr').keep fun c o hc z => keep c o (notD c o hc z) (notIt c o hc z) z) fun h' tk hD hk' => ?_;refine hR h' tk ?_ fun c o n1 n2 z => hk' c o n1 n2 (keep c o n1 n2 z);have e2 : rows.drop i = rows[i] :: rows.drop (i + 1) := List.drop_eq_getElem_cons hlt;rw [e2];exact hD
end
noncomputable def zbi (H : Hp) (b : Addr) (r : yz × V) : Prop := ∃ kb, H b = some (.tup [.ref kb, r.2]) ∧ Is H (tN r.1) (.ref kb)
theorem zbi.same {H' : Hp} {r : yz × V} (p : zbi H b r) (s : Same H H') : zbi H' b r := let ⟨kb, h1, h2⟩ := p; ⟨kb, s _ _ h1, h2.mono s⟩
noncomputable def ku (rows : List (yz × V)) (kvs : List (yz × V)) : List (yz × V) := rows.foldl (fun acc r => Zv acc r.1 r.2) kvs
noncomputable def zl1 (P : Program) (w : World) : List V → Hp → VK → Prop := fun as H Q => ∃ (p : Addr) (bs : List Addr) (rows : List (yz × V)), as = [.ref p] ∧ H p = some (.lst (bs.map V.ref)) ∧ Paired (zbi H) bs rows ∧
 ∀ d H', Same H H' → H d = none → NAt P w H' d (ku rows []) → Q (.ref d) H'
theorem zk4 {X : Cx} {pins : List (Addr × Obj)} {σ : St} {H : Hp} {s : Shared} (I : Inv X pins σ H s) : ∀ {bs : List Addr} {rows : List (yz × V)}, Paired (zbi H) bs rows → ∃ rh : List q8, rh.length = bs.length ∧ KN H rows rh ∧
  ∀ (j : Nat) b q, bs[j]? = some b → rh[j]? = some q → s.heap.IsTuple b #[.ref q.2.1, q.2.2] ∧ (yy (yk X.prog X.w)).is s.heap q.1 q.2.1
 | _, _, .nil => ⟨[], rfl, .nil, fun j b q hb => by simp at hb⟩
 | b :: bs, r :: rows, .cons h t => by
   obtain ⟨rh, hl, hp, hr⟩ := zk4 I t;obtain ⟨kb, hb, hk⟩ := h;obtain ⟨_, its, rv, ht, _⟩ := (show xk X.prog X.w H s.heap b (.tup [.ref kb, r.2]) from I.hok b _ hb)
   cases rv with
   | @cons _ kq _ _ r1 r2 =>
     cases r2 with
     | @cons _ vq _ _ r3 r4 =>
       cases r4;cases (show kq = Value.ref kb from r1);refine ⟨(nK r.1, kb, vq) :: rh, by simp [hl], .cons ⟨rfl, hk, r3⟩ hp, fun j b' q e1 e2 => ?_⟩;cases j with
       | zero =>
         simp at e1 e2;subst e1 e2;exact ⟨ht, qd I.hok hk⟩
       | succ j => exact hr j b' q (by simpa using e1) (by simpa using e2)
theorem zaz {H : Hp} : ∀ {rows : List (yz × V)} {rh : List q8} {kvs : List (yz × V)} {xs : List q8}, KN H rows rh → KN H kvs xs → KN H (ku rows kvs) (Jy xs rh) ∧ (ku rows kvs).length ≤ kvs.length + rows.length
 | _, _, kvs, _, .nil, r => ⟨r, a9 _⟩
 | r :: rows, q :: rh, kvs, xs, .cons h t, rel => by
   obtain ⟨h1, h2, h3⟩ := h;have rel2 := rel.put r.1 h2 h3;rw [h1] at rel2;obtain ⟨a, b⟩ := zaz t rel2;refine ⟨a, ?_⟩;have := Xr kvs r.1 r.2;have b : (ku (r :: rows) kvs).length ≤ (Zv kvs r.1 r.2).length + rows.length := b;rw [ck];omega
section
theorem zc0 (hc : X.calm = true) (hu : X.A.units + 8 < cLine) : v9 X (.type "dict") (zl1 X.prog X.w) := by
 intro pins s σ H as us Q I r h;obtain ⟨p, bs, rows, rfl, hp, hbs, q⟩ := h;obtain ⟨u, rfl, rx⟩ := v8 r;cases (show u = Value.ref p from rx);obtain ⟨hz, its, n, rv, h1⟩ := (show xk X.prog X.w H s.heap p (.lst (bs.map V.ref)) from I.hok p _ hp)
 have hh : X.A.handled = none := I.ok.hd hc;obtain ⟨rh, hrl, hrp, hrows⟩ := zk4 I hbs;have hitsl : its.length = bs.length := by have := rv.length; rw [a7] at this; omega
 have hzb : bs.length ≤ sizeLine := by rw [a7] at hz; exact hz
 refine callType_codes (Q₁ := fun obj s₁ => obj = .ref s.heap.objs.size ∧ s₁ = { s with heap := s.heap.push { cls := .type "dict", data := .dict #[] } }) PySem.F.kt_called_dict (PySem.F.kt_typeCall_dict_1 _) PySem.F.entry_dict_init (kt_code_dict_new _ ⟨rfl, rfl⟩) ?_;rintro obj s₁ ⟨rfl, rfl⟩;have hnew : (s.heap.push { cls := .type "dict", data := .dict #[] }).DictOfH (yy (yk X.prog X.w)) s.heap.objs.size [] := Heap.DictOfH.new s.heap;have hTn : ({ s with heap := s.heap.push { cls := .type "dict", data := .dict #[] } } : Shared).TypeIs (.ref s.heap.objs.size) "dict" := hnew.typeIs (s := { s with heap := s.heap.push { cls := .type "dict", data := .dict #[] } });have h1' : (s.heap.push { cls := .type "dict", data := .dict #[] }).get? p = some { cls := .type "list", dict := none, data := .seq its.toArray n, slots := #[] } := a8 _ h1;have hlt : p < s.heap.objs.size := ac h1;refine ⟨hTn, PySem.F.args_dict_init_2 _ _, ?_⟩;unfold Builtin.«dict.__init__»;refine a4 ?_;unfold Builtin.Dict.selfAndRest;refine a4 (wpAny_notOrdered_dict hTn (show wpAny _ _ (pure (s.heap.objs.size, [Value.ref p])) _ _ _ from a6 ?_));show wpAny _ _ (Builtin.Dict.updateFrom "dict.__init__" s.heap.objs.size (.ref p) [] .none) _ _ _;unfold Builtin.Dict.updateFrom;refine a4 (wpAny_typeOf (T := "list") ⟨_, h1', rfl⟩ ?_);rw [if_pos (by decide)];refine a4 (zco (s := { s with heap := s.heap.push { cls := .type "dict", data := .dict #[] } }) h1' hh fun g tk hk => ?_);simp only [Option.isNone_none, if_true];refine a4 (wpAny_rule ?_);have hta : g.IsList p its.toArray := ⟨_, hk _ _ h1', rfl, n, rfl⟩
 refine a4 (wpAny_pyIter_list (s := { s with heap := g, toks := tk }) hta (a6 ⟨plainId_quiet Zg _, ?_⟩));have gsz : s.heap.objs.size + 1 ≤ g.objs.size := by
  obtain ⟨o, es, ep, ho, _⟩ := hnew;exact ac (hk _ _ ho)
 have hgd : (g.push { cls := .type "list_iterator", data := .fields #[.ref p, .int 0 0] }).DictOfH (yy (yk X.prog X.w)) s.heap.objs.size [] := by
  obtain ⟨o, es, ep, ho, a1, a2, a3, _, a5⟩ := hnew;exact ⟨o, es, ep, a8 _ (hk _ _ ho), a1, a2, a3, (fun x hx => by cases hx), a5⟩
 have up : ∀ b o, s.heap.get? b = some o → (g.push { cls := .type "list_iterator", data := .fields #[.ref p, .int 0 0] }).get? b = some o := fun b o e => a8 _ (hk _ _ (a8 _ e));refine zfj (A := X.A.in1) (rows := rh) (its := its.toArray) (t := p) (by have : X.A.in1.units = X.A.units + 1 := rfl; omega) hh (aw (Nat.lt_of_succ_le gsz)) (aw (Nat.lt_trans hlt (Nat.lt_of_succ_le gsz))) (aw hlt) (by rw [ax]; omega) (by omega) rh.length 0 _ [] (by omega) (bo _) (a9 _)
  ⟨_, ar _ rfl, rfl, rfl⟩ (hta.push _) hgd (fun j v r hv hr => ?_) fun h' tk' hD hK => ?_
 · have hv : its[j]? = some v := by simpa using hv
   have hj : j < bs.length := by
    have := (bh.mp hv).1;omega
   obtain ⟨u, hu', ru⟩ := rv.get (i := j) (x := V.ref bs[j]) (by rw [ao, ah hj]; rfl);rw [hu'] at hv;cases hv;cases (show v = Value.ref bs[j] from ru);obtain ⟨⟨ob, hob, rr⟩, hk'⟩ := hrows j bs[j] r (ah hj) hr;exact ⟨bs[j], rfl, ⟨ob, up _ _ hob, rr⟩, Xg hk' fun c o _ e => up c o e⟩
 · refine ⟨rfl, ?_⟩;have keep : ∀ b o, s.heap.get? b = some o → h'.get? b = some o := fun b o e => hK b o (aw (ac e)) (aw (Nat.lt_trans (ac e) (Nat.lt_of_succ_le gsz))) (up b o e);obtain ⟨rel, hlen⟩ := zaz (kvs := []) (xs := []) hrp .nil;have hpl := Paired.length hrp;have hnone := I.hok.fresh (a9 s.heap.objs.size);have zz : (s.heap.objs.size == sysModules) = false := beq_eq_false_iff_ne.mpr (ae (aw I.big));obtain ⟨o, es, ep, ho, a1, a2, a3, _, a5⟩ := hD;rw [List.drop_zero] at a3 a5;have sm := Same.new hnone (.ext (Xw X.prog X.w s.heap.objs.size (Jy [] rh)));have hz0 : (ku rows []).length ≤ sizeLine := by
    have : ([] : List (yz × V)).length = 0 := rfl;omega
   exact ⟨.ref s.heap.objs.size, _, I.laid (a := s.heap.objs.size) (t' := tk') keep (a9 _) (Xw.ok (xs := Jy [] rh) ⟨o, es, ep, ho, a1, a2, a3⟩), rfl, q _ _ sm hnone ⟨_, zf, zz, hz0, a5, Paired.mapP rel fun _ _ z => ⟨z.1, z.2.1.mono sm, z.2.2⟩⟩⟩
end
section
theorem Vz {t : Addr} (hit : s.heap.IsListIter it t i) (ht : s.heap.IsList t its) (hv : its[i]? = some v)
  (k : ∀ g, g.IsListIter it t (i + 1) → Heap.SameBut it s.heap g → Q (some v) { s with heap := g }) : wpAny (model prog w) A (Builtin.SmallTypes.nextOrEnd (.ref it)) Q E s := by
 unfold Builtin.SmallTypes.nextOrEnd;exact a4 (wpAny_attempt (wpAny_nextOf_list_item hit ht hv fun g h1 h2 => a6 (k g h1 h2)))
theorem Xf {t : Addr} (hh : A.handled = none) (hit : s.heap.IsListIter it t i) (ht : s.heap.IsList t its) (hv : its[i]? = none)
  (k : ∀ g, Heap.ExtBut it s.heap g → Q none { s with heap := g }) : wpAny (model prog w) A (Builtin.SmallTypes.nextOrEnd (.ref it)) Q E s := by
 unfold Builtin.SmallTypes.nextOrEnd;refine a4 (wpAny_attempt (wpAny_nextOf_list_end hh hit ht hv fun g x hx ⟨o, ho, hc⟩ => ?_));exact a4 (cn (T := "StopIteration") (b := true) ⟨o, ho, hc⟩ isSubtype_stop (a6 (k _ hx)))
theorem zeb {z ti to it1 it2 : Addr} {v1 v2 a b : Value} (hz : xc s.heap z ti to .none) (hti : kf s.heap ti it1 it2) (hto : s.heap.get? to = some { cls := .type "tuple", data := .seq #[a, b] })
  (hi1 : s.heap.IsTupleIter it1 t1 i) (hi2 : s.heap.IsListIter it2 t2 i)
  (h1 : s.heap.IsTuple t1 a1) (h2 : s.heap.IsList t2 a2) (e1 : a1[i]? = some v1) (e2 : a2[i]? = some v2) (nd : [z, ti, to, it1, it2].Nodup) (nt : t1 ∉ [z, to, it1, it2] ∧ t2 ∉ [z, to, it1, it2])
  (k : ∀ g, xc g z ti to (rawInt s.heap.objs.size) → kf g ti it1 it2 → g.get? to = some { cls := .type "tuple", data := .seq #[v1, v2] } → g.IsTupleIter it1 t1 (i + 1) → g.IsListIter it2 t2 (i + 1) →
   g.get? s.heap.objs.size = some { cls := .type "tuple", data := .seq #[v1, v2] } → g.objs.size = s.heap.objs.size + 1 → (∀ c o, c ≠ z → c ≠ to → c ≠ it1 → c ≠ it2 → s.heap.get? c = some o → g.get? c = some o) → Q (some (.ref s.heap.objs.size)) { s with heap := g }) :
  wpAny (model prog w) A (pyNext (.ref z)) Q E s := by
 have hT : s.TypeIs (.ref z) "zip" := ⟨_, hz, rfl⟩
 simp only [c7, aa, aj, or_false, not_or, not_false_eq_true, List.nodup_nil, and_true] at nd;simp only [aa, aj, or_false, not_or] at nt;obtain ⟨⟨n1, n2, n3, n4⟩, ⟨n5, n6, n7⟩, ⟨n8, n9⟩, n10⟩ := nd;obtain ⟨⟨m1, m2, m3, m4⟩, m5, m6, m7, m8⟩ := nt;unfold pyNext;refine a4 (wpAny_attempt (wpAny_callSpecial?_slot (name := Str.ofString "__next__") hT PySem.F.slot_zip_next (c0 PySem.F.slot_zip_next hT PySem.F.entry_zip_next ?_ (PySem.F.args_zip_next_1 _))));obtain ⟨hp, gs, d, tk, os⟩ := s;show wpAny _ _ (field (.ref z) 2 >>= _) _ _ _;refine a4 (wpAny_field hz rfl (x := .bool true) rfl ?_);show wpAny _ _ (field (.ref z) 3 >>= _) _ _ _;refine a4 (wpAny_field hz rfl (x := .ref ti) rfl ?_);refine a4 (wpAny_seqItems hti rfl ?_);dsimp only;refine a4 ?_;unfold Builtin.SmallTypes.ownedTupleIsFree;refine a4 (wpAny_field hz rfl (x := .none) rfl (a6 ?_));simp only [if_true];refine a4 (wpAny_rule (a4 (wpAny_field hz rfl (x := .ref to) rfl ?_)));dsimp only;refine a4 (wpAny_setField_rec hz (by simp) fun g1 hz1 hs1 => ?_);replace hs1 : Heap.SameBut z hp g1 := hs1;replace hz1 : xc g1 z ti to .ellipsis := hz1;refine a4 ?_;have hto1 : g1.get? to = some { cls := .type "tuple", data := .seq #[a, b] } := hs1.extBut _ _ (ae n2) hto;have hi11 : g1.IsTupleIter it1 t1 i := hi1.extBut hs1.extBut (ae n3);have hi21 : g1.IsListIter it2 t2 i := hi2.extBut hs1.extBut (ae n4);have h11 : g1.IsTuple t1 a1 := h1.extBut hs1.extBut m1;have h21 : g1.IsList t2 a2 := h2.extBut hs1.extBut m5;rw [show ([Value.ref it1, Value.ref it2] : List Value).zipIdx = [(Value.ref it1, 0), (Value.ref it2, 1)] from rfl, List.forIn_cons];refine a4 (a4 (wpAny_onRaise ?_));show wpAny _ _ (Builtin.SmallTypes.nextOrEnd (.ref it1)) _ _ ⟨g1, gs, d, tk, os⟩;refine jo hi11 h11 e1 fun g2 hi12 hs2 => ?_;replace hs2 : Heap.SameBut it1 g1 g2 := hs2;dsimp only;have hto2 : g2.get? to = some { cls := .type "tuple", data := .seq #[a, b] } := hs2.extBut _ _ n8 hto1;refine a4 (wpAny_seqItems (s := ⟨g2, gs, d, tk, os⟩) hto2 rfl ?_);dsimp only;refine a4 (wpAny_updateSeq_pair (s := ⟨g2, gs, d, tk, os⟩) hto2 fun g3 hto3 hs3 => ?_);replace hs3 : Heap.SameBut to g2 g3 := hs3;replace hto3 : g3.get? to = some { cls := .type "tuple", data := .seq #[v1, b] } := hto3;refine a4 (wpAny_letGo (a6 ?_));dsimp only;rw [List.forIn_cons];refine a4 (a4 (wpAny_onRaise ?_));show wpAny _ _ (Builtin.SmallTypes.nextOrEnd (.ref it2)) _ _ ⟨g3, gs, d, tk, os⟩;have hi23 : g3.IsListIter it2 t2 i := (hi21.extBut hs2.extBut (ae n10)).extBut hs3.extBut (ae n9);have h23 : g3.IsList t2 a2 := (h21.extBut hs2.extBut m7).extBut hs3.extBut m6;refine Vz hi23 h23 e2 fun g4 hi24 hs4 => ?_;replace hs4 : Heap.SameBut it2 g3 g4 := hs4;dsimp only;have hto4 : g4.get? to = some { cls := .type "tuple", data := .seq #[v1, b] } := hs4.extBut _ _ n9 hto3;refine a4 (wpAny_seqItems (s := ⟨g4, gs, d, tk, os⟩) hto4 rfl ?_);dsimp only;refine a4 (wpAny_updateSeq_pair (s := ⟨g4, gs, d, tk, os⟩) hto4 fun g5 hto5 hs5 => ?_);replace hs5 : Heap.SameBut to g4 g5 := hs5;replace hto5 : g5.get? to = some { cls := .type "tuple", data := .seq #[v1, v2] } := hto5;refine a4 (wpAny_letGo (a6 ?_));dsimp only;rw [List.forIn_nil];refine a6 ?_;dsimp only;refine a4 (wpAny_seqItems (s := ⟨g5, gs, d, tk, os⟩) hto5 rfl ?_);dsimp only;refine a4 (wpAny_newTuple (s := ⟨g5, gs, d, tk, os⟩) ?_);have hz5 : xc g5 z ti to .ellipsis := hs5.extBut _ _ n2 (hs4.extBut _ _ n4 (hs3.extBut _ _ n2 (hs2.extBut _ _ n3 hz1)));have sz5 : g5.objs.size = hp.objs.size := by rw [hs5.1, hs4.1, hs3.1, hs2.1, hs1.1]
 have keep5 : ∀ c o, c ≠ z → c ≠ to → c ≠ it1 → c ≠ it2 → hp.get? c = some o → g5.get? c = some o := fun c o q1 q2 q3 q4 e => hs5.extBut c o q2 (hs4.extBut c o q4 (hs3.extBut c o q2 (hs2.extBut c o q3 (hs1.extBut c o q1 e))));have hi15 : g5.IsTupleIter it1 t1 (i + 1) := ((hi12.extBut hs3.extBut (ae n8)).extBut hs4.extBut n10).extBut hs5.extBut (ae n8);have hi25 : g5.IsListIter it2 t2 (i + 1) := hi24.extBut hs5.extBut (ae n9);have hzl : z < hp.objs.size := ac hz;dsimp only;rw [sz5];have hz6 : xc (g5.push { cls := .type "tuple", data := .seq [v1, v2].toArray }) z ti to .ellipsis := a8 _ hz5;have hT6 : (g5.push { cls := .type "tuple", data := .seq [v1, v2].toArray }).get? hp.objs.size = some { cls := .type "tuple", data := .seq #[v1, v2] } := by rw [← sz5]; exact ar _ rfl
 have keep6 : ∀ c o, g5.get? c = some o → (g5.push { cls := .type "tuple", data := .seq [v1, v2].toArray }).get? c = some o := fun c o e => a8 _ e;have sz6 : (g5.push { cls := .type "tuple", data := .seq [v1, v2].toArray }).objs.size = hp.objs.size + 1 := by rw [cy, sz5]
 show wpAny _ _ (Builtin.SmallTypes.ownedTupleHandOut (.ref z) (.ref hp.objs.size) >>= _) _ _ ⟨g5.push { cls := .type "tuple", data := .seq [v1, v2].toArray }, gs, d, tk, os⟩;generalize g5.push { cls := .type "tuple", data := .seq [v1, v2].toArray } = g6 at hz6 hT6 keep6 sz6 ⊢;refine a4 ?_;unfold Builtin.SmallTypes.ownedTupleHandOut;refine a4 (wpAny_setField_rec hz6 (by simp) fun g7 hz7 hs7 => ?_);replace hs7 : Heap.SameBut z g6 g7 := hs7;replace hz7 : xc g7 z ti to (rawInt hp.objs.size) := hz7;refine wpAny_setField_rec hz7 (by simp) fun g8 hz8 hs8 => ?_;replace hs8 : Heap.SameBut z g7 g8 := hs8;replace hz8 : xc g8 z ti to (rawInt hp.objs.size) := hz8;have up : ∀ c o, c ≠ z → g5.get? c = some o → g8.get? c = some o := fun c o q e => hs8.extBut c o q (hs7.extBut c o q (keep6 c o e));refine a6 ⟨_, rfl, a6 (k g8 hz8 ?_ (up _ _ (ae n2) hto5) ?_ ?_ ?_ ?_ fun c o q1 q2 q3 q4 e => up c o q1 (keep5 c o q1 q2 q3 q4 e))⟩
 · exact up _ _ (ae n1) (keep5 _ _ (ae n1) n5 n6 n7 hti)
 · obtain ⟨o, e, r⟩ := hi15;exact ⟨o, up _ _ (ae n3) e, r⟩
 · obtain ⟨o, e, r⟩ := hi25;exact ⟨o, up _ _ (ae n4) e, r⟩
 · exact hs8.extBut _ _ (ce hzl) (hs7.extBut _ _ (ce hzl) hT6)
 · rw [hs8.1, hs7.1, sz6]
theorem zfw {z ti to it1 it2 : Addr} {a b : Value} (hh : A.handled = none) (hz : xc s.heap z ti to .none) (hti : kf s.heap ti it1 it2) (hto : s.heap.get? to = some { cls := .type "tuple", data := .seq #[a, b] })
  (hi1 : s.heap.IsTupleIter it1 t1 i) (hi2 : s.heap.IsListIter it2 t2 i)
  (h1 : s.heap.IsTuple t1 a1) (h2 : s.heap.IsList t2 a2) (e1 : a1[i]? = none) (e2 : a2[i]? = none) (nd : [z, ti, to, it1, it2].Nodup) (nt : t1 ∉ [z, to, it1, it2] ∧ t2 ∉ [z, to, it1, it2])
  (k : ∀ g, (∀ c o, c ≠ z → c ≠ it1 → c ≠ it2 → s.heap.get? c = some o → g.get? c = some o) → Q none { s with heap := g }) :
  wpAny (model prog w) A (pyNext (.ref z)) Q E s := by
 have hT : s.TypeIs (.ref z) "zip" := ⟨_, hz, rfl⟩
 simp only [c7, aa, aj, or_false, not_or, not_false_eq_true, List.nodup_nil, and_true] at nd;simp only [aa, aj, or_false, not_or] at nt;obtain ⟨⟨n1, n2, n3, n4⟩, ⟨n5, n6, n7⟩, ⟨n8, n9⟩, n10⟩ := nd;obtain ⟨⟨m1, m2, m3, m4⟩, m5, m6, m7, m8⟩ := nt;unfold pyNext;refine a4 (wpAny_attempt (wpAny_callSpecial?_slot (name := Str.ofString "__next__") hT PySem.F.slot_zip_next (c0 PySem.F.slot_zip_next hT PySem.F.entry_zip_next ?_ (PySem.F.args_zip_next_1 _))));obtain ⟨hp, gs, d, tk, os⟩ := s;show wpAny _ _ (field (.ref z) 2 >>= _) _ _ _;refine a4 (wpAny_field hz rfl (x := .bool true) rfl ?_);show wpAny _ _ (field (.ref z) 3 >>= _) _ _ _;refine a4 (wpAny_field hz rfl (x := .ref ti) rfl ?_);refine a4 (wpAny_seqItems hti rfl ?_);dsimp only;refine a4 ?_;unfold Builtin.SmallTypes.ownedTupleIsFree;refine a4 (wpAny_field hz rfl (x := .none) rfl (a6 ?_));simp only [if_true];refine a4 (wpAny_rule (a4 (wpAny_field hz rfl (x := .ref to) rfl ?_)));dsimp only;refine a4 (wpAny_setField_rec hz (by simp) fun g1 hz1 hs1 => ?_);replace hs1 : Heap.SameBut z hp g1 := hs1;replace hz1 : xc g1 z ti to .ellipsis := hz1;refine a4 ?_;have hi11 : g1.IsTupleIter it1 t1 i := hi1.extBut hs1.extBut (ae n3);have hi21 : g1.IsListIter it2 t2 i := hi2.extBut hs1.extBut (ae n4);have h11 : g1.IsTuple t1 a1 := h1.extBut hs1.extBut m1;have h21 : g1.IsList t2 a2 := h2.extBut hs1.extBut m5;rw [show ([Value.ref it1, Value.ref it2] : List Value).zipIdx = [(Value.ref it1, 0), (Value.ref it2, 1)] from rfl, List.forIn_cons];refine a4 (a4 (wpAny_onRaise ?_));show wpAny _ _ (Builtin.SmallTypes.nextOrEnd (.ref it1)) _ _ ⟨g1, gs, d, tk, os⟩;refine qb hh hi11 h11 e1 fun g2 hs2 => ?_;replace hs2 : Heap.ExtBut it1 g1 g2 := hs2;dsimp only;have hz2 : xc g2 z ti to .ellipsis := hs2 _ _ n3 hz1;refine a4 (wpAny_setField_rec (s := ⟨g2, gs, d, tk, os⟩) hz2 (by simp) fun g3 hz3 hs3 => ?_);replace hs3 : Heap.SameBut z g2 g3 := hs3;have hi23 : g3.IsListIter it2 t2 i := (hi21.extBut hs2 (ae n10)).extBut hs3.extBut (ae n4);have h23 : g3.IsList t2 a2 := (h21.extBut hs2 m7).extBut hs3.extBut m5;refine a4 ?_;show wpAny _ _ (forIn [(Value.ref it2, 1)] PUnit.unit _ >>= _) _ _ _;refine a4 ?_;rw [List.forIn_cons];refine a4 ?_;dsimp only;refine a4 (Xf hh hi23 h23 e2 fun g4 hs4 => ?_);replace hs4 : Heap.ExtBut it2 g3 g4 := hs4;simp only [Option.isSome_none, Bool.false_eq_true, if_false];refine a6 ?_;dsimp only;rw [List.forIn_nil];refine a6 (a4 (wpAny_rule ?_));have keep4 : ∀ c o, c ≠ z → c ≠ it1 → c ≠ it2 → hp.get? c = some o → g4.get? c = some o := fun c o q1 q2 q3 e => hs4 c o q3 (hs3.extBut c o q1 (hs2 c o q2 (hs1.extBut c o q1 e)));unfold Builtin.SmallTypes.stopIteration;show wpAny _ _ (newExc (.type "StopIteration") [] >>= _) _ _ _;refine a4 ?_;simp only [newExc, newTuple];refine a4 (ca ?_ (by size_fits));refine a4 (m := firstArgMember _ _) (wpAny_of_eq (a := Value.none) (by first | rfl | (simp only [firstArgMember]; rfl)) ?_);refine ca ?_ (by size_fits);simp only [raiseNew];refine a4 (wpAny_handled ?_);first | rw [show A.in1.handled = none from hh] | rw [hh]
 refine a4 (a6 (wpAny_throw ?_));exact a4 (cn (T := "StopIteration") (b := true) ⟨_, ar _ rfl, rfl⟩ isSubtype_stop (a6 (k _ fun c o q1 q2 q3 e => a8 _ (a8 _ (keep4 c o q1 q2 q3 e)))))
end
theorem zhl (ok : HOk P w H h) (e : H a = some (.lst xs)) : ∃ its : List Value, ym xs its ∧ h.IsList a its.toArray := by
 obtain ⟨_, its, n, r, t⟩ := (show xk P w H h a (.lst xs) from ok a _ e)
 exact ⟨its, r, _, t, rfl, n, rfl⟩
noncomputable def zm6 (a b : Addr) : It :=
 ⟨fun i H => ∃ xs ys x y, H a = some (.tup xs) ∧ H b = some (.lst ys) ∧ xs[i]? = some x ∧ ys[i]? = some y,
  fun i H v H' => ∃ p x y, v = .ref p ∧ H p = none ∧ H' = upd H p (.tup [x, y]) ∧ (∀ xs, H a = some (.tup xs) → xs[i]? = some x) ∧ ∀ ys, H b = some (.lst ys) → ys[i]? = some y,
  fun i H => ∃ xs ys, H a = some (.tup xs) ∧ H b = some (.lst ys) ∧ xs.length ≤ i ∧ ys.length ≤ i⟩
theorem zed {k1} (a b z ti to it1 it2 : Addr) (nd : [z, ti, to, it1, it2].Nodup) (hb : sizeLine ≥ 2) :
  Turn P w K (.Tuple elts k1 pos) (zm6 a b) [z, ti, to, it1, it2] z (fun i h => xc h z ti to .none ∧ kf h ti it1 it2 ∧ (∃ u v, h.get? to = some { cls := .type "tuple", data := .seq #[u, v] }) ∧ h.IsTupleIter it1 a i ∧ h.IsListIter it2 b i) where
 mem := by simp
 obj := fun i h st c hc => by
  obtain ⟨hz, hti, ⟨u, v, hto⟩, h1, h2⟩ := st;simp only [aa, aj, or_false] at hc;rcases hc with rfl | rfl | rfl | rfl | rfl
  · exact ⟨_, hz, fun v q => by
     have q' : Data.fields _ = Data.cell v := q;cases q'⟩
  · exact ⟨_, hti, fun v q => by
     have q' : Data.seq _ _ = Data.cell v := q;cases q'⟩
  · exact ⟨_, hto, fun v q => by
     have q' : Data.seq _ _ = Data.cell v := q;cases q'⟩
  · obtain ⟨o, e1, c, d⟩ := h1;exact ⟨o, e1, fun v q => by rw [d] at q; cases q⟩
  · obtain ⟨o, e1, c, d⟩ := h2;exact ⟨o, e1, fun v q => by rw [d] at q; cases q⟩
 keep := fun i h h' st k => by
  obtain ⟨hz, hti, ⟨u, v, hto⟩, ⟨o1, e1, r1⟩, o2, e2, r2⟩ := st;exact ⟨k z (by simp) _ hz, k ti (by simp) _ hti, ⟨u, v, k to (by simp) _ hto⟩, ⟨o1, k it1 (by simp) o1 e1, r1⟩, o2, k it2 (by simp) o2 e2, r2⟩
 item := by
  intro X hP hw hK hc i pins s σ H E I hf st hg;subst hP hw hK;obtain ⟨xs, ys, x, y, hxs, hys, hx, hy⟩ := hg;obtain ⟨its, rv, p⟩ := Z9 I.hok hxs;obtain ⟨jts, rw', q⟩ := zhl I.hok hys;obtain ⟨u, hu, ru⟩ := rv.get hx;obtain ⟨v, hv, rvv⟩ := rw'.get hy;obtain ⟨hz, hti, ⟨u0, v0, hto⟩, hi1, hi2⟩ := st;have ff : ∀ c ∈ [z, ti, to, it1, it2], H c = none := fun c hc => (hf c hc).1;have ne : ∀ {c d : Addr} {o : HO}, H c = some o → d ∈ [z, ti, to, it1, it2] → c ≠ d := fun {c d o} e hd q => by rw [q, ff d hd] at e; cases e
  refine zeb hz hti hto hi1 hi2 p q (v1 := u) (v2 := v) (by simpa using hu) (by simpa using hv) nd ⟨fun m => ?_, fun m => ?_⟩ fun g gz gti gto gi1 gi2 gT gsz gk => ?_
  · simp only [aa, aj, or_false] at m;rcases m with m | m | m | m <;> exact ne hxs (by simp) m
  · simp only [aa, aj, or_false] at m;rcases m with m | m | m | m <;> exact ne hys (by simp) m
  refine ⟨.ref s.heap.objs.size, rfl, Qq gz fun g' gz' gs' => ?_⟩;replace gs' : Heap.SameBut z g g' := gs';have hfr : H s.heap.objs.size = none := I.hok.fresh (a9 _);have hin : ∀ c ∈ [z, ti, to, it1, it2], c < s.heap.objs.size := fun c hc => by
   simp only [aa, aj, or_false] at hc;rcases hc with rfl | rfl | rfl | rfl | rfl
   · exact ac hz
   · exact ac hti
   · exact ac hto
   · obtain ⟨o, e, _⟩ := hi1; exact ac e
   · obtain ⟨o, e, _⟩ := hi2; exact ac e
  have hTn : ∀ c ∈ [z, ti, to, it1, it2], s.heap.objs.size ≠ c := fun c hc => ce (hin c hc);have hk' : ∀ c o, c ∉ [z, to, it1, it2] → s.heap.get? c = some o → g'.get? c = some o := fun c o n e => by
   simp only [aa, aj, or_false, not_or] at n;exact gs'.extBut c o n.1 (gk c o n.1 n.2.1 n.2.2.1 n.2.2.2 e)
  have hT' : g'.get? s.heap.objs.size = some { cls := .type "tuple", data := .seq #[u, v] } := gs'.extBut _ _ (hTn z (by simp)) gT;have old1 : ∀ c o, H c = some o → c ∉ [z, to, it1, it2] := fun c o e m => ne e (show c ∈ [z, ti, to, it1, it2] by
   simp only [aa, aj, or_false] at m ⊢;rcases m with m | m | m | m <;> simp [m]) rfl
  have I1 : Inv X pins σ (upd H s.heap.objs.size (.tup [x, y])) { s with heap := g', toks := s.toks } := by
   refine I.step (g' := s.gens) (d' := s.drawn) (ch := [z, to, it1, it2]) (fun c hc => ?_) (fun c o n1 n2 n3 e _ => hk' c o n3 e)
    (fun c o n1 n2 n3 e _ => ⟨o.slots, hk' c o n3 e⟩) (fun c o n3 e n => ?_) (fun c o n3 e => ⟨o, hk' c o n3 e⟩)
    (fun c zs e => by rw [zk (zm e hfr)]; exact e) (fun c o zs e => by rw [zk (zm e hfr)]; exact e) (fun c ps e => ⟨#[], by rw [zk (zm e hfr), e]; simp⟩) (fun m hm => ?_) (fun c ob e => ?_) I.bare
   · obtain ⟨f0, f1, f2, f3, f4, f5⟩ := hf c (by
      simp only [aa, aj, or_false] at hc ⊢;rcases hc with hc | hc | hc | hc <;> simp [hc])
     exact ⟨f3, f1, f4, f5⟩
   · rw [zk (aw (ac e))]; exact n
   · obtain ⟨o, es, ep, hoo, r⟩ := hm;refine ⟨o, es, ep, hk' _ o (fun m => ?_) hoo, r⟩;simp only [aa, aj, or_false] at m;rcases m with m | m | m | m
     · exact (hf z (by simp)).2.1 m.symm
     · exact (hf to (by simp)).2.1 m.symm
     · exact (hf it1 (by simp)).2.1 m.symm
     · exact (hf it2 (by simp)).2.1 m.symm
   · by_cases hcb : c = s.heap.objs.size
     · subst hcb;rw [zf] at e;cases e;exact ⟨by show 2 ≤ sizeLine; omega, [u, v], .cons ru (.cons rvv .nil), ⟨_, hT', rfl, _, rfl⟩, fun q hq => by
        have hq : g'.get? s.heap.objs.size = some q := hq;rw [hT'] at hq;cases hq;rfl⟩
     · rw [zk hcb] at e;refine (I.hok c ob e).stay (fun d o hc q => ?_) (fun d q => by rw [zk (zm q hfr)]; exact q) fun d zs q => by rw [zk (zm q hfr)]; exact q
       rcases hc with rfl | hc
       · exact hk' d o (old1 d _ e) q
       · exact hk' d o (old1 d _ hc) q
  refine ⟨.ref s.heap.objs.size, _, I1, rfl, ⟨_, x, y, rfl, hfr, rfl, fun zs e => by rw [hxs] at e; cases e; exact hx, fun zs e => by rw [hys] at e; cases e; exact hy⟩, ⟨gz', gs'.extBut _ _ ?_ gti, ⟨u, v, gs'.extBut _ _ ?_ gto⟩, gi1.extBut gs'.extBut ?_, gi2.extBut gs'.extBut ?_⟩, fun c hc => ?_⟩
  · simp only [c7, aa, aj, or_false, not_or] at nd; exact ae nd.1.1
  · simp only [c7, aa, aj, or_false, not_or] at nd; exact ae nd.1.2.1
  · simp only [c7, aa, aj, or_false, not_or] at nd; exact ae nd.1.2.2.1
  · simp only [c7, aa, aj, or_false, not_or] at nd; exact ae nd.1.2.2.2
  · rw [zk (ae (hTn c hc))]; exact ff c hc
 done := by
  intro X hP hw hK hc i pins s σ H E I hf st hg;subst hP hw hK;obtain ⟨xs, ys, hxs, hys, hx, hy⟩ := hg;obtain ⟨its, rv, p⟩ := Z9 I.hok hxs;obtain ⟨jts, rw', q⟩ := zhl I.hok hys;obtain ⟨hz, hti, ⟨u0, v0, hto⟩, hi1, hi2⟩ := st;have ff : ∀ c ∈ [z, ti, to, it1, it2], H c = none := fun c hc => (hf c hc).1;have ne : ∀ {c d : Addr} {o : HO}, H c = some o → d ∈ [z, ti, to, it1, it2] → c ≠ d := fun {c d o} e hd q => by rw [q, ff d hd] at e; cases e
  have l1 := rv.length;have l2 := rw'.length;refine zfw (I.ok.hd hc) hz hti hto hi1 hi2 p q (by simp; omega) (by simp; omega) nd ⟨fun m => ?_, fun m => ?_⟩ fun g gk => ⟨rfl, ?_⟩
  · simp only [aa, aj, or_false] at m;rcases m with m | m | m | m <;> exact ne hxs (by simp) m
  · simp only [aa, aj, or_false] at m;rcases m with m | m | m | m <;> exact ne hys (by simp) m
  have hk' : ∀ c o, c ∉ [z, it1, it2] → s.heap.get? c = some o → g.get? c = some o := fun c o n e => by
   simp only [aa, aj, or_false, not_or] at n;exact gk c o n.1 n.2.1 n.2.2 e
  have old1 : ∀ c o, H c = some o → c ∉ [z, it1, it2] := fun c o e m => ne e (show c ∈ [z, ti, to, it1, it2] by
   simp only [aa, aj, or_false] at m ⊢;rcases m with m | m | m <;> simp [m]) rfl
  refine I.step (g' := s.gens) (t' := s.toks) (d' := s.drawn) (ch := [z, it1, it2]) (fun c hc => ?_) (fun c o n1 n2 n3 e _ => hk' c o n3 e)
   (fun c o n1 n2 n3 e _ => ⟨o.slots, hk' c o n3 e⟩) (fun _ _ _ _ n => n) (fun c o n3 e => ⟨o, hk' c o n3 e⟩)
   (fun _ _ e => e) (fun _ _ _ e => e) (fun c ps e => ⟨#[], by rw [e]; simp⟩) (fun m hm => ?_) (fun c ob e => ?_) I.bare
  · obtain ⟨f0, f1, f2, f3, f4, f5⟩ := hf c (by
     simp only [aa, aj, or_false] at hc ⊢;rcases hc with hc | hc | hc <;> simp [hc])
    exact ⟨f3, f1, f4, f5⟩
  · obtain ⟨o, es, ep, hoo, r⟩ := hm;refine ⟨o, es, ep, hk' _ o (fun m => ?_) hoo, r⟩;simp only [aa, aj, or_false] at m;rcases m with m | m | m
    · exact (hf z (by simp)).2.1 m.symm
    · exact (hf it1 (by simp)).2.1 m.symm
    · exact (hf it2 (by simp)).2.1 m.symm
  · refine (I.hok c ob e).stay (fun d o hc q => ?_) (fun d q => q) fun d zs q => q;rcases hc with rfl | hc
    · exact hk' d o (old1 d _ e) q
    · exact hk' d o (old1 d _ hc) q
 self := fun _ _ _ _ _ st h => by
  obtain ⟨hz, _⟩ := st;exact Ys hz h
noncomputable def zgL (h : Heap) (t1 t2 : Addr) : Heap := ((((h.push { cls := .type "tuple_iterator", data := .fields #[.ref t1, .int 0 0] }).push { cls := .type "list_iterator", data := .fields #[.ref t2, .int 0 0] }).push { cls := .type "tuple", data := .seq #[.ref h.objs.size, .ref (h.objs.size + 1)] }).push { cls := .type "tuple", data := .seq #[.none, .none] }).push { cls := .type "zip", data := .fields #[.none, .bool false, .bool true, .ref (h.objs.size + 2), .ref (h.objs.size + 3)] }
theorem zlb (h : Heap) (t1 t2 : Addr) : xc (zgL h t1 t2) (h.objs.size + 4) (h.objs.size + 2) (h.objs.size + 3) .none ∧ kf (zgL h t1 t2) (h.objs.size + 2) h.objs.size (h.objs.size + 1) ∧ (zgL h t1 t2).get? (h.objs.size + 3) = some { cls := .type "tuple", data := .seq #[.none, .none] } ∧
  (zgL h t1 t2).IsTupleIter h.objs.size t1 0 ∧ (zgL h t1 t2).IsListIter (h.objs.size + 1) t2 0 ∧ (zgL h t1 t2).objs.size = h.objs.size + 5 ∧ ∀ c o, h.get? c = some o → (zgL h t1 t2).get? c = some o := by
 have at' : ∀ (g : Heap) (o : Obj) (n : Nat), g.objs.size = n → o.isFreed = false → (g.push o).get? n = some o := fun g o n e f => by rw [← e]; exact ar _ f
 have sz : ∀ (g : Heap) (o : Obj) (n : Nat), g.objs.size = n → (g.push o).objs.size = n + 1 := fun g o n e => by rw [cy, e]
 refine ⟨?_, ?_, ?_, ?_, ?_, ?_, fun c o e => ?_⟩
 · exact at' _ _ _ (sz _ _ _ (sz _ _ _ (sz _ _ _ (sz _ _ _ rfl)))) rfl
 · exact a8 _ (a8 _ (at' _ _ _ (sz _ _ _ (sz _ _ _ rfl)) rfl))
 · exact a8 _ (at' _ _ _ (sz _ _ _ (sz _ _ _ (sz _ _ _ rfl))) rfl)
 · exact ⟨_, a8 _ (a8 _ (a8 _ (a8 _ (at' _ _ _ rfl rfl)))), rfl, rfl⟩
 · exact ⟨_, a8 _ (a8 _ (a8 _ (at' _ _ _ (sz _ _ _ rfl) rfl))), rfl, rfl⟩
 · exact sz _ _ _ (sz _ _ _ (sz _ _ _ (sz _ _ _ (sz _ _ _ rfl))))
 · exact a8 _ (a8 _ (a8 _ (a8 _ (a8 _ e))))
section
theorem zhe (t1 t2 : Addr) (a1 a2 : Array Value) (n1 n2 : Nat) (d1 d2 : Option Addr) (l1 l2 : Array (Option Value)) :
  Meets (Builtin.«zip.__new__» ⟨[.type "zip", .ref t1, .ref t2], [("strict", .bool true)]⟩) (fun _ R s => s.heap.get? t1 = some { cls := .type "tuple", dict := d1, data := .seq a1 n1, slots := l1 } ∧ s.heap.get? t2 = some { cls := .type "list", dict := d2, data := .seq a2 n2, slots := l2 } ∧
   R (.ok (.ret (.ref (s.heap.objs.size + 4)))) { s with heap := zgL s.heap t1 t2 }) :=
 .of_wp fun prog w A R s h => by
  obtain ⟨hp, g, d, tk, os⟩ := s;obtain ⟨hl1, hl2, h⟩ := h;have hsub := sub_zip;have hL1 : Heap.IsTuple (Shared.heap ⟨hp, g, d, tk, os⟩) t1 a1 := ⟨_, hl1, rfl, n1, rfl⟩
  have hL2 : Heap.IsList (Shared.heap ⟨hp.push { cls := .type "tuple_iterator", data := .fields #[.ref t1, .int 0 0] }, g, d, tk, os⟩) t2 a2 := ⟨_, a8 _ hl2, rfl, n2, rfl⟩
  wp_walk using wpAny_pyIter_tuple hL1, wpAny_pyIter_list hL2
  refine ⟨_, rfl, ?_⟩;simp only [zgL, cy, Nat.add_assoc, Nat.reduceAdd] at h ⊢;exact h
theorem zcw {Q : Value → Shared → Prop} (h1 : s.heap.IsTuple t1 a1) (h2 : s.heap.IsList t2 a2)
  (k : ∀ g, xc g (s.heap.objs.size + 4) (s.heap.objs.size + 2) (s.heap.objs.size + 3) .none → kf g (s.heap.objs.size + 2) s.heap.objs.size (s.heap.objs.size + 1) → g.get? (s.heap.objs.size + 3) = some { cls := .type "tuple", data := .seq #[.none, .none] } →
   g.IsTupleIter s.heap.objs.size t1 0 → g.IsListIter (s.heap.objs.size + 1) t2 0 → g.objs.size = s.heap.objs.size + 5 → (∀ c o, s.heap.get? c = some o → g.get? c = some o) → Q (.ref (s.heap.objs.size + 4)) { s with heap := g }) :
  wpAny (model prog w) A (call (.type "zip") [.ref t1, .ref t2] [("strict", .bool true)]) Q E s := by
 have ft := PySem.F.called_zip;obtain ⟨c, tl, hmro⟩ := ft.mro;have hmade := ft.made;have hsub := ft.sub;have hct : checkTypeCall "zip" ⟨[.ref t1, .ref t2], [("strict", .bool true)]⟩ = pure () := by kernel_rfl
 have hcn : checkBuiltinCall "zip.__new__" ⟨[.type "zip", .ref t1, .ref t2], [("strict", .bool true)]⟩ = pure () := by kernel_rfl
 obtain ⟨⟨c1, dc1, dt1, sl1⟩, hl1, hc1, n1, hd1⟩ := h1;obtain ⟨⟨c2, dc2, dt2, sl2⟩, hl2, hc2, n2, hd2⟩ := h2;replace hc1 : c1 = .type "tuple" := hc1;replace hc2 : c2 = .type "list" := hc2;replace hd1 : dt1 = .seq a1 n1 := hd1;replace hd2 : dt2 = .seq a2 n2 := hd2;subst hc1 hc2 hd1 hd2;refine wpAny_call (codeAny_of_tree ?_);show wpAny _ _ (callAny (.type "zip") _) _ _ _;refine a6 ⟨Code.quiet_builtin _ (by decide +kernel), codeAny_builtin PySem.F.entry_type_call ?_⟩;rw [Around.under_plain (weight_type_call_type "zip" _ _) (units_type_call_type "zip" _ _)];have hq1 := ft.notType;have hq2 := ft.canCreate
 repeat any_goals first | assumption | wp_step
 refine codeAny_mono (codeAny_call_builtin ft.plain PySem.F.entry_zip_new (wpAny_of_eq hcn (zhe t1 t2 a1 a2 n1 n2 dc1 dc2 sl1 sl2 prog w A.in1 (wants (fun obj s₁ => obj = .ref (s.heap.objs.size + 4) ∧ s₁ = { s with heap := zgL s.heap t1 t2 }) E) s ⟨hl1, hl2, ⟨rfl, rfl⟩⟩))) fun r s₁ hr => ?_;cases r with
 | error e => exact hr
 | ok fl =>
   cases fl with
   | ret obj =>
     obtain ⟨rfl, rfl⟩ := (show obj = .ref (s.heap.objs.size + 4) ∧ s₁ = { s with heap := zgL s.heap t1 t2 } from hr)
     obtain ⟨f1, f2, f3, f4, f5, f6, f7⟩ := zlb s.heap t1 t2;have hT : (⟨zgL s.heap t1 t2, s.gens, s.drawn, s.toks, s.os⟩ : Shared).TypeIs (.ref (s.heap.objs.size + 4)) "zip" := ⟨_, f1, rfl⟩
     have hli := ft.init.lookup;have hbi := ft.init.bind (.ref (s.heap.objs.size + 4))
     repeat any_goals first | assumption | wp_step
     refine codeAny_mono (codeAny_call_builtin ft.init.plain PySem.F.entry_object_init (ft.init.check _ _ _ _ _ _ _ _ hT (zk9 _ _ _) ?_)) (R := wants (fun r s₂ => r = .none ∧ s₂ = ⟨zgL s.heap t1 t2, s.gens, s.drawn, s.toks, s.os⟩) E) fun r₂ s₂ hr₂ => ?_
     · have hne : (some "zip.__new__" != some "object.__new__") = true := by decide
       repeat any_goals first | assumption | wp_step
       exact ⟨rfl, rfl⟩
     cases r₂ with
     | error e => exact hr₂
     | ok fl₂ =>
       cases fl₂ with
       | ret r =>
         obtain ⟨rfl, rfl⟩ := (show r = .none ∧ s₂ = _ from hr₂)
         repeat any_goals first | assumption | wp_step
         exact k _ f1 f2 f3 f4 f5 f6 f7
       | _ => exact hr₂.elim
   | _ => exact hr.elim
end
section
noncomputable def zo4 (ta : TA) : TI := fun σ H R => ta σ H fun vs H1 => ∃ a b xs ys, vs = [.ref a, .ref b] ∧ H1 a = some (.tup xs) ∧ H1 b = some (.lst ys) ∧ R (zm6 a b) H1
theorem zjl {k1 kc} {tpos kp kpos : Pos} {a b : Expr} {ta : TA} {p : Pos} (hg : Gl X "zip") (hm : X.mg "zip" = none) (ha : PA X [a, b] ta) (hs : starEach [a, b] X.env = (false, eval a X.env) :: starEach [b] X.env := by rfl) (hpl : ((backTo pos (starEach [a, b] X.env)).any (·.1)) = false := by rfl) :
  PI X (.Tuple elts k1 tpos) (.Call (.Name "zip" p) [a, b] [⟨some "strict", .Constant (.bool true) kc kp, kpos⟩] pos) (zo4 ta) := by
 intro pins s σ H R I h;refine wpAny_Call_Name_kw (Zy I hg hm zbe ?_);refine PySem.W.callWith_of (P := fun _ => True) (by rw [hpl]; rfl) (fun h _ => ⟨.machine, .inr (.inl rfl), ?_⟩) ?_
 · exact fun A Q E s _ q => (show wpAny _ A (pure Keeper.machine) Q E s from a6 q)
 have e0 : backTo pos (starEach [a, b] X.env) = (false, eval a X.env) :: backTo pos (starEach [b] X.env) := by rw [hs]; rfl
 rw [e0];refine evalArgs_kwB rfl ?_;rw [← e0];refine thn (ha pos pins s σ H _ I h) fun us s1 ⟨vs, H1, I1, r1, q1⟩ => ?_;obtain ⟨t1, t2, xs, ys, rfl, hx, hy, q⟩ := q1;refine kws_cons (Constant_bool (kws_nil ⟨trivial, ?_⟩));cases r1 with
 | cons ra rr =>
   cases rr with
   | cons rb rn =>
     cases rn;cases ra;cases rb;obtain ⟨its, rv, p1⟩ := Z9 I1.hok hx;obtain ⟨jts, rw', p2⟩ := zhl I1.hok hy;refine zcw p1 p2 fun g f1 f2 f3 f4 f5 f6 f7 => ?_;refine Ys f1 ?_;refine ⟨s1.heap.objs.size + 4, [s1.heap.objs.size + 4, s1.heap.objs.size + 2, s1.heap.objs.size + 3, s1.heap.objs.size, s1.heap.objs.size + 1], _, _, H1, rfl, I1.kept (t' := s1.toks) f7, zed t1 t2 _ _ _ _ _ (by simp) (by rw [sizeLine_eq]; omega), ⟨f1, f2, ⟨_, _, f3⟩, f4, f5⟩, fun c hc => ?_, q⟩;have hl : s1.heap.objs.size ≤ c := by
      simp only [aa, aj, or_false] at hc;rcases hc with rfl | rfl | rfl | rfl | rfl <;> omega
     exact I1.fpOk hl (I1.hok.fresh hl)
end
section
variable {zs : List V} {g : TG} {tc : TT} {te : TE} {k : Nat} {σ : St} {Q : VK}
theorem zj5 (hn : xs.length = zs.length) (Pv : Nat → List V → Hp → Prop) (h0 : Pv 0 [] H) (hl : ∀ i ys H, i ≤ xs.length → Pv i ys H → H a = some (.tup xs) ∧ H b = some (.lst zs) ∧ ys.length ≤ sizeLine)
  (hs : ∀ i x z ys H p, xs[i]? = some x → zs[i]? = some z → Pv i ys H → H p = none → g (.ref p) (capσ k cap σ) (upd H p (.tup [x, z])) fun σ2 H2 => tc σ2 H2 fun b H3 => if b = true then te σ2 H3 fun y H4 => Pv (i + 1) (ys ++ [y]) H4 else Pv (i + 1) ys H3)
  (hd : ∀ ys H, Pv xs.length ys H → ∀ p, H p = none → Q (.ref p) (upd H p (.lst ys))) : Y1 (zm6 a b) g tc te k cap σ H Q := by
 refine ⟨fun i m ys H => m = xs.length - i ∧ i ≤ xs.length ∧ Pv i ys H, ⟨xs.length, by simp, bo _, h0⟩, ?_⟩;rintro i m ys H ⟨rfl, hi, p⟩;obtain ⟨q1, q2, hz⟩ := hl i ys H hi p;by_cases hlt : i < xs.length
 · have hlz : i < zs.length := by omega
   refine .inr ⟨⟨xs, zs, xs[i], zs[i], q1, q2, by simp [hlt], by simp [hlz]⟩, hz, Pv (i + 1), fun ys' H' p' => ⟨xs.length - (i + 1), by omega, rfl, hlt, p'⟩, fun x H' y => ?_⟩;obtain ⟨p', x', y', rfl, hn', rfl, hx, hy⟩ := y;exact hs i x' y' ys H p' (hx xs q1) (hy zs q2) p hn'
 · have e : i = xs.length := by omega
   subst e;exact .inl ⟨⟨xs, zs, q1, q2, a9 _, by omega⟩, hz, hd ys H p⟩
end
theorem zgh (A : Around) (s : Shared) (a : Int) (t : Tok) (c : Int) (u : Tok) (prog : Program) (w : World) (E : Value → Shared → Prop) (Q : Value → Shared → Prop) (h : Q (.bool (decide (a > c))) s) :
  wpAny (model prog w) A (richCompare .Gt (.int a t) (.int c u)) Q E s :=
 (PyProof.Rows.gt_int h : wpAny (model prog w) A (compareOp .Gt (.int a t) (.int c u)) Q E s)
section
theorem Y0 (f : Nat → Int) : ∀ k i, i ≤ k → f (argBest (fun i j => decide (f i > f j)) k) ≥ f i
 | 0, i, h => by
   have : i = 0 := by omega
   subst this;exact bz _
 | k + 1, i, h => by
   have ih := Y0 f k;have e : argBest (fun i j => decide (f i > f j)) (k + 1) = if decide (f (k + 1) > f (argBest (fun i j => decide (f i > f j)) k)) = true then k + 1 else argBest (fun i j => decide (f i > f j)) k := rfl
   rw [e];split
   · rename_i c
     have c := bp c;by_cases hi : i = k + 1
     · subst hi; exact bz _
     · have := ih i (by omega); omega
   · rename_i c
     have c : ¬ (f (k + 1) > f (argBest (fun i j => decide (f i > f j)) k)) := fun z => c (ai z);by_cases hi : i = k + 1
     · subst hi; omega
     · exact ih i (by omega)
theorem Q1 (hc : X.calm = true) : v9 X (.builtin "max") (fun xs H Q => ∃ (a : Addr) (ns : List Int), xs = [.ref a] ∧ SqL X.K H a (ns.map V.int) ∧ ns ≠ [] ∧ ∀ m, m ∈ ns → (∀ n ∈ ns, n ≤ m) → Q (.int m) H) := by
 intro pins s σ H xs us Q I r h;obtain ⟨a, ns, rfl, hq, h0, q⟩ := h;obtain ⟨u, rfl, rx⟩ := v8 r;cases rx;obtain ⟨its, rv, p, hz⟩ := I.list hq;have hlt : a < s.heap.objs.size := by obtain ⟨_, e, _⟩ := p.isList; exact ac e
 have hl := rv.length;rw [a7] at hl;have hn0 : 0 < ns.length := by
  cases ns with
  | nil => exact absurd rfl h0
  | cons => simp
 have val : ∀ i v, its[i]? = some v → ∃ t, v = Value.int (ns.getD i 0) t := fun i v hv => by
  have hi : i < its.length := (bh.mp hv).1;obtain ⟨u, hu, ru⟩ := rv.get (i := i) (x := V.int (ns.getD i 0)) (by rw [ao, aq, ah (by omega)]; rfl);rw [hu] at hv;cases hv;exact ru
 refine call_max_walk (wpAny_pyIter_list p.isList ?_);refine ⟨s.heap.objs.size, _, _, _, _, _, fun i j => decide (ns.getD i 0 > ns.getD j 0), rfl, Walks.list (A := X.A.in1) (show X.A.in1.handled = none from I.ok.hd hc) s.heap.objs.size a (aw hlt) its.toArray, ⟨⟨_, ar _ rfl, rfl, rfl⟩, p.isList.push _⟩, ?_, by rw [ax]; omega, ?_, fun v h' tk hv hk => ?_⟩
 · intro b hb;simp only [aa, aj, or_false, Heap.push] at hb ⊢;rcases hb with rfl | rfl
   · simp
   · simp only [dy]; exact Nat.lt_succ_of_lt hlt
 · intro i j vi vj s' Q' E' hi hj hQ';obtain ⟨t, rfl⟩ := val i vi (by simpa using hi);obtain ⟨t', rfl⟩ := val j vj (by simpa using hj);exact zgh _ _ _ _ _ _ _ _ _ _ hQ'
 · have hsz : its.toArray.size = ns.length := by rw [ax]; omega
   rw [hsz] at hv;obtain ⟨t, rfl⟩ := val (argBest (fun i j => decide (ns.getD i 0 > ns.getD j 0)) (ns.length - 1)) v (by rw [List.getElem?_toArray] at hv; exact hv);clear hv;generalize hm : argBest (fun i j => decide (ns.getD i 0 > ns.getD j 0)) (ns.length - 1) = m;have hm1 : m ≤ ns.length - 1 := by rw [← hm]; exact Z4 _ _
   have hml : m < ns.length := by omega
   refine ⟨.int (ns.getD m 0), H, I.kept fun b o e => hk b o (fun hb => ?_) (a8 _ e), ⟨_, rfl⟩, q _ ?_ fun n hn => ?_⟩
   · have z : b = s.heap.objs.size := by simpa using hb
     exact absurd (ac e) (by rw [z]; exact c6 _)
   · rw [aq, ah hml]; exact List.getElem_mem hml
   · obtain ⟨i, hi, rfl⟩ := d0.mp hn;have := Y0 (fun i => ns.getD i 0) (ns.length - 1) i (by omega);rw [hm] at this;have e : ns.getD i 0 = ns[i] := by rw [aq, ah hi]; rfl
     rw [← e]; exact this
noncomputable def zor : V → List V → Hp → VK → Prop := fun x ys H Q => ∃ (ts : List T) (u : T) (y : V), ys = [y] ∧ Is H (.lst ts) x ∧ Is H u y ∧ (∀ t ∈ ts, (toD t).canLay0 = true) ∧ (toD u).canLay0 = true ∧ (toD u).depth ≤ 20 ∧ Q (.int ((ts.countP fun t => PyData.eqv (toD t) (toD u) : Nat) : Int)) H
open Classical in
theorem Qp (hu : X.A.units + 64 < cLine) : MtR X "list.count" zor := by
 intro pins s σ H x xs v us Q I rx rv h;obtain ⟨ts, u, y, rfl, hx, hy, lts, lu, du, q⟩ := h;obtain ⟨a, zs, rfl, ha, hz⟩ := hx;cases (show v = Value.ref a from rx);obtain ⟨u', rfl, ru⟩ := rv.one;obtain ⟨bs, rb⟩ := wu I lu hy ru;obtain ⟨hzl, its, n, r, _, eo'⟩ := I.lstM ha;have la : PyData.canLayAll0 (w5 ts) = true := by
  clear hz q;induction ts with
  | nil => rfl
  | cons t ts ih =>
    unfold w5;simp only [PyData.canLayAll0, bc];exact ⟨lts t be, ih fun t' h => lts t' (bn _ h)⟩
 obtain ⟨as, ra⟩ := qh I la hz r;let e : Value → Bool := fun z => decide (∃ t as, Reads s.heap z (toD t) as ∧ (toD t).canLay0 = true ∧ PyData.eqv (toD t) (toD u) = true);have he : ∀ z t as, Reads s.heap z (toD t) as → (toD t).canLay0 = true → e z = PyData.eqv (toD t) (toD u) := fun z t as rz lz => by
  rw [Bool.eq_iff_iff];refine ⟨fun h => ?_, fun h => ai ⟨t, as, rz, lz, h⟩⟩;obtain ⟨t', as', rz', lz', h'⟩ := bp h;rw [SeqAt.Reads.unique _ _ _ _ _ lz rz rz'];exact h'
 have hun : X.A.in1.units = X.A.units + 1 := rfl;obtain ⟨c1, c2⟩ := Kf X.A.in1 s (by omega) rb lu du he ra la;refine call_meets PySem.F.slot_list_count ⟨_, eo', rfl⟩ PySem.F.entry_list_count (PySem.F.args_list_count_2 _ _) (SeqAt.list_countAt a its.toArray n none #[] u' e) ⟨eo', fun z hz' => c1 z (by simpa using hz'), ?_⟩;rw [List.toList_toArray, c2];exact ⟨.int _, H, I.tok _, ⟨_, rfl⟩, q⟩
end
noncomputable def kh (ks : List yz) (g : yz) : List yz := if g ∈ ks then ks else ks ++ [g]
noncomputable def Z0 (gs : List yz) : List yz := gs.foldl kh []
theorem zhj {ks : List yz} : x ∈ kh ks g ↔ x ∈ ks ∨ x = g := by
 unfold kh;split
 · rename_i h
   constructor
   · exact .inl
   · rintro (z | rfl)
     · exact z
     · exact h
 · rw [br, ak]
theorem zc2 {ks : List yz} (h : ks.Nodup) : (kh ks g).Nodup := by
 unfold kh;split
 · exact h
 · rename_i c
   rw [List.nodup_append];exact ⟨h, by simp, fun a ha b hb => by rw [ak.mp hb]; exact fun z => c (z ▸ ha)⟩
theorem zir (ks : List yz) (g : yz) : (kh ks g).length ≤ ks.length + 1 := by
 unfold kh;split
 · omega
 · rw [ba, cm]; exact a9 _
theorem ze4 : ∀ {ks : List yz} {x : yz}, x ∈ gs.foldl kh ks ↔ x ∈ ks ∨ x ∈ gs := by
 induction gs with
 | nil => intro ks x; simp
 | cons g gs ih =>
   intro ks x;rw [List.foldl_cons, ih, zhj, aa, or_assoc]
theorem zfg : ∀ (ks : List yz), (gs.foldl kh ks).length ≤ ks.length + gs.length := by
 induction gs with
 | nil => intro ks; exact a9 _
 | cons g gs ih =>
   intro ks;have h1 := ih (kh ks g);have h2 := zir ks g;rw [List.foldl_cons, ck];omega
theorem za3 : ∀ {ks : List yz}, ks.Nodup → ((gs.foldl kh ks).length = ks.length + gs.length ↔ (ks ++ gs).Nodup) := by
 induction gs with
 | nil => intro ks h; simp [h]
 | cons g gs ih =>
   intro ks h;rw [List.foldl_cons];by_cases c : g ∈ ks
   · have e : kh ks g = ks := by unfold kh; rw [if_pos c]
     rw [e];constructor
     · intro z;have := zfg (gs := gs) ks;rw [ck] at z;omega
     · intro z;rw [List.nodup_append] at z;exact absurd rfl (z.2.2 g c g be)
   · have e : kh ks g = ks ++ [g] := by unfold kh; rw [if_neg c]
     have := ih (zc2 (g := g) h);rw [e, List.append_assoc, ba, cm] at this;rw [e, ck, show ks.length + (gs.length + 1) = ks.length + 1 + gs.length from by omega];exact this
theorem zcs (gs : List yz) : (Z0 gs).length = gs.length ↔ gs.Nodup := by
 have := za3 (gs := gs) (ks := []) List.nodup_nil;simpa [Z0] using this
theorem zck : x ∈ Z0 gs ↔ x ∈ gs := by
 unfold Z0;rw [ze4];simp
theorem zbg (kvs : List (yz × V)) (k : yz) : (kvs.any fun kv => decide (kv.1 = k)) = decide (k ∈ kvs.map (·.1)) := by
 rw [Bool.eq_iff_iff, da, decide_eq_true_eq, bq];constructor
 · rintro ⟨kv, h, e⟩;exact ⟨kv, h, bp e⟩
 · rintro ⟨kv, h, e⟩;exact ⟨kv, h, ai e⟩
theorem X4 (kvs : List (yz × V)) (k : yz) : (jf kvs k).isSome = decide (k ∈ kvs.map (·.1)) := by rw [← Z8, zbg]
theorem zeq (kvs : List (yz × V)) (k : yz) (v : V) : (Zv kvs k v).map (·.1) = kh (kvs.map (·.1)) k := by
 unfold Zv kh;rw [zbg];by_cases c : k ∈ kvs.map (·.1)
 · rw [if_pos (ai c), if_pos c, cv];refine List.map_congr_left fun kv _ => ?_;show (if kv.1 = k then (kv.1, v) else kv).1 = kv.1;split <;> rfl
 · rw [if_neg (by rw [av c]; decide), if_neg c, al];rfl
theorem K7 (rows : List (yz × V)) : ∀ kvs : List (yz × V), (ku rows kvs).map (·.1) = (rows.map (·.1)).foldl kh (kvs.map (·.1)) := by
 induction rows with
 | nil => intro kvs; rfl
 | cons r rows ih =>
   intro kvs;show (ku rows (Zv kvs r.1 r.2)).map (·.1) = _;rw [ih, zeq];rfl
end L2
set_option maxHeartbeats 400000
namespace L2
open PySem PySem.Spec PyProof.Rows
variable {tb : Addr} {e : Expr} {fd : FuncData} {L : List (List Int)} {es : List Expr} {ns : List Int} {vs : List Value} {k : Nat} {P q : Program} {K : PySem.W.Frag} {x : Str} {mb mg : Str → Option Value}
noncomputable def cI : Expr → Option Int
 | .Constant (.int i) _ _ => some i
 | _ => none
noncomputable def csI : List Expr → Option (List Int)
 | [] => some []
 | e :: r => (cI e).bind fun i => (csI r).map (i :: ·)
noncomputable def zlf : Expr → Option (List Expr)
 | .Tuple es _ _ => some es
 | _ => none
noncomputable def tsI : List Expr → Option (List (List Int))
 | [] => some []
 | e :: r => ((zlf e).bind csI).bind fun g => (tsI r).map (g :: ·)
noncomputable def zf5 : Expr → Option (List (List Int))
 | .List es _ => tsI es
 | _ => none
noncomputable def zpo (L : List (List Int)) : TE := fun _ H Q => ∀ l xs H', Same H H' → H l = none → H' l = some (.lst xs) → IsL H' (L.map tI) xs → Q (.ref l) H'
theorem zmy {i : Int} (h : cI e = some i) : ∃ j p, e = .Constant (.int i) j p := by
 unfold cI at h;split at h
 · cases h;exact ⟨_, _, rfl⟩
 · cases h
theorem zf3 (h : zlf e = some es) : ∃ a p, e = .Tuple es a p := by
 unfold zlf at h;split at h
 · cases h;exact ⟨_, _, rfl⟩
 · cases h
section
variable {X : Cx}
theorem zgv : ∀ {es : List Expr} {ns : List Int}, csI es = some ns → PA X es (fun _ H Q => Q (ns.map V.int) H)
 | [], _, h => by
   cases h;exact zd
 | e :: r, ns, h => by
   unfold csI at h;obtain ⟨i, h1, h2⟩ := Option.bind_eq_some_iff.mp h;obtain ⟨ms, h3, rfl⟩ := dv.mp h2;obtain ⟨j, p, rfl⟩ := zmy h1;exact zc zh (zgv h3)
theorem zgu : ∀ {es : List Expr} {L : List (List Int)}, tsI es = some L → (∀ g ∈ L, g.length ≤ 1000) → PA X es (fun _ H Q => ∀ xs H', Same H H' → IsL H' (L.map tI) xs → Q xs H')
 | [], _, h, _ => by
   cases h;exact fun pos pins s σ H Q I q => zd pos pins s σ H Q I (q [] H (Same.refl H) rfl)
 | e :: r, L, h, hb => by
   unfold tsI at h;obtain ⟨g, h1, h2⟩ := Option.bind_eq_some_iff.mp h;obtain ⟨es, h4, h5⟩ := Option.bind_eq_some_iff.mp h1;obtain ⟨M, h3, rfl⟩ := dv.mp h2;obtain ⟨a, p, rfl⟩ := zf3 h4;refine fun pos pins s σ H Q I q => zc (Zi (zgv h5)) (zgu h3 fun g hg => hb g (bn _ hg)) rfl pos pins s σ H Q I ?_;refine ⟨by rw [a7]; exact hb g be, fun t H1 s1 _ g1 xs H2 s2 i2 => q _ H2 (s1.trans s2) ⟨_, _, rfl, ⟨t, _, rfl, s2 _ _ g1, IsL.ints.mpr rfl⟩, i2⟩⟩
theorem zl5 (h : zf5 e = some L) (hb : ∀ g ∈ L, g.length ≤ 1000) (hl : L.length ≤ 1000) : PE X e (zpo L) := by
 unfold zf5 at h;split at h
 · refine fun pins s σ H Q I q => qv (zgu h hb) pins s σ H Q I fun xs H1 s1 i1 => ⟨?_, fun l H2 s2 n2 g2 => q l xs H2 (s1.trans s2) ?_ g2 (i1.mono s2)⟩
   · rw [i1.length, a7];exact hl
   · cases z : H l with
     | none => rfl
     | some o => rw [s1 _ _ z] at n2; cases n2
 · cases h
end
noncomputable def Y2 (mg : Str → Option Value) (base : Heap) : Prop := ∃ bm ob, mg "__builtins__" = some (.ref bm) ∧ bm ≠ builtinsNs ∧ base.get? bm = some ob ∧ ob.cls = .type "module" ∧ ob.dict = some builtinsNs ∧ ob.data = .plain
theorem ze9 {w : World} {CX : CXT} {fa a c : Addr} {sp : Sp} {s₁ : Shared}
  (KX : K.In s₁.heap) (hns : s₁.heap.Ns mainGlobals mg) (hb : s₁.heap.Ns builtinsNs mb) (hbb : ∀ x : Str, x ≠ "__name__" → mb x = bootBuiltins x) (hlim : s₁.heap.NoLimit) (hg : s₁.gens = #[]) (hbm : Y2 mg s₁.heap)
  (hT : s₁.heap.get? tb = some (PySem.W.tabObj #[])) (hC : PySem.W.CodeHd s₁.heap c tb) (hKT : K.lookup tb = none)
  (ha : s₁.heap.get? a = some { cls := .type "list", data := .seq vs.toArray }) (hi : IntsAre vs ns) (hl : ns.length ≤ sizeLine) (hr : Room k callerA)
  (F : ∀ base : Heap, K.In base → base.Ns mainGlobals mg → Y2 mg base → FnOk P w K mg base CX k fa fd [x] sp) (hbind : ∀ (s : Shared) (u : Value), BindsTo s fd ⟨[u], []⟩ [(x, u)])
  (hsp : ∀ H : Hp, H tb = some (.tbl #[]) → SqL K H a (ns.map V.int) → sp [.ref a] H (fun v _ => v = .bl true) fun _ _ _ => False)
  (hCX : ∀ H e s', CX [] H s₁ (fun _ _ _ => False) e s' → False) :
  codeAny (model P w) callerA (.call (.ref fa) ⟨[.ref a], []⟩) (fun r s' => r = .ok (.ret (.bool true)) ∧ OldK s₁.heap s'.heap ∧ s'.os = s₁.os ∧ AllBare s'.gens) s₁ := by
 have rv := V5 hi;have lenV := hi.length;have core : ∀ H : Hp, H tb = some (.tbl #[]) → (∀ b, H b = none ∨ (b = a ∧ K.lookup a = none ∧ ∃ o xs, H b = some (.frz o (.lst xs))) ∨ b = tb) → SqL K H a (ns.map V.int) → HOk P w H s₁.heap →
   codeAny (model P w) callerA (.call (.ref fa) ⟨[.ref a], []⟩) (fun r s' => r = .ok (.ret (.bool true)) ∧ OldK s₁.heap s'.heap ∧ s'.os = s₁.os ∧ AllBare s'.gens) s₁ := by
  intro H hHT hO hS hok;have base_of : ∀ {b : Addr} {o : Obj}, s₁.heap.get? b = some o → H b = none → (V1 s₁.heap H).get? b = some o := fun e n => zh2 e n;have noA : ∀ {b : Addr} {o : Obj} {es : Array DictEntry} {ep : Nat}, s₁.heap.get? b = some o → o.data = .dict es ep → H b = none := fun {b o es ep} e d => by
   rcases hO b with z | ⟨z, _⟩ | z
   · exact z
   · rw [z, ha] at e; cases e;have d' : Data.seq vs.toArray _ = Data.dict es ep := d;cases d'
   · rw [z, hT] at e; cases e;have d' : Data.fields _ = Data.dict es ep := d;cases d'
  have nsK : ∀ {b : Addr} {m : Str → Option Value}, s₁.heap.Ns b m → (V1 s₁.heap H).Ns b m := fun {b m} ⟨o, es, ep, e, d, r⟩ => ⟨o, es, ep, base_of e (noA e d), d, r⟩
  have hKb : K.In (V1 s₁.heap H) := fun b o e => base_of (KX b o e) (by
   rcases hO b with z | ⟨z, z2, _⟩ | z
   · exact z
   · rw [z, z2] at e; cases e
   · rw [z, hKT] at e; cases e)
  have hBb : Y2 mg (V1 s₁.heap H) := by
   obtain ⟨bm, ob, b1, b2, b3, b4, b5, b6⟩ := hbm;refine ⟨bm, ob, b1, b2, base_of b3 ?_, b4, b5, b6⟩;rcases hO bm with z | ⟨z, _⟩ | z
   · exact z
   · rw [z, ha] at b3; cases b3; simp at b4
   · rw [z, hT] at b3; cases b3; cases b4
  have hM : Mod K mg (V1 s₁.heap H) := ⟨hKb, nsK hns, ⟨mb, nsK hb, hbb⟩, let ⟨mc, h1, h2⟩ := hlim; ⟨mc, nsK h1, h2⟩⟩
  have e0 : Env0 P w K mg (V1 s₁.heap H) callerA [] s₁ H := ⟨rfl, hM, fun b o e => zjw e, Nat.le_of_eq (zfe _ _), trivial, fun b hb => absurd (show b ∈ ([] : List Addr) from hb) (by simp), hok, .of_eq hg⟩
  refine codeAny_mono ((F _ hKb (nsK hns) hBb).run callerA [] s₁ H ⟨[.ref a], []⟩ [.ref a] [.ref a] _ _ hr e0 (hbind s₁ (.ref a)) (.cons rfl .nil) (hsp H hHT hS)) fun r s' h => ?_;cases r with
  | error e => exact (hCX H e s' h).elim
  | ok fl =>
    cases fl with
    | next => exact False.elim h
    | brk => exact False.elim h
    | cont => exact False.elim h
    | ret u =>
      obtain ⟨v, H', os, bare, un, hok', r', q⟩ := h;have q' : v = .bl true := q;subst q';obtain rfl : u = Value.bool true := r';refine ⟨rfl, ⟨fun b o e => ?_, fun b o e => un.there b o e (by simp)⟩, os, bare⟩;rcases hO b with z | ⟨_, _, ob, xs, z⟩ | z
      · exact .inl (un.keep b o e z (by intro z; exact absurd (show b ∈ ([] : List Addr) from z) (by simp)) (by simp))
      · have z2 := un.frzs b ob _ z;obtain ⟨e1, _⟩ := hok b _ z;obtain ⟨e2, _⟩ := hok' b _ z2;rw [e] at e1; cases e1;exact .inl e2
      · subst z;obtain ⟨more, z2⟩ := un.tbls b _ hHT;have e2 : s'.heap.get? b = some { cls := .none, data := .fields (#[] ++ more) } := hok' b _ z2;rw [e] at hT; cases hT;exact .inr (.inl ⟨(hC.tab e).isCodeTable, rfl, #[], more, rfl, e2⟩)
 have nat : a ≠ tb := fun z => by rw [z, hT] at ha; cases ha
 cases hk : K.lookup a with
 | some o =>
   have e := KX a o hk;rw [ha] at e;cases e;refine core (fun b => if b = tb then some (.tbl #[]) else none) (if_pos rfl) (fun b => ?_) (.inr ⟨_, vs.toArray, _, hk, rfl, rfl, rfl, by rw [ax, lenV]; exact hl, by simpa using rv⟩) (fun b u z => ?_)
   · by_cases hb : b = tb
     · exact .inr (.inr hb)
     · exact .inl (if_neg hb)
   · by_cases hb : b = tb
     · have z' := (if_pos hb).symm.trans z;cases z';subst hb;exact hT
     · have z' := (if_neg hb).symm.trans z;cases z'
 | none =>
   refine core (fun b => if b = tb then some (.tbl #[]) else if b = a then some (.frz { cls := .type "list", data := .seq vs.toArray } (.lst (ns.map V.int))) else none) (if_pos rfl) (fun b => ?_) (.inl (.inr ⟨{ cls := .type "list", data := .seq vs.toArray }, (if_neg nat).trans (if_pos rfl)⟩)) (fun b u z => ?_)
   · by_cases hb : b = tb
     · exact .inr (.inr hb)
     · by_cases hb2 : b = a
       · exact .inr (.inl ⟨hb2, hk, _, _, (if_neg hb).trans (if_pos hb2)⟩)
       · exact .inl ((if_neg hb).trans (if_neg hb2))
   · by_cases hb : b = tb
     · have z' := (if_pos hb).symm.trans z;cases z';subst hb;exact hT
     · have z1 := (if_neg hb).symm.trans z;by_cases hb2 : b = a
       · have z' := (if_pos hb2).symm.trans z1;cases z';subst hb2;exact ⟨ha, by rw [a7]; exact hl, vs, _, rv, ha⟩
       · have z' := (if_neg hb2).symm.trans z1;cases z'
theorem walk_ofT {l : PySem.W.OpenLaw} {n : Nat} {loose : List Str} {XP : (Str → Option Value) → Heap → Prop} {YP : World → Heap → Prop} {d : DefRec} {K : Params → PySem.W.Frag} {CX : World → CXT} {sp : World → Sp}
  (hn : l.most = some n) (hn2 : n ≤ sizeLine) (hdf : d.params.defaults = []) (hr : Room k callerA)
  (hY : ∀ (w : World) (h : Heap), YP w h → (K w.params).In h ∧ h.get? tb = some (PySem.W.tabObj #[])) (hKT : ∀ w : World, (K w.params).lookup tb = none)
  (F : ∀ (w : World) (mg : Str → Option Value) (fa : Addr) (h : Heap), (K w.params).In h → h.Ns mainGlobals mg → mg d.name = some (.ref fa) →
   (∃ c, PySem.W.codeHdIn (K w.params) c tb = true) ∧ ∃ fd : FuncData, (∀ (s : Shared) (u : Value), BindsTo s fd ⟨[u], []⟩ [(x, u)]) ∧
    ∀ base : Heap, (K w.params).In base → base.Ns mainGlobals mg → Y2 mg base → FnOk l.prog w (K w.params) mg base (CX w) k fa fd [x] (sp w))
  (hsp : ∀ (w : World) (H : Hp) (a : Addr) (ns : List Int), ns.length ≤ n → H tb = some (.tbl #[]) → SqL (K w.params) H a (ns.map V.int) → sp w [.ref a] H (fun v _ => v = .bl true) fun _ _ _ => False)
  (hCX : ∀ (w : World) (H : Hp) (s : Shared) (e : Value) (s' : Shared), CX w [] H s (fun _ _ _ => False) e s' → False) :
  PySem.W.WalkO q loose XP YP l.row.toRowW d [] (fun f vs => PySem.call f vs) := by
 refine Att.attach_call hn hdf fun w s₀ s₁ mg mb fa o pm cd doc a vs ns G Y ho hd hcd hmg hobj hints hlen hg => ?_;obtain ⟨KX, hT⟩ := hY w _ Y;obtain ⟨⟨c, hC⟩, fd, hb, hF⟩ := F w mg fa _ KX G.T.g hmg;exact ze9 KX G.T.g G.T.b G.T.builtins G.T.nolimit hg G.T.bmain hT (PySem.W.codeHd_of_K KX hC) (hKT w) hobj hints (ay hlen hn2) hr hF hb (fun H hO hS => hsp w H a ns hlen hO hS) fun H e s' => hCX w H s₁ e s'
end L2
namespace L2
open PySem PySem.Spec PyProof.Rows PySem.W
variable {a c tb : Addr} {params : Arguments} {A : Around} {es : Array DictEntry} {ps : Array Value} {X : Cx} {body e tg : Expr} {fd : FuncData} {base h : Heap} {φ : Heap → Prop} {H : Hp} {pins : List (Addr × Obj)} {kvs : List (yz × V)} {clos : List (Str × Addr)} {elts : List Expr} {cap : List Nat} {i k : Nat} {o : Obj} {pos : Pos} {P : Program} {scope : Scope} {s : Shared} {σ : St} {qual x y : Str} {mg : Str → Option Value} {tE : TE} {g : TG} {pm : Value} {E Q : Value → Shared → Prop} {w : World}
abbrev kno (o : Obj) : HO := .frz o (.own 0)
theorem J8 (e : h.get? a = some o) : xk P w H h a (kno o) := ⟨e, ⟨o, e⟩⟩
theorem Va (ok : HOk P w H h) (e : H a = some (kno o)) : h.get? a = some o := (ok a _ e).1
noncomputable def Vr (o : Obj) (qual : Str) : Prop := ∃ vs t, o.data = .fields vs ∧ vs[1]? = some (.str qual t)
noncomputable def k7 (tb : Addr) (pos : Pos) (qual : Str) (H : Hp) : Prop := ∃ ps, H tb = some (.tbl ps) ∧ TriplesOk ps.toList ∧
 (codeAmong pos ps.toList = none ∨ ∃ c oc, codeAmong pos ps.toList = some (.ref c) ∧ H c = some (kno oc) ∧ Vr oc qual)
theorem k7.first (h : H tb = some (.tbl #[])) : k7 tb pos qual H := ⟨#[], h, trivial, .inl rfl⟩
theorem k7.same {H' : Hp} (h : k7 tb pos qual H) (s : ∀ b o, H b = some o → H' b = some o) : k7 tb pos qual H' := by
 obtain ⟨ps, h1, h2, h3⟩ := h;exact ⟨ps, s _ _ h1, h2, h3.imp id fun ⟨c, oc, a, b, d⟩ => ⟨c, oc, a, s _ _ b, d⟩⟩
section
theorem zlh (B : Y2 mg base) (k : ∀ b o, base.get? b = some o → h.get? b = some o) (G : h.Ns mainGlobals mg) (hP : h.get? tb = some (tabObj ps)) : mainGlobals ≠ tb ∧ h.BuiltinsAt mg tb := by
 obtain ⟨bm, ob, b1, b2, b3, b4, b5, b6⟩ := B;obtain ⟨o, es, ep, e, hd, r⟩ := id G;have hm := k _ _ b3;refine ⟨fun q => ?_, bm, ob, b1, b2, fun q => ?_, fun q => ?_, hm, b4, b5, b6⟩
 · rw [q, hP] at e; cases e; cases hd
 · rw [q, e] at hm; cases hm; rw [hd] at b6; cases b6
 · rw [q, hP] at hm; cases hm; cases b4
noncomputable def zpt (tb : Addr) (pos : Pos) (qual : Str) (O : Addr → Value → Obj) : TE := fun _ H Q => k7 tb pos qual H ∧ ∀ f c' oc ctv H', (∀ b o, b ≠ tb → H b = some o → H' b = some o) → k7 tb pos qual H' → H' c' = some (kno oc) → Vr oc qual → H f = none → H' f = some (kno (O c' ctv)) → Q (.ref f) H'
theorem zl6 (B : Y2 X.mg X.base) (C : CodeHd X.base c tb) (hcode : X.env.code = .ref c) (hdef : defaultsOf params X.env = ([], [])) (hcl : closureFor scope X.env = pure clos) :
  PE X (.Lambda params body scope pos) (zpt tb pos (X.env.qual ++ "<lambda>") fun c' ctv => kla_obj "<lambda>" (X.env.qual ++ "<lambda>") params body scope clos ((X.mg "__name__").getD .none) c' ctv) := by
 intro pins s σ H Q I ⟨⟨ps, hP, ht, hor⟩, q⟩;have tab : s.heap.get? tb = some (tabObj ps) := I.hok tb _ hP;have G := I.mod.glob.keeps I.bk;obtain ⟨hgP, hb⟩ := zlh B I.bk G tab;refine kla_eval hdef ?_;rcases hor with hnf | ⟨c', oc, hf, hc', hoc⟩
 · refine kla_makeFunction (mg := X.mg) hcl I.ok.glob G hcode (C.keeps I.bk) tab ht hnf hgP hb fun c' ctv h' tk hx hge hlt hrec htb => ?_;obtain ⟨c₂, oc, vs, t, e2, hoc, hd, hv⟩ := hrec;cases e2;generalize hO : kla_obj "<lambda>" (X.env.qual ++ "<lambda>") params body scope clos ((X.mg "__name__").getD .none) c' ctv = ob;have q2 := q h'.objs.size c' oc ctv (upd (upd (upd H tb (.tbl (ps ++ #[rawInt pos.line, rawInt pos.col, .ref c']))) c' (kno oc)) h'.objs.size (kno ob));have hsz : ∀ b o, s.heap.get? b = some o → b < s.heap.objs.size := fun b o e => ac e;have htl := hsz _ _ tab;have n1 : c' ≠ tb := ce (bg htl hge);have n2 : h'.objs.size ≠ c' := ce hlt;have n3 : h'.objs.size ≠ tb := ce (Nat.lt_trans (bg htl hge) hlt);have ff : H h'.objs.size = none := I.hok.fresh (Nat.le_of_lt (df hge hlt));have fc : H c' = none := I.hok.fresh hge;have hob : ob.isFreed = false := by rw [← hO]; rfl
   have push : ∀ b o, h'.get? b = some o → (h'.push ob).get? b = some o := fun b o e => a8 _ e;have keepU : ∀ b o, b ≠ tb → s.heap.get? b = some o → (h'.push ob).get? b = some o := fun b o n e => push b o (hx b o n e);have at3 : ∀ b, b ≠ tb → b ≠ c' → b ≠ h'.objs.size → upd (upd (upd H tb (.tbl (ps ++ #[rawInt pos.line, rawInt pos.col, .ref c']))) c' (kno oc)) h'.objs.size (kno ob) b = H b := fun b a1 a2 a3 => by rw [zk a3, zk a2, zk a1]
   have atH : ∀ b o, b ≠ tb → H b = some o → upd (upd (upd H tb (.tbl (ps ++ #[rawInt pos.line, rawInt pos.col, .ref c']))) c' (kno oc)) h'.objs.size (kno ob) b = some o := fun b o n e => by
    rw [at3 b n (zm e fc) (zm e ff)]; exact e
   have atT : upd (upd (upd H tb (.tbl (ps ++ #[rawInt pos.line, rawInt pos.col, .ref c']))) c' (kno oc)) h'.objs.size (kno ob) tb = some (.tbl (ps ++ #[rawInt pos.line, rawInt pos.col, .ref c'])) := by
    rw [zk n3.symm, zk n1.symm, zf]
   have atC : upd (upd (upd H tb (.tbl (ps ++ #[rawInt pos.line, rawInt pos.col, .ref c']))) c' (kno oc)) h'.objs.size (kno ob) c' = some (kno oc) := by rw [zk n2.symm, zf]
   have atF : upd (upd (upd H tb (.tbl (ps ++ #[rawInt pos.line, rawInt pos.col, .ref c']))) c' (kno oc)) h'.objs.size (kno ob) h'.objs.size = some (kno ob) := zf;have tbl' : ((ps ++ #[rawInt pos.line, rawInt pos.col, Value.ref c']) : Array Value).toList = ps.toList ++ [rawInt pos.line, rawInt pos.col, .ref c'] := by simp
   have q3 := q2 atH ⟨_, atT, by rw [tbl']; exact TriplesOk_snoc _ _ _ _ ht, .inr ⟨c', oc, by rw [tbl']; exact codeAmong_snoc _ ht hnf, atC, vs, t, hd, hv⟩⟩ atC ⟨vs, t, hd, hv⟩ ff (atF.trans (by rw [← hO]));generalize upd (upd (upd H tb (.tbl (ps ++ #[rawInt pos.line, rawInt pos.col, .ref c']))) c' (kno oc)) h'.objs.size (kno ob) = H' at at3 atH atT atC atF q3;have hok' : HOk X.prog X.w H' (h'.push ob) := fun b u e => by
    by_cases b1 : b = tb
    · subst b1;rw [atT] at e; cases e;exact push _ _ htb
    by_cases b2 : b = c'
    · subst b2;rw [atC] at e; cases e;exact J8 (push _ _ hoc)
    by_cases b3 : b = h'.objs.size
    · subst b3;rw [atF] at e; cases e;exact J8 (ar _ hob)
    rw [at3 b b1 b2 b3] at e;refine (I.hok b u e).stay (fun d o hc r => keepU d o (fun z => ?_) r) (fun d r => atH d _ (fun z => ?_) r) fun d xs r => atH d _ (fun z => ?_) r
    · subst z;rcases hc with z | z
      · exact b1 z.symm
      · rw [hP] at z; cases z
    · rw [z, hP] at r; cases r
    · rw [z, hP] at r; cases r
   refine ⟨.ref h'.objs.size, H', I.un (h' := h'.push ob) (t' := tk) ⟨fun b o e n _ _ => keepU b o (fun z => ?_) e, fun b o e n _ _ => ⟨o.slots, keepU b o (fun z => ?_) e⟩, fun b o e n _ => ?_, fun b o e _ => ?_, fun b xs e => atH b _ (fun z => ?_) e, fun b o u e => atH b _ (fun z => ?_) e, fun b ps' e => ?_⟩ hok', rfl, q3⟩
   · rw [z, hP] at n; cases n
   · rw [z, hP] at n; cases n
   · have hb := hsz b o e;rw [at3 b (fun z => by rw [z, hP] at n; cases n) (aw (bg hb hge)) (aw (Nat.lt_trans (bg hb hge) hlt))];exact n
   · by_cases b1 : b = tb
     · subst b1; exact ⟨_, push _ _ htb⟩
     · exact ⟨o, keepU b o b1 e⟩
   · rw [z, hP] at e; cases e
   · rw [z, hP] at e; cases e
   · by_cases b1 : b = tb
     · subst b1;rw [hP] at e; cases e;exact ⟨_, atT⟩
     · exact ⟨#[], by rw [atH b _ b1 e]; simp⟩
 · refine kla_makeFunctionHit (mg := X.mg) hcl I.ok.glob G hcode (C.keeps I.bk) tab ht hf hb fun ctv h' tk hk hsz => ?_;show EP X pins σ Q (.ref h'.objs.size) { s with heap := h'.push (kla_obj "<lambda>" (X.env.qual ++ "<lambda>") params body scope clos ((X.mg "__name__").getD .none) c' ctv), toks := tk };generalize hO : kla_obj "<lambda>" (X.env.qual ++ "<lambda>") params body scope clos ((X.mg "__name__").getD .none) c' ctv = ob;have ff : H h'.objs.size = none := I.hok.fresh hsz;have hob : ob.isFreed = false := by rw [← hO]; rfl
   have sm : ∀ b o, H b = some o → upd H h'.objs.size (kno ob) b = some o := fun b o e => by rw [zk (zm e ff)]; exact e
   refine ⟨.ref h'.objs.size, upd H h'.objs.size (kno ob), I.laid (h' := h'.push ob) (t' := tk) (fun b u e => a8 _ (hk b u e)) hsz (J8 (ar _ hob)), rfl, ?_⟩;exact q _ c' oc ctv _ (fun b o _ e => sm b o e) (k7.same ⟨ps, hP, ht, .inr ⟨c', oc, hf, hc', hoc⟩⟩ sm) (sm _ _ hc') hoc ff (zf.trans (by rw [← hO]))
end
noncomputable def del (H : Hp) (c : Addr) : Hp := fun b => if b = c then none else H b
theorem jv : del H c c = none := if_pos rfl
theorem vn {b : Addr} (h : b ≠ c) : del H c b = H b := if_neg h
theorem HOk.del {P : Program} {w : World} {H : Hp} {h : Heap} {c : Addr} {o : Obj} (ok : HOk P w H h) (e : H c = some (kno o)) : HOk P w (L2.del H c) h := fun b u q => by
 by_cases hb : b = c
 · rw [hb, jv] at q; cases q
 · rw [vn hb] at q;exact (ok b u q).stay (fun _ _ _ r => r) (fun d r => by rw [vn (fun z => by rw [z, e] at r; cases r)]; exact r) fun d xs r => by rw [vn (fun z => by rw [z, e] at r; cases r)]; exact r
theorem HOk.put (ok : HOk P w H h) (n : H c = none) (e : h.get? c = some o) : HOk P w (upd H c (kno o)) h := fun b u q => by
 by_cases hb : b = c
 · subst hb; rw [zf] at q; cases q; exact J8 e
 · rw [zk hb] at q;exact (ok b u q).stay (fun _ _ _ r => r) (fun d r => by rw [zk (zm r n)]; exact r) fun d xs r => by rw [zk (zm r n)]; exact r
section
end
noncomputable def zie (P : Program) (w : World) (K : Frag) (mg : Str → Option Value) (base : Heap) (N : List Str) (qual : Str) (scope : Scope) (f : Addr) (cd : Value) (cl : List (Str × Addr)) (A : Around) (outer : List Env) (s : Shared) (H : Hp) : Cx where
 prog := P
 w := w
 K := K
 mg := mg
 base := base
 A := A.deeper (envX qual scope s.heap.objs.size f cd cl)
 N := N
 s₀ := s
 H₀ := H
 env := envX qual scope s.heap.objs.size f cd cl
 outer := outer
 stack := envX qual scope s.heap.objs.size f cd cl :: outer
 ex := []
 calm := true
 fn := fun _ => false
 pn := []
 xe := fun _ _ => False
theorem zdq {z : Str} {d : Addr} (h : [(y, c)].lookup z = some d) : z = y ∧ d = c := by
 rw [List.lookup_cons] at h;split at h
 · rename_i e
   cases h;exact ⟨beq_iff_eq.mp e, rfl⟩
 · cases h
structure LamScope (scope : Scope) (x y : Str) : Prop where
 kind : scope.kind = .function
 co : scope.isCoroutine = false
 gen : scope.isGenerator = false
 cell : ∀ z ∈ scope.names, z.2 ≠ .cell
 lx : scope.names.lookup x = some .local
 ly : scope.names.lookup y = some .free
 one : ∀ z ∈ scope.names, z.2 = .free → z.1 = y
section
end
section
noncomputable def zlm (c : Addr) (i : Nat) (sp : Sp) (t : TA) : TE := fun σ H Q => t σ H fun vs H1 => ∃ vk, σ[i]? = some (some vk) ∧ ∀ oc u, oc.data = .cell (some u) → yw vk u → H1 c = none → sp vs (upd H1 c (kno oc)) (fun v H' => H' c = some (kno oc) → Q v (del H' c)) E0
theorem zgs {f : Addr} {ps : List Str} {sp : Sp} {t : TA} {es : List Expr} {p : Pos} (F : FnOk X.prog X.w X.K X.mg X.base CX0 k f fd ps sp) (hr : Room k X.A) (hm : X.mg x = some (.ref f)) (hk : keepIn X.K (.ref f) = true) (hb : Vs X.K fd ps [])
  (hi : X.N[i]? = some y) (hy : X.env.kindOf y = some .cell) (hc : X.env.cells.lookup y = some c) (hfn : X.fn y = true) (ha : PA X (e :: es) t) (hg : Gl X x := by rfl)
  (hdb : (x == ("__debug__" : Str)) = false := by decide) (he : starEach (e :: es) X.env = (false, eval e X.env) :: starEach es X.env := by rfl) (hpl : (backTo pos (starEach es X.env)).any (·.1) = false := by rfl) :
  PE X (.Call (.Name x p) (e :: es) [] pos) (zlm c i sp t) := by
 intro pins s σ H Q I h;refine wpAny_Call_Name_kw (J6 I hg hm ?_ hdb);refine callWith_K (h₀ := X.base) I.ok.mod.kin hk (thn (ha pos pins s σ H _ I h) fun us s1 ⟨vs, H1, I1, r, q⟩ => ⟨I1.kIn, ?_⟩) he hpl;obtain ⟨n, hσ, q⟩ := q;obtain ⟨m, hn, hl⟩ := id I1.loc;obtain ⟨u, ru, lk⟩ := hl i y _ hi hσ (.inr (.inl hy));obtain ⟨oc, hoc, hod⟩ : s1.heap.IsCell c (some u) := by
  rcases lk with ⟨z, _⟩ | ⟨_, c', z, w⟩
  · rw [hy] at z; cases z
  · rw [hc] at z; cases z; exact w
 have nc : H1 c = none := I1.freeC y c hc;have h2 := q oc u hod ru nc;have hl2 : us.length = ps.length := by rw [← r.length]; exact F.len _ _ _ _ h2
 have hcs : X.s₀.heap.objs.size ≤ c := I1.ok.cab y c hfn hc;have ne2 : ∀ {b : Addr}, H1 b = none → b ≠ c → upd H1 c (kno oc) b = none := fun n z => by rw [zk z]; exact n
 have e0 : Env0 X.prog X.w X.K X.mg X.base X.A X.stack s1 (upd H1 c (kno oc)) := by
  have z := I1.env0;refine ⟨z.frames, z.mod, fun b o e => ⟨(z.bs b o e).1, ne2 (z.bs b o e).2 (aw (bg (ac e) (ay I1.ok.bsz hcs)))⟩, z.bsz, z.funs, fun b hb => ne2 (z.frf b hb) fun y => ?_, z.hok.put nc hoc, z.bare⟩;rcases aa.mp (I1.stkSub b hb) with z1 | z1
  · exact I1.cne _ c hc (y.symm.trans z1)
  · obtain ⟨_, o, ho, _⟩ := I1.ok.funs.mem z1;rw [y] at ho;exact absurd (bg (ac ho) hcs) (c6 _)
 have hbd := hb s1 us I1.kIn (by rw [cw]; exact hl2);rw [cw] at hbd;refine wpAny_call (codeAny_mono (F.run X.A X.stack s1 (upd H1 c (kno oc)) ⟨us, []⟩ us vs _ E0 hr e0 hbd r h2) fun r s' hq => ?_);cases r with
 | error e => exact False.elim hq
 | ok fl =>
   cases fl with
   | next => exact False.elim hq
   | brk => exact False.elim hq
   | cont => exact False.elim hq
   | ret u =>
     obtain ⟨v, H', os, bare, un, hok, rv, qq⟩ := hq;have hc' : H' c = some (kno oc) := un.frzs c _ _ zf;have hcK : s'.heap.get? c = some oc := Va hok hc';have isoc : ∀ {o : Obj}, s1.heap.get? c = some o → s'.heap.get? c = some o := fun e => by rw [hoc] at e; cases e; exact hcK
     refine ⟨v, del H' c, I1.call' (ch := []) os ⟨fun b o e n hb _ => ?_, fun b o e n hb _ => ?_, fun b o e n _ => ?_, fun b o e _ => un.there b o e (by simp), fun b xs e => ?_, fun b o u e => ?_, fun b ps e => ?_⟩ (hok.del hc') bare (fun b z => absurd z (by simp)), rv, qq hc'⟩
     · by_cases z : b = c
       · subst z; exact isoc e
       · exact un.keep b o e (ne2 n z) hb (by simp)
     · by_cases z : b = c
       · subst z; exact ⟨o.slots, isoc e⟩
       · exact un.slot b o e (ne2 n z) hb (by simp)
     · by_cases z : b = c
       · subst z; exact jv
       · rw [vn z]; exact un.free b o e (ne2 n z) (by simp)
     · have z := zm e nc;rw [vn z]; exact un.tups b xs (by rw [zk z]; exact e)
     · have z := zm e nc;rw [vn z]; exact un.frzs b o u (by rw [zk z]; exact e)
     · have z := zm e nc;rw [vn z]; exact un.tbls b ps (by rw [zk z]; exact e)
end
theorem zhw {K : Frag} {outer : List Env} {f c' : Addr} {ctv u1 : Value} {uk : Value} {vk v1 : V} {oc occ : Obj} {Q : VK}
  (S : LamScope scope x y) (hr : Room k A) (e0 : Env0 P w K mg base A outer s H) (hf : H f = some (kno (kla_obj "<lambda>" qual params body scope [(y, c)] pm c' ctv))) (hc' : H c' = some (kno occ)) (ho : Vr occ qual) (hc : H c = some (kno oc)) (hoc : oc.data = .cell (some uk)) (rk : yw vk uk) (r : yw v1 u1)
  (hbind : bindArgs (kla_fn "<lambda>" qual params body scope [(y, c)] pm (.ref c') ctv) ⟨[u1], []⟩ = pure [(x, u1)])
  (hbody : PE (zie P w K mg base [x, y] qual scope f (.ref c') [(y, c)] A outer s (del H c)) body tE)
  (q : tE [some v1, some vk] (del H c) (fun v H' => H' c = none → Q v (upd H' c (kno oc)))) : codeAny (model P w) A (.call (.ref f) ⟨[u1], []⟩) (CR CX0 outer P w H s Q E0) s := by
 obtain ⟨vs, t, hd, hv⟩ := ho;have KX : K.In s.heap := e0.mod.kin.keeps fun b o e => (e0.bs b o e).1;have lim : s.heap.NoLimit := e0.mod.nolimit.keeps fun b o e => (e0.bs b o e).1;have hcK := Va e0.hok hc;have nfs : c ∉ frs outer := fun z => by rw [e0.frf c z] at hc; cases hc
 have hlt : c < s.heap.objs.size := ac hcK;refine kla_callFunE hr.depth (Va e0.hok hf) rfl S.co S.gen rfl ⟨c', occ, vs, t, rfl, Va e0.hok hc', hd, hv⟩ ?_;rw [hbind];refine a6 (wpAny_newFunctionEnv S.cell (fun z hz => by rw [ak.mp hz]; exact S.lx) (fun h₁ hns hsb => ?_) S.kind);have hk₁ : ∀ b o, s.heap.get? b = some o → h₁.get? b = some o := fun b o e => hsb.extBut b o (aw (ac e)) (a8 _ e);refine ⟨lim.keeps hk₁, ?_⟩;show codeAny _ _ (.expr body (envX qual scope s.heap.objs.size f (.ref c') [(y, c)])) _ _;have noA : ∀ b : Addr, b ∉ ([] : List Addr) := fun b z => absurd z (by simp);have dn : ∀ {b : Addr}, H b = none → del H c b = none := fun {b} n => by
  by_cases z : b = c
  · rw [z]; exact jv
  · rw [vn z]; exact n
 have I : Inv (zie P w K mg base [x, y] qual scope f (.ref c') [(y, c)] A outer s (del H c)) [] [some v1, some vk] (del H c) { s with heap := h₁, toks := s.toks + [(x, u1)].length } := by
  refine ⟨⟨e0.mod, S.kind, rfl, rfl, a9 _, fun a b d h1 h2 => ?_, fun z hz => ?_, fun z d hf _ => (az hf).elim, fun _ => hr.hd, Around.frames_deeper e0.frames, .inr ⟨rfl, rfl⟩, fun b z => absurd z (noA b), fun b o e => ⟨(e0.bs b o e).1, dn (e0.bs b o e).2⟩, e0.bsz, fun b _ _ => noA b, fun b z => absurd z (noA b), e0.funs, fun b hb => dn (e0.frf b hb)⟩,
   rfl, e0.bare, Un.kept hk₁, ⟨_, hns, fun i z v h1 h2 h3 => ?_⟩, fun z d h => ?_, dn (e0.hok.fresh (a9 _)), fun z d h => ?_, fun p hp => absurd (show p ∈ ([] : List (Addr × Obj)) from hp) (by simp), (e0.hok.del hc).kept hk₁, rfl⟩
  · rw [(zdq h1).1, (zdq h2).1]
  · have hz : scope.names.lookup z = some .cell ∨ scope.names.lookup z = some .free := hz;rcases hz with hz | hz
    · exact absurd rfl (S.cell _ (PySem.mem_of_lookup hz))
    · have e : z = y := S.one _ (PySem.mem_of_lookup hz) rfl;exact ⟨c, by rw [e]; show [(y, c)].lookup y = some c; rw [List.lookup_cons]; simp⟩
  · have h1 : ([x, y] : List Str)[i]? = some z := h1
    match i, h1, h2 with
    | 0, h1, h2 =>
      cases h1;cases h2;exact ⟨u1, r, .inl ⟨S.lx, by show List.lookup x [(x, u1)] = some u1; rw [List.lookup_cons]; simp⟩⟩
    | 1, h1, h2 =>
      cases h1;cases h2;exact ⟨uk, rk, .inr ⟨.inr S.ly, c, (by show [(y, c)].lookup y = some c; rw [List.lookup_cons]; simp), oc, hk₁ _ _ hcK, hoc⟩⟩
    | n + 2, h1, _ => cases h1
  · rw [(zdq h).2];exact ⟨_, oc, hk₁ _ _ hcK, hoc⟩
  · rw [(zdq h).2]; exact jv
 refine kla_codeExpr (cj (hbody [] _ _ (del H c) _ I q) (fun v s' ⟨x, H', I', rv, qq⟩ => ?_) fun e s' z => (show False from z).elim);have un : Un (frs outer) [] (del H c) H' s.heap s'.heap := I'.base;have hc2 : s'.heap.get? c = some oc := un.keep c oc hcK jv nfs (by simp);have hn2 : H' c = none := un.free c oc hcK jv (by simp);have dk : ∀ {b : Addr} {o : HO}, H b = some o → b ≠ c → del H c b = some o := fun e z => by rw [vn z]; exact e
 refine ⟨x, upd H' c (kno oc), I'.os, I'.bare, ⟨fun b o e n hb _ => un.keep b o e (dn n) hb (by simp), fun b o e n hb _ => un.slot b o e (dn n) hb (by simp), fun b o e n _ => ?_, fun b o e _ => un.there b o e (by simp), fun b xs e => ?_, fun b o u e => ?_, fun b ps e => ?_⟩, I'.hok.put hn2 hc2, rv, qq hn2⟩
 · have z : b ≠ c := fun z => by rw [z, hc] at n; cases n
   rw [zk z]; exact un.free b o e (dn n) (by simp)
 · have z : b ≠ c := fun z => by rw [z, hc] at e; cases e
   rw [zk z]; exact un.tups b xs (dk e z)
 · by_cases z : b = c
   · rw [z, hc] at e; cases e; rw [z]; exact zf
   · rw [zk z]; exact un.frzs b o u (dk e z)
 · have z : b ≠ c := fun z => by rw [z, hc] at e; cases e
   rw [zk z]; exact un.tbls b ps (dk e z)
section
noncomputable def zll (i : Nat) (qual : Str) (O : Addr → Addr → Value → Obj) (tE : TE) (t : TA) : TE := fun σ H Q => ∃ f, σ[i]? = some (some (.ref f)) ∧ t σ H fun vs H1 => ∃ v1 c c' ctv oc occ vk uk, vs = [v1] ∧ H1 f = some (kno (O c c' ctv)) ∧ H1 c' = some (kno occ) ∧ Vr occ qual ∧ H1 c = some (kno oc) ∧ oc.data = .cell (some uk) ∧ yw vk uk ∧
 tE [some v1, some vk] (del H1 c) fun v H' => H' c = none → Q v (upd H' c (kno oc))
theorem zgr {z : Str} {t : TA} {p : Pos} (S : LamScope scope x y) (hr : Room k X.A) (hi : X.N[i]? = some z) (hv : Vis X.env.scope z)
  (hbind : ∀ c c' ctv u1, bindArgs (kla_fn "<lambda>" qual params body scope [(y, c)] pm (.ref c') ctv) ⟨[u1], []⟩ = pure [(x, u1)])
  (hbody : ∀ f c c' s H, PE (zie X.prog X.w X.K X.mg X.base [x, y] qual scope f (.ref c') [(y, c)] X.A X.stack s H) body tE) (ha : PA X [e] t)
  (hd : (z == ("__debug__" : Str)) = false := by decide) (hcd : (z == ("__classdict__" : Str)) = false := by decide) (he : starEach [e] X.env = (false, eval e X.env) :: starEach [] X.env := by rfl) (hpl : (backTo pos (starEach [] X.env)).any (·.1) = false := by rfl) :
  PE X (.Call (.Name z p) [e] [] pos) (zll i qual (fun c c' ctv => kla_obj "<lambda>" qual params body scope [(y, c)] pm c' ctv) tE t) := by
 intro pins s σ H Q I h;obtain ⟨f, hσ, h⟩ := h;refine wpAny_Call_Name_kw (thn (zgn hi hv hd hcd pins s σ H (fun v H' => v = .ref f ∧ H' = H) I ⟨_, hσ, rfl, rfl⟩) fun u s0 ⟨v, H', I0, rv, e1, e2⟩ => ?_);subst e1 e2;obtain rfl : u = Value.ref f := rv;have key := thn (ha pos pins s0 σ H' _ I0 h) (Q' := fun vs s₁ => FnAt f s₁.heap ∧ wpAny (model X.prog X.w) X.A (call (.ref f) ([] ++ vs)) (EP X pins σ Q) X.xe s₁) fun us s1 ⟨vs, H1, I1, r, q⟩ => by
  obtain ⟨v1, c, c', ctv, oc, occ, vk, uk, rfl, hf, hc', ho, hc, hoc, rk, q⟩ := q;obtain ⟨u1, rfl, ru⟩ := v8 r;refine ⟨⟨_, _, _, _, Va I1.hok hf⟩, ?_⟩;refine wpAny_call (codeAny_mono (zhw S hr I1.env0 hf hc' ho hc hoc rk ru (hbind c c' ctv u1) (hbody f c c' s1 _) q) fun r s' hq => ?_);cases r with
  | error e => exact False.elim hq
  | ok fl =>
    cases fl with
    | next => exact False.elim hq
    | brk => exact False.elim hq
    | cont => exact False.elim hq
    | ret u => exact I1.after hq
 rw [he] at key ⊢;exact callWith_of (by show ((false || (backTo pos (starEach [] X.env)).any (·.1)) || false) = false; rw [hpl]; rfl) keeps_F (Calls.evalArgs_plain key)
end
section
variable {prog : Program} {d it v : Addr} {ep : Nat} {ok ov : Value}
theorem zkl (hd : (d == sysModules) = false) (x : qj s.heap d es ep) (hQ : Q (.ref s.heap.objs.size) { s with heap := s.heap.push { cls := .type "dict_items", data := .fields #[.ref d] } }) : wpAny (model prog w) A (call (.builtin "dict.items") [.ref d]) Q E s := by
 have hT := x.ty;refine c0 F.slot_dict_items hT F.entry_dict_items ?_ (F.args_dict_items_1 _);unfold Builtin.«dict.items»;refine a4 ?_;unfold Builtin.Dict.noArgs;refine a4 (wpAny_notOrdered_dict hT (show wpAny _ _ (pure d) _ _ s from a6 ?_));show wpAny _ _ (Builtin.Dict.showsAll d >>= _) _ _ s;unfold Builtin.Dict.showsAll;rw [if_neg (by rw [hd]; exact az)];exact a4 (a6 (a4 (ca (a6 ⟨_, rfl, hQ⟩))))
theorem zkn (hv : s.heap.IsItemsView v d) (x : qj s.heap d es ep)
  (hQ : Q (.ref s.heap.objs.size) { s with heap := s.heap.push { cls := .type "dict_itemiterator", data := .fields #[.none, .bool false, .ref d, .int 0 0, .int es.size 0, .int ep 0, .none, .none] } }) : wpAny (model prog w) A (pyIter (.ref v)) Q E s := by
 obtain ⟨ow, how, hcw, hdw⟩ := id hv;obtain ⟨o, ho, hc, hdat⟩ := id x;refine wpAny_pyIter_slot hv.typeIs F.slot_dict_items_iter (c0 F.slot_dict_items_iter hv.typeIs F.entry_dict_items_iter ?_ (F.args_dict_items_iter_1 _));unfold Builtin.«dict_items.__iter__»;refine a4 (a6 (a4 ?_));unfold Builtin.Dict_items.dictOf;refine a4 (wpAny_field how hdw (x := .ref d) rfl (a6 (a4 ?_)));unfold Builtin.Dict_items.newIterator;refine a4 (wpAny_dictEntries ho hdat (a4 (wpAny_dictEpoch ho hdat ?_)));simp only [show Builtin.Dict_items.ownsTuple "dict_itemiterator" = true by decide, if_true];refine ca (a6 ⟨_, rfl, "dict_itemiterator", _, ⟨_, ar _ rfl, rfl⟩, F.slot_dict_itemiterator_next.lookup, ?_⟩)
  (by simp only [sizeOk, Builtin.Dict_items.ownedTupleFields, ax, ba, ck, List.length_nil, sizeLine_eq]; omega)
 simpa [rawInt, Builtin.Dict_items.ownedTupleFields] using hQ
theorem zko {Q : Option Value → Shared → Prop} (hit : IsItemIter s.heap it d i es.size ep ok ov) (x : qj s.heap d es ep) (hi : i < es.size)
  (hQ : ∀ h', IsItemIterOut h' it d (i + 1) es.size ep es[i].key es[i].val s.heap.objs.size → h'.get? s.heap.objs.size = some { cls := .type "tuple", data := .seq #[es[i].key, es[i].val] } → h'.objs.size = s.heap.objs.size + 1 →
   (∀ b o, b ≠ it → s.heap.get? b = some o → h'.get? b = some o) → Q (some (.ref s.heap.objs.size)) { s with heap := h' }) : wpAny (model prog w) A (pyNext (.ref it)) Q E s := by
 obtain ⟨hp, g, dr, tk, os⟩ := s;obtain ⟨od, hod, hcd, hdd⟩ := id x;have hT : Shared.TypeIs ⟨hp, g, dr, tk, os⟩ (.ref it) "dict_itemiterator" := ⟨_, hit, rfl⟩
 unfold pyNext;refine a4 (wpAny_attempt (wpAny_callSpecial?_slot (name := Str.ofString "__next__") hT F.slot_dict_itemiterator_next (c0 F.slot_dict_itemiterator_next hT F.entry_dict_itemiterator_next (a4 (a6 (a4 (a4 ?_)))) (F.args_dict_itemiterator_next_1 _))));first | refine a4 (wpAny_typeNameOfWhole_itemiter hT (a6 ?_)) | refine a4 (wpAny_typeNameOf_itemiter hT (a6 ?_))
 refine a4 (wpAny_fieldsOf hit rfl ?_);simp only [show Builtin.Dict_items.ownsTuple "dict_itemiterator" = true by decide, if_true];show wpAny _ _ (if (Value.ref d == Value.none) = true then _ else _) _ _ _;rw [if_neg (show ¬ ((Value.ref d == Value.none) = true) from az)];refine a4 (a6 (a4 (wpAny_dictEntries hod hdd ?_)));rw [if_neg (by simp)];refine a4 (a6 (a4 (wpAny_dictEpoch hod hdd ?_)));rw [if_neg (by simp)];refine a6 ?_;simp only [show ¬ ((i : Int) < 0) from by omega, if_false, bw, cp hi];refine a4 ?_;first | refine a4 (wpAny_typeNameOfWhole_itemiter hT (a6 ?_)) | refine a4 (wpAny_typeNameOf_itemiter hT (a6 ?_))
 refine a4 (wpAny_isOneOf_itemiter hT ?_);show wpAny _ _ (setField (.ref it) 3 (rawInt ((i : Int) + 1)) >>= _) _ _ ⟨hp, g, dr, tk, os⟩;refine a4 (wpAny_setField_rec hit (by simp) fun h₁ he₁ hs₁ => ?_);replace hs₁ : Heap.SameBut it hp h₁ := hs₁;replace he₁ : IsItemIter h₁ it d (i + 1) es.size ep ok ov := by
  have e : ((i + 1 : Nat) : Int) = (i : Int) + 1 := by omega
  unfold IsItemIter; rw [e]; simpa [rawInt] using he₁
 have hT₁ : Shared.TypeIs ⟨h₁, g, dr, tk, os⟩ (.ref it) "dict_itemiterator" := ⟨_, he₁, rfl⟩
 refine a4 (wpAny_holding (a4 (wpAny_isOneOf_itemiter hT₁ (a4 (wpAny_isOneOf_itemiter hT₁ ?_)))));show wpAny _ _ (Builtin.Dict_items.pairFromOwner (.ref it) 6 es[i].key es[i].val) _ _ ⟨h₁, g, dr, tk, os⟩;unfold Builtin.Dict_items.pairFromOwner;refine a4 (wpAny_newTuple ?_);have he₂ : IsItemIter (h₁.push { cls := .type "tuple", data := .seq #[es[i].key, es[i].val] }) it d (i + 1) es.size ep ok ov := a8 _ he₁;generalize hh₂ : h₁.push { cls := .type "tuple", data := .seq #[es[i].key, es[i].val] } = h₂ at he₂;have hz₁ : h₁.objs.size = hp.objs.size := hs₁.1;have hil : hp.objs.size ≠ it := ce (ac (show hp.get? it = some _ from hit));have ht₂ : h₂.get? hp.objs.size = some { cls := .type "tuple", data := .seq #[es[i].key, es[i].val] } := by rw [← hh₂, ← hz₁]; exact ar _ rfl
 have hz₂ : h₂.objs.size = hp.objs.size + 1 := by rw [← hh₂, cy, hz₁]
 have hk₂ : ∀ b o, b ≠ it → hp.get? b = some o → h₂.get? b = some o := fun b o hb e => by rw [← hh₂]; exact a8 _ (hs₁.extBut b o hb e)
 show wpAny _ _ (Builtin.Dict_items.ownedTupleIsFree (.ref it) >>= _) _ _ ⟨h₂, g, dr, tk, os⟩;rw [hz₁];clear hh₂ he₁ hs₁ hT₁ hz₁ h₁;refine a4 ?_;unfold Builtin.Dict_items.ownedTupleIsFree;refine a4 (wpAny_field he₂ rfl (x := .none) rfl (a6 ?_));simp only [if_true];refine a4 (wpAny_field he₂ rfl (x := ok) rfl (a4 (wpAny_field he₂ rfl (x := ov) rfl ?_)));refine a4 (wpAny_setField_rec he₂ (by simp) fun h₃ he₃ hs₃ => ?_);replace he₃ : IsItemIter h₃ it d (i + 1) es.size ep es[i].key ov := he₃;refine a4 (wpAny_setField_rec he₃ (by simp) fun h₄ he₄ hs₄ => ?_);replace he₄ : IsItemIter h₄ it d (i + 1) es.size ep es[i].key es[i].val := he₄;refine a4 (wpAny_setField_rec he₄ (by simp) fun h₅ he₅ hs₅ => ?_);replace he₅ : IsItemIterOut h₅ it d (i + 1) es.size ep es[i].key es[i].val hp.objs.size := he₅;refine a4 (wpAny_setField_rec he₅ (by simp) fun h₆ he₆ hs₆ => ?_);replace he₆ : IsItemIterOut h₆ it d (i + 1) es.size ep es[i].key es[i].val hp.objs.size := he₆;replace hs₃ : Heap.SameBut it h₂ h₃ := hs₃;replace hs₄ : Heap.SameBut it h₃ h₄ := hs₄;replace hs₅ : Heap.SameBut it h₄ h₅ := hs₅;replace hs₆ : Heap.SameBut it h₅ h₆ := hs₆;have up : ∀ b o, b ≠ it → h₂.get? b = some o → h₆.get? b = some o := fun b o hb e => hs₆.extBut b o hb (hs₅.extBut b o hb (hs₄.extBut b o hb (hs₃.extBut b o hb e)));refine a4 (wpAny_letGo (a6 (a6 ⟨_, rfl, a6 (hQ h₆ he₆ (up _ _ hil ht₂) ?_ fun b o hb e => up b o hb (hk₂ b o hb e))⟩)));show h₆.objs.size = hp.objs.size + 1;rw [hs₆.1, hs₅.1, hs₄.1, hs₃.1, hz₂]
theorem zmw {Q : Option Value → Shared → Prop} (hh : A.handled = none) (hit : IsItemIter s.heap it d i es.size ep ok ov) (x : qj s.heap d es ep) (hi : es.size ≤ i)
  (hQ : ∀ h', Heap.ExtBut it s.heap h' → Q none { s with heap := h' }) : wpAny (model prog w) A (pyNext (.ref it)) Q E s := by
 obtain ⟨od, hod, hcd, hdd⟩ := id x;have hT : s.TypeIs (.ref it) "dict_itemiterator" := ⟨_, hit, rfl⟩
 unfold pyNext;refine a4 (wpAny_attempt (wpAny_callSpecial?_slot (name := Str.ofString "__next__") hT F.slot_dict_itemiterator_next (c0 F.slot_dict_itemiterator_next hT F.entry_dict_itemiterator_next (a4 (a6 (a4 (a4 ?_)))) (F.args_dict_itemiterator_next_1 _))));first | refine a4 (wpAny_typeNameOfWhole_itemiter hT (a6 ?_)) | refine a4 (wpAny_typeNameOf_itemiter hT (a6 ?_))
 refine a4 (wpAny_fieldsOf hit rfl ?_);simp only [show Builtin.Dict_items.ownsTuple "dict_itemiterator" = true by decide, if_true];show wpAny _ _ (if (Value.ref d == Value.none) = true then _ else _) _ _ s;rw [if_neg (show ¬ ((Value.ref d == Value.none) = true) from az)];refine a4 (a6 (a4 (wpAny_dictEntries hod hdd ?_)));rw [if_neg (by simp)];refine a4 (a6 (a4 (wpAny_dictEpoch hod hdd ?_)));rw [if_neg (by simp)];refine a6 ?_;simp only [show ¬ ((i : Int) < 0) from by omega, if_false, bw, Array.getElem?_eq_none hi];refine a4 ?_;first | refine a4 (wpAny_typeNameOfWhole_itemiter hT (a6 ?_)) | refine a4 (wpAny_typeNameOf_itemiter hT (a6 ?_))
 show wpAny _ _ (setField (.ref it) 2 .none >>= _) _ _ s;refine a4 (wpAny_setField hit rfl (by simp) ?_);show wpAny _ _ (newExc (.type "StopIteration") [] >>= _) _ _ _;refine a4 ?_;simp only [newExc, newTuple];refine a4 (ca (a4 (m := firstArgMember _ _) (wpAny_of_eq (a := Value.none) (by first | rfl | (simp only [firstArgMember]; rfl)) (ca ?_ (by size_fits)))) (by size_fits));simp only [raiseNew];refine a4 (wpAny_handled ?_);rw [show A.in1.handled = none from hh];refine a4 (a6 (wpAny_throw ?_));refine a4 (cn (T := "StopIteration") (b := true) ⟨_, ar _ rfl, rfl⟩ isSubtype_stop ?_);exact a6 (hQ _ (((Heap.SameBut.update ..).extBut.push _).push _))
theorem zkm (hit : IsItemIter s.heap it d i es.size ep ok ov) (h : Q (.ref it) s) : wpAny (model prog w) A (pyIter (.ref it)) Q E s := kcp_self hit h
end
section
variable {o : Expr} {apos cpos tpos : Pos} {k1 : _}
end
noncomputable def NFz (P : Program) (w : World) (H : Hp) (d : Addr) (o : Obj) (kvs : List (yz × V)) : Prop := ∃ xs : List q8, H d = some (.frz o (.ext (Xw P w d xs))) ∧ (d == sysModules) = false ∧ kvs.length ≤ sizeLine ∧ (xs.map (·.1)).Nodup ∧ KN H kvs xs
theorem NFz.same {H' : Hp} {d : Addr} (n : NFz P w H d o kvs) (s : Same H H') : NFz P w H' d o kvs := by
 obtain ⟨xs, e, a, b, c, r⟩ := n;exact ⟨xs, s _ _ e, a, b, c, Paired.mapP r fun _ _ z => ⟨z.1, z.2.1.mono s, z.2.2⟩⟩
section
variable {d : Addr}
theorem Inv.nofrzE (I : Inv X pins σ H s) (e : H d = some (.ext φ)) : ∀ o v, X.H₀ d ≠ some (.frz o v) := fun o v q => by
 have z := I.base.frzs d o v q;rw [e] at z;cases z
theorem Inv.freezeE (I : Inv X pins σ H s) (e : H d = some (.ext φ)) : ∃ o, Inv X pins σ (upd H d (.frz o (.ext φ))) s := by
 have ok := I.hok d _ e;obtain ⟨o, ho⟩ := ok.2.1;exact ⟨o, I.retag e (fun _ z => by cases z) (fun _ z => by cases z) (fun _ z => by cases z) (I.nofrzE e) ⟨ho, ok⟩⟩
end
noncomputable def zog (P : Program) (w : World) (ts : TS) : TS := fun D σ H => ∃ d kvs, NAt P w H d kvs ∧ ∀ o u, H d = some u → NFz P w (upd H d (.frz o u)) d o kvs → ts (znd d o u D) σ (upd H d (.frz o u))
theorem X8 {st : Stmt} {ts : TS} (h : PS X st ts) : PS X st (zog X.prog X.w ts) := by
 intro pins s σ H D I hq;obtain ⟨d, kvs, n, q⟩ := hq;obtain ⟨xs, e, a, b, c, r⟩ := n;obtain ⟨o, I'⟩ := I.freezeE e;have nf := I.nofrzE e;have q' := q o _ e ⟨xs, zf, a, b, c, r.tups (vt.upd e (fun zs z => by cases z))⟩;refine thn (h pins s σ _ _ I' q') fun f s' hf => ?_;cases f with
 | next => obtain ⟨σ', H', J, e', k⟩ := hf; exact ⟨σ', _, J.thaw e' nf, k⟩
 | brk => obtain ⟨σ', H', J, e', k⟩ := hf; exact ⟨σ', _, J.thaw e' nf, k⟩
 | cont => obtain ⟨σ', H', J, e', k⟩ := hf; exact ⟨σ', _, J.thaw e' nf, k⟩
 | ret v => obtain ⟨x, σ', H', J, r, e', k⟩ := hf; exact ⟨x, σ', _, J.thaw e' nf, r, k⟩
noncomputable def ziu (P : Program) (w : World) (d : Addr) (o : Obj) (kvs : List (yz × V)) : It :=
 ⟨fun i H => NFz P w H d o kvs ∧ i < kvs.length,
  fun i H v H' => ∃ p b kv, v = .ref p ∧ H p = none ∧ kvs[i]? = some kv ∧ Is H (tN kv.1) (.ref b) ∧ H' = upd H p (.tup [.ref b, kv.2]),
  fun i H => NFz P w H d o kvs ∧ kvs.length ≤ i⟩
theorem Zj {d : Addr} (ok : HOk P w H h) (n : NFz P w H d o kvs) :
  (d == sysModules) = false ∧ h.get? d = some o ∧ o.ExactDict ∧ ∃ es ep, o.data = .dict es ep ∧ es.size = kvs.length ∧ ∀ i kv, kvs[i]? = some kv → ∃ (hi : i < es.size) (b : Addr), es[i].key = .ref b ∧ Is H (tN kv.1) (.ref b) ∧ yw kv.2 es[i].val := by
 obtain ⟨xs, e, hd, _, _, rel⟩ := n;obtain ⟨h0, ⟨o', es, ep, ho, hcc, hdat, he⟩, _⟩ := ok d _ e;rw [h0] at ho;cases ho;have hxl := Paired.length rel;have hes := size_of_entries he;refine ⟨hd, h0, hcc, es, ep, hdat, by omega, fun i kv hk => ?_⟩;have hi : i < kvs.length := (bh.mp hk).1;have hi2 : i < es.size := by omega
 have hxi : xs[i]? = some xs[i] := ah (by omega);have key : ∀ {l : List (yz × V)} {m : List q8}, KN H l m → ∀ {i : Nat} {p q}, l[i]? = some p → m[i]? = some q → Is H (tN p.1) (.ref q.2.1) ∧ yw p.2 q.2.2 := by
  intro l m r;induction r with
  | nil => intro i p q e1 _; simp at e1
  | cons a _ ih =>
    intro i p q e1 e2;cases i with
    | zero => simp at e1 e2; subst e1 e2; exact a.2
    | succ i => exact ih (by simpa using e1) (by simpa using e2)
 have hr := key rel hk hxi;have hen := entry_at he i;rw [hxi, cp hi2] at hen;have hen := Option.some.inj hen;exact ⟨hi2, xs[i].2.1, by rw [hen]; rfl, hr.1, by rw [hen]; exact hr.2⟩
theorem Km {K : Frag} {k1} (d it : Addr) (o : Obj) (kvs : List (yz × V)) (es : Array DictEntry) (ep : Nat) (hoD : o.data = .dict es ep) :
  Turn P w K (.Tuple elts k1 pos) (ziu P w d o kvs) [it] it (fun i h => ∃ ok ov, IsItemIter h it d i es.size ep ok ov) where
 mem := by simp
 obj := fun i h st b hb => by
  obtain ⟨ok, ov, st⟩ := st;rw [ak.mp hb];exact ⟨_, st, fun v q => by
   have q' : Data.fields _ = Data.cell v := q;cases q'⟩
 keep := fun i h h' ⟨ok, ov, st⟩ k => ⟨ok, ov, k it (by simp) _ st⟩
 item := by
  intro X hP hw hK hc i pins s σ H E I hf st hg;subst hP hw hK;obtain ⟨hH, hi⟩ := hg;obtain ⟨ok, ov, st⟩ := st;obtain ⟨hd, h0, hcc, es', ep', hdat, hsz, hrow⟩ := Zj I.hok hH;rw [hoD] at hdat;cases hdat;obtain ⟨hi2, b, hkey, hb, rv⟩ := hrow i kvs[i] (ah hi);obtain ⟨f0, f1, f2, f3, f4, f5⟩ := hf it (by simp);refine zko st ⟨o, h0, hcc, hoD⟩ hi2 fun g gi gT gz gk => ?_;refine ⟨.ref s.heap.objs.size, rfl, wpAny_letOwnedTupleGo_items (s := { s with heap := g }) gi fun g' gi' gs' => ?_⟩;replace gs' : Heap.SameBut it g g' := gs';have hfr : H s.heap.objs.size = none := I.hok.fresh (a9 _);have nit : s.heap.objs.size ≠ it := ce (ac st);have hk' : ∀ c o, c ≠ it → s.heap.get? c = some o → g'.get? c = some o := fun c o n e => gs'.extBut c o n (gk c o n e);have hT' : g'.get? s.heap.objs.size = some { cls := .type "tuple", data := .seq #[es[i].key, es[i].val] } := gs'.extBut _ _ nit gT;have old1 : ∀ c o, H c = some o → c ≠ it := fun c o e z => by rw [z, f0] at e; cases e
  have I1 : Inv X pins σ (upd H s.heap.objs.size (.tup [.ref b, kvs[i].2])) { s with heap := g', toks := s.toks } := by
   refine I.step (g' := s.gens) (d' := s.drawn) (ch := [it]) (fun c hc => by rw [ak.mp hc]; exact ⟨f3, f1, f4, f5⟩) (fun c o n1 n2 n3 e _ => hk' c o (fun z => n3 (by simp [z])) e)
    (fun c o n1 n2 n3 e _ => ⟨o.slots, hk' c o (fun z => n3 (by simp [z])) e⟩) (fun c o n3 e n => by rw [zk (aw (ac e))]; exact n) (fun c o n3 e => ⟨o, hk' c o (fun z => n3 (by simp [z])) e⟩)
    (fun c zs e => by rw [zk (zm e hfr)]; exact e) (fun c o zs e => by rw [zk (zm e hfr)]; exact e) (fun c ps e => ⟨#[], by rw [zk (zm e hfr), e]; simp⟩) (fun m hm => ?_) (fun c ob e => ?_) I.bare
   · obtain ⟨o, es, ep, hoo, r⟩ := hm;exact ⟨o, es, ep, hk' _ o (ae f1) hoo, r⟩
   · by_cases hcb : c = s.heap.objs.size
     · subst hcb;rw [zf] at e;cases e;exact ⟨by show 2 ≤ sizeLine; rw [sizeLine_eq]; omega, [es[i].key, es[i].val], .cons hkey (.cons rv .nil), ⟨_, hT', rfl, _, rfl⟩, fun q hq => by
        have hq : g'.get? s.heap.objs.size = some q := hq;rw [hT'] at hq;cases hq;rfl⟩
     · rw [zk hcb] at e;refine (I.hok c ob e).stay (fun d o hc q => ?_) (fun d q => by rw [zk (zm q hfr)]; exact q) fun d zs q => by rw [zk (zm q hfr)]; exact q
       rcases hc with rfl | hc
       · exact hk' d o (old1 d _ e) q
       · exact hk' d o (old1 d _ hc) q
  exact ⟨.ref s.heap.objs.size, _, I1, rfl, ⟨_, b, _, rfl, hfr, ah hi, hb, rfl⟩, ⟨_, _, gi'⟩, fun c hc => by rw [ak.mp hc, zk (ae nit)]; exact f0⟩
 done := by
  intro X hP hw hK hc i pins s σ H E I hf st hg;subst hP hw hK;obtain ⟨hH, hi⟩ := hg;obtain ⟨ok, ov, st⟩ := st;obtain ⟨hd, h0, hcc, es', ep', hdat, hsz, _⟩ := Zj I.hok hH;rw [hoD] at hdat;cases hdat;obtain ⟨f0, f1, f2, f3, f4, f5⟩ := hf it (by simp);exact zmw (I.ok.hd hc) st ⟨o, h0, hcc, hoD⟩ (by omega) fun h' eb => ⟨rfl, I.turned (t' := s.toks) (fun b o hb e => eb b o hb e) f0 f1 f3 f4 f5⟩
 self := fun _ _ _ _ _ ⟨ok, ov, st⟩ h => zkm st h
section
variable {o : Expr} {apos cpos tpos : Pos} {k1 : _}
noncomputable def zke (P : Program) (w : World) (to : TE) : TI := fun σ H R => to σ H fun x H1 => ∃ d ob kvs, x = .ref d ∧ NFz P w H1 d ob kvs ∧ R (ziu P w d ob kvs) H1
theorem Qk {to : TE} (ho : PE X o to) (hbase : attributeBase o "items" X.env (eval o X.env) = eval o X.env := by rfl) (hline : (apos.endLine == cpos.line) = true := by rfl) : PI X (.Tuple elts k1 tpos) (.Call (.Attribute o "items" apos) [] [] cpos) (zke X.prog X.w to) := by
 intro pins s σ H R I h;refine wpAny_Call_method0_late hbase hline (thn (ho pins s σ H _ I h) fun v s1 ⟨x, H1, I1, r1, d, ob, kvs, ex, hd, q⟩ => ?_);subst ex;cases r1;obtain ⟨hs, h0, hcc, es, ep, hdat, hsz, _⟩ := Zj I1.hok hd;have X0 : qj s1.heap d es ep := ⟨ob, h0, hcc, hdat⟩
 refine ⟨"dict", "dict.items", PySem.F.plainAttrs_dict, PySem.F.slot_dict_items, PySem.F.type_dict_items, X0.ty, fun a e => ?_, Calls.callWith_builtin rfl (PySem.evalArgs_none (zkl hs X0 ?_))⟩
 · cases e;exact ⟨ob, h0, hcc.2.1⟩
 refine zkn (s := { s1 with heap := s1.heap.push { cls := .type "dict_items", data := .fields #[.ref d] } }) ⟨_, ar _ rfl, rfl, rfl⟩ (X0.at fun o e => a8 _ e) ?_;have I2 := I1.kept (t' := s1.toks) (h' := (s1.heap.push { cls := .type "dict_items", data := .fields #[.ref d] }).push { cls := .type "dict_itemiterator", data := .fields #[.none, .bool false, .ref d, .int 0 0, .int es.size 0, .int ep 0, .none, .none] }) fun b o e => a8 _ (a8 _ e);have hle : s1.heap.objs.size ≤ (s1.heap.push { cls := .type "dict_items", data := .fields #[.ref d] }).objs.size := by rw [cy]; omega
 refine ⟨_, [(s1.heap.push { cls := .type "dict_items", data := .fields #[.ref d] }).objs.size], _, _, H1, rfl, I2, Km d _ ob kvs es ep hdat, ⟨_, _, ar _ rfl⟩, fun b hb => ?_, q⟩;rw [ak.mp hb];exact I1.fpOk hle (I1.hok.fresh hle)
end
theorem Vf {d : Addr} {tb : TS} {D : Ends} (Pv : Nat → St → Hp → Prop) (h0 : Pv 0 σ H) (hl : ∀ i σ H, i ≤ kvs.length → Pv i σ H → NFz P w H d o kvs)
  (hs : ∀ i kv σ H, kvs[i]? = some kv → Pv i σ H → ∀ p b, H p = none → Is H (tN kv.1) (.ref b) → g (.ref p) σ (upd H p (.tup [.ref b, kv.2])) fun σ2 H2 => tb { D with nx := Pv (i + 1), ct := Pv (i + 1), bk := D.nx } σ2 H2) (hd : ∀ σ H, Pv kvs.length σ H → D.nx σ H) :
  ∃ W : Nat → Nat → St → Hp → Prop, (∃ m, W 0 m σ H) ∧ ∀ i m σ H, W i m σ H →
    ((ziu P w d o kvs).stop i H ∧ D.nx σ H) ∨ ((ziu P w d o kvs).go i H ∧ ∃ N : St → Hp → Prop, (∀ σ' H', N σ' H' → ∃ m', m' < m ∧ W (i + 1) m' σ' H') ∧ ∀ x H', (ziu P w d o kvs).yld i H x H' → g x σ H' fun σ2 H2 => tb { D with nx := N, ct := N, bk := D.nx } σ2 H2) := by
 refine ⟨fun i m σ H => m = kvs.length - i ∧ i ≤ kvs.length ∧ Pv i σ H, ⟨kvs.length, by simp, bo _, h0⟩, ?_⟩;rintro i m σ H ⟨rfl, hi, p⟩;have q := hl i σ H hi p;by_cases hlt : i < kvs.length
 · refine .inr ⟨⟨q, hlt⟩, Pv (i + 1), fun σ' H' p' => ⟨kvs.length - (i + 1), by omega, rfl, hlt, p'⟩, fun x H' y => ?_⟩;obtain ⟨p1, b, kv, rfl, hp1, hk, hb, rfl⟩ := y;exact hs i kv σ _ hk p p1 b hp1 hb
 · have e : i = kvs.length := by omega
   subst e;exact .inl ⟨⟨q, a9 _⟩, hd σ H p⟩
noncomputable def zm7 (P : Program) (w : World) (d : Addr) (o : Obj) (kvs : List (yz × V)) : It :=
 ⟨fun i H => NFz P w H d o kvs ∧ i < kvs.length, fun i H v H' => H' = H ∧ ∃ b kv, v = .ref b ∧ kvs[i]? = some kv ∧ Is H (tN kv.1) (.ref b), fun i H => NFz P w H d o kvs ∧ kvs.length ≤ i⟩
theorem zbn {K : Frag} (d it : Addr) (o : Obj) (kvs : List (yz × V)) (es : Array DictEntry) (ep : Nat) (hoD : o.data = .dict es ep) :
  Turn P w K tg (zm7 P w d o kvs) [it] it (fun i h => h.IsKeyIter it d i es.size ep) where
 mem := by simp
 obj := fun i h st b hb => by
  have e : b = it := by simpa using hb
  subst e;obtain ⟨o, e, c, dd⟩ := st;exact ⟨o, e, fun v z => by rw [dd] at z; cases z⟩
 keep := fun i h h' st k => st.at fun o e => k it (by simp) o e
 item := by
  intro X hP hw hK hc i pins s σ H E I hf st hg;subst hP hw hK;obtain ⟨hH, hi⟩ := hg;obtain ⟨hd, h0, hcc, es', ep', hdat, hsz, hrow⟩ := Zj I.hok hH;rw [hoD] at hdat;cases hdat;obtain ⟨hi2, b, hkey, hb, rv⟩ := hrow i kvs[i] (ah hi);obtain ⟨f0, f1, f2, f3, f4, f5⟩ := hf it (by simp);refine za5 st ⟨o, h0, hcc, hoD⟩ hi2 fun h' st' sb => ?_;have I1 : Inv X pins σ H { s with heap := h' } := I.turned (t' := s.toks) (fun b o hb e => (sb.2 b hb).trans e) f0 f1 f3 f4 f5;obtain ⟨o1, e1, c1, d1⟩ := id st';exact ⟨es[i].key, rfl, za1 (s := { s with heap := h' }) e1 c1 d1 (by decide) ⟨.ref b, H, I1, hkey, ⟨rfl, b, _, rfl, ah hi, hb⟩, st', fun b hb => (hf b hb).1⟩⟩
 done := by
  intro X hP hw hK hc i pins s σ H E I hf st hg;subst hP hw hK;obtain ⟨hH, hi⟩ := hg;obtain ⟨hd, h0, hcc, es', ep', hdat, hsz, _⟩ := Zj I.hok hH;rw [hoD] at hdat;cases hdat;obtain ⟨f0, f1, f2, f3, f4, f5⟩ := hf it (by simp);exact zdy (I.ok.hd hc) st ⟨o, h0, hcc, hoD⟩ (by omega) fun h' eb => ⟨rfl, I.turned (t' := s.toks) (fun b o hb e => eb b o hb e) f0 f1 f3 f4 f5⟩
 self := fun _ _ _ _ _ st h => wpAny_pyIter_keyiter st h
section
noncomputable def zmm (P : Program) (w : World) (tl : TE) : TI := fun σ H R => tl σ H fun v H1 => ∃ d o kvs, v = .ref d ∧ NFz P w H1 d o kvs ∧ R (zm7 P w d o kvs) H1
theorem zaa {l : Expr} {tl : TE} (hl : PE X l tl) : PI X tg l (zmm X.prog X.w tl) := by
 intro pins s σ H R I h;refine thn (hl pins s σ H _ I h) fun v s1 ⟨x, H1, I1, r1, d, o, kvs, ex, hd, q⟩ => ?_;subst ex;cases r1;obtain ⟨hs, h0, hcc, es, ep, hdat, hsz, _⟩ := Zj I1.hok hd;refine za6 hs ⟨o, h0, hcc, hdat⟩ ?_;refine ⟨s1.heap.objs.size, [s1.heap.objs.size], _, _, H1, rfl, I1.kept (t' := s1.toks) fun b o e => a8 _ e, zbn d _ o kvs es ep hdat, ⟨_, ar _ rfl, rfl, rfl⟩, fun b hb => ?_, q⟩;have e : b = s1.heap.objs.size := by simpa using hb
 subst e;exact I1.fpOk (a9 _) (I1.hok.fresh (a9 _))
end
section
variable {d : Addr} {tc : TT} {te : TE} {Q : VK}
theorem zas (Pv : Nat → List V → Hp → Prop) (h0 : Pv 0 [] H) (hl : ∀ i ys H, i ≤ kvs.length → Pv i ys H → NFz P w H d o kvs ∧ ys.length ≤ sizeLine)
  (hs : ∀ i kv ys H b, kvs[i]? = some kv → Is H (tN kv.1) (.ref b) → Pv i ys H → g (.ref b) (capσ k cap σ) H fun σ2 H2 => tc σ2 H2 fun b H3 => if b = true then te σ2 H3 fun y H4 => Pv (i + 1) (ys ++ [y]) H4 else Pv (i + 1) ys H3)
  (hd : ∀ ys H, Pv kvs.length ys H → ∀ p, H p = none → Q (.ref p) (upd H p (.lst ys))) : Y1 (zm7 P w d o kvs) g tc te k cap σ H Q := by
 refine ⟨fun i m ys H => m = kvs.length - i ∧ i ≤ kvs.length ∧ Pv i ys H, ⟨kvs.length, by simp, bo _, h0⟩, ?_⟩;rintro i m ys H ⟨rfl, hi, p⟩;obtain ⟨q, hz⟩ := hl i ys H hi p;by_cases hlt : i < kvs.length
 · refine .inr ⟨⟨q, hlt⟩, hz, Pv (i + 1), fun ys' H' p' => ⟨kvs.length - (i + 1), by omega, rfl, hlt, p'⟩, fun x H' y => ?_⟩;obtain ⟨e, b, kv, e2, hk, hb⟩ := y;subst e e2;exact hs i kv ys _ b hk hb p
 · have e : i = kvs.length := by omega
   subst e;exact .inl ⟨⟨q, a9 _⟩, hz, hd ys H p⟩
end
section
variable {d : Addr} {ob : Obj}
theorem NFz.dict (ok : HOk P w H h) (n : NFz P w H d ob kvs) : (d == sysModules) = false ∧ ∃ xs, KN H kvs xs ∧ xs.length ≤ sizeLine ∧ h.DictOfH (yy (yk P w)) d xs := by
 obtain ⟨xs, e, a, b, c, r⟩ := n;obtain ⟨_, ⟨o, es, ep, h1, h2, h3, h4⟩, _⟩ := ok d _ e;have hl := Paired.length r;refine ⟨a, xs, r, by omega, o, es, ep, h1, h2, h3, h4, ?_, c⟩;have all : ∀ {l : List (yz × V)} {m : List q8}, KN H l m → ∀ x ∈ m, (yy (yk P w)).is h x.1 x.2.1 := by
  intro l m q;induction q with
  | nil => intro x hx; exact nomatch hx
  | @cons p q ps qs hq t ih =>
    intro x hx;rcases aa.mp hx with e | hx
    · subst e;rw [← hq.1];exact qd ok hq.2.1
    · exact ih x hx
 exact all r
end
noncomputable def zbp (P : Program) (w : World) (td ty : TE) : TE := fun σ H Q => td σ H fun x H1 => ty σ H1 fun y H2 => ∃ d ob b kvs k v, x = .ref d ∧ y = .ref b ∧ NFz P w H2 d ob kvs ∧ Is H2 (tN k) (.ref b) ∧ jf kvs k = some v ∧ Q v H2
section
variable {o i : Expr} {td ty : TE}
theorem zac (hu : X.A.units + 3 < cLine) (ho : PE X o td) (hi : PE X i ty) (hs : zm5 i) : PE X (.Subscript o i pos) (zbp X.prog X.w td ty) := by
 intro pins s σ H Q I h;refine zc8 PySem.F.slot_dict_getitem.lookup hs (thn (ho pins s σ H _ I h) fun u s1 ⟨x, H1, I1, rx, q1⟩ => thn (hi pins s1 σ H1 _ I1 q1) fun iv s2 ⟨y, H2, I2, ry, d, ob, b, kvs, k, v, ex, ey, n, ik, l, q2⟩ => ?_);subst ex ey;obtain rfl : u = Value.ref d := rx;obtain rfl : iv = Value.ref b := ry;obtain ⟨hd, xs, rel, _, dd⟩ := n.dict I2.hok;obtain ⟨w', hw, rw'⟩ := V4.some_of (v := v) (o := (atKey xs (nK k)).map (·.2)) (by rw [← l]; exact rel.val k);obtain ⟨p, hp, hp2⟩ := dv.mp hw;refine ⟨dd.typeIs, wpAny_getItem_heap (Qi hu) (qd I2.hok ik) dd hp ?_⟩;rw [hp2];exact ⟨v, H2, I2.tok _, rw', q2⟩
end
end L2
set_option maxRecDepth 1000000
namespace L2
open PySem PySem.Spec PyProof.Rows
variable {M e : Nat}
noncomputable def itM (M i : Nat) : Nat := (i * 5 + 1) % (M + 1)
noncomputable def itN (M : Nat) : Nat → Nat → Nat
 | 0, i => i
 | n + 1, i => itN M n (itM M i)
noncomputable def orb (M : Nat) : Nat → Nat → Nat → Bool
 | 0, i, acc => Nat.beq i 0 && Nat.beq acc (2 ^ (M + 1) - 1)
 | n + 1, i, acc => match Nat.lor acc (Nat.shiftLeft 1 i) with
   | 0 => false
   | a + 1 => match itM M i with
     | 0 => orb M n 0 (a + 1)
     | j + 1 => orb M n (j + 1) (a + 1)
theorem zgw {n i acc : Nat} (h : orb M (n + 1) i acc = true) : orb M n (itM M i) (Nat.lor acc (Nat.shiftLeft 1 i)) = true := by
 unfold orb at h;cases e : Nat.lor acc (Nat.shiftLeft 1 i) with
 | zero => rw [e] at h; cases h
 | succ a =>
   rw [e] at h;cases e2 : itM M i with
   | zero => rw [e2] at h; exact h
   | succ j => rw [e2] at h; exact h
theorem zdk {M : Nat} : ∀ {n i acc : Nat}, orb M n i acc = true → itN M n i = 0 ∧ ∀ e, e ≤ M → Nat.testBit acc e = false → ∃ k, k < n ∧ itN M k i = e
 | 0, i, acc, h => by
   unfold orb at h;simp only [bc] at h;refine ⟨Nat.eq_of_beq_eq_true h.1, fun e he hb => ?_⟩;rw [Nat.eq_of_beq_eq_true h.2, Nat.testBit_two_pow_sub_one] at hb;exact absurd (decide_eq_false_iff_not.mp hb) (by omega)
 | n + 1, i, acc, h => by
   obtain ⟨h1, h2⟩ := zdk (zgw h);refine ⟨h1, fun e he hb => ?_⟩;by_cases c : i = e
   · exact ⟨0, Nat.zero_lt_succ _, c⟩
   · obtain ⟨k, hk, ek⟩ := h2 e he (by
      show Nat.testBit (acc ||| 1 <<< i) e = false;rw [Nat.testBit_or, hb, Nat.one_shiftLeft, Nat.testBit_two_pow, Bool.false_or];exact av c)
     exact ⟨k + 1, by omega, ek⟩
noncomputable def FP (M : Nat) : Prop := ∀ i e, i ≤ M → e ≤ M → ∃ k, k ≤ M ∧ itN M k i = e
theorem Wb {M : Nat} : ∀ (a b i : Nat), itN M (a + b) i = itN M b (itN M a i)
 | 0, b, i => by rw [Nat.zero_add]; rfl
 | a + 1, b, i => by
   rw [show a + 1 + b = (a + b) + 1 by omega];exact Wb a b (itM M i)
theorem Qu (h : orb M (M + 1) 0 0 = true) : FP M := fun i e hi he => by
 obtain ⟨h0, h1⟩ := zdk h;obtain ⟨a, ha, ea⟩ := h1 i hi (Nat.zero_testBit i);obtain ⟨b, hb, eb⟩ := h1 e he (Nat.zero_testBit e);by_cases c : a ≤ b
 · refine ⟨b - a, by omega, ?_⟩;rw [← ea, ← Wb, show a + (b - a) = b by omega];exact eb
 · refine ⟨(M + 1 - a) + b, by omega, ?_⟩;rw [← ea, ← Wb, show a + (M + 1 - a + b) = (M + 1) + b by omega, Wb, h0];exact eb
theorem fp7 : FP 7 := Qu (by decide +kernel)
theorem zp6 : FP 31 := Qu (by decide +kernel)
theorem zpe : FP 127 := Qu (by decide +kernel)
theorem zpd : FP 511 := Qu (by decide +kernel)
theorem zmt : FP 2047 := Qu (by decide +kernel)
theorem zms : FP 8191 := Qu (by decide +kernel)
noncomputable def lpN (M : Nat) : Nat → Nat × Nat → Nat × Nat
 | 0, s => s
 | n + 1, s => lpN M n (SetTable.leap M s.1 s.2)
theorem zdp {M : Nat} : ∀ (a b : Nat) (s : Nat × Nat), lpN M (a + b) s = lpN M b (lpN M a s)
 | 0, b, s => by rw [Nat.zero_add]; rfl
 | a + 1, b, s => by
   rw [show a + 1 + b = (a + b) + 1 by omega];exact zdp a b _
theorem zk5 {M : Nat} : ∀ (n : Nat) (s : Nat × Nat), (lpN M n s).2 = s.2 / 32 ^ n
 | 0, s => by rw [Nat.pow_zero, Nat.div_one]; rfl
 | n + 1, s => by
   show (lpN M n (SetTable.leap M s.1 s.2)).2 = _;rw [zk5 n];show s.2 / 32 / 32 ^ n = _;rw [Nat.div_div_eq_div_mul, Nat.pow_succ, Nat.mul_comm]
theorem zhn {M : Nat} : ∀ (n : Nat) (s : Nat × Nat), s.1 ≤ M → (lpN M n s).1 ≤ M
 | 0, s, h => h
 | n + 1, s, h => zhn n _ (Nat.le_of_lt_succ (Nat.mod_lt _ (Nat.succ_pos M)))
theorem zho {M : Nat} : ∀ (n i : Nat), lpN M n (i, 0) = (itN M n i, 0)
 | 0, i => rfl
 | n + 1, i => by
   show lpN M n (SetTable.leap M i 0) = _;have : SetTable.leap M i 0 = (itM M i, 0) := rfl;rw [this];exact zho n (itM M i)
theorem zhm (F : FP M) {i q : Nat} (hi : i ≤ M) (hq : q < 2 ^ 64) (he : e ≤ M) : ∃ k, k ≤ M + 13 ∧ (lpN M k (i, q)).1 = e := by
 have h1 := zhn (M := M) 13 (i, q) hi;have h2 : (lpN M 13 (i, q)).2 = 0 := by
  rw [zk5];exact Nat.div_eq_of_lt (bg hq (by decide))
 obtain ⟨k, hk, ek⟩ := F _ e h1 he;refine ⟨13 + k, by omega, ?_⟩;rw [zdp, show lpN M 13 (i, q) = ((lpN M 13 (i, q)).1, 0) from Prod.ext rfl h2, zho];exact ek
noncomputable def Kk (t : SetTable) : Nat → SetTable.Probe → SetTable.Probe
 | 0, p => p
 | n + 1, p => Kk t n (t.advance p)
theorem Vq {t : SetTable} : ∀ (a b : Nat) (p : SetTable.Probe), Kk t (a + b) p = Kk t b (Kk t a p)
 | 0, b, p => by rw [Nat.zero_add]; rfl
 | a + 1, b, p => by
   rw [show a + 1 + b = (a + b) + 1 by omega];exact Vq a b _
noncomputable def hdP (M : Nat) (s : Nat × Nat) : SetTable.Probe := { j := s.1, more := SetTable.runEnd M s.1 - s.1, i := s.1, perturb := s.2, dummy := none }
theorem zd7 {t : SetTable} : ∀ (m : Nat) (p : SetTable.Probe), p.more = m → ∃ p', Kk t m p = p' ∧ p'.more = 0 ∧ p'.i = p.i ∧ p'.perturb = p.perturb ∧ p'.dummy = p.dummy
 | 0, p, h => ⟨p, rfl, h, rfl, rfl, rfl⟩
 | m + 1, p, h => by
   have e : t.advance p = { p with j := p.j + 1, more := p.more - 1 } := by
    unfold SetTable.advance;rw [if_pos (by omega)]
   obtain ⟨p', h1, h2, h3, h4, h5⟩ := zd7 (t := t) m { p with j := p.j + 1, more := p.more - 1 } (by show p.more - 1 = m; omega);refine ⟨p', ?_, h2, h3, h4, h5⟩;show Kk t m (t.advance p) = p';rw [e];exact h1
theorem ziq {t : SetTable} (s : Nat × Nat) : ∃ n, n ≤ 10 ∧ Kk t n (hdP t.mask s) = hdP t.mask (SetTable.leap t.mask s.1 s.2) := by
 obtain ⟨p', h1, h2, h3, h4, h5⟩ := zd7 (t := t) _ (hdP t.mask s) rfl;refine ⟨(hdP t.mask s).more + 1, ?_, ?_⟩
 · show SetTable.runEnd t.mask s.1 - s.1 + 1 ≤ 10;unfold SetTable.runEnd;split <;> omega
 · rw [Vq, h1];show t.advance p' = _;unfold SetTable.advance;rw [if_neg (by omega), h3, h4];obtain ⟨j, mo, i, q, d⟩ := p';have h5 : d = none := h5;rw [h5];rfl
theorem Q8 {t : SetTable} : ∀ (k : Nat) (s : Nat × Nat), ∃ n, n ≤ 10 * k ∧ Kk t n (hdP t.mask s) = hdP t.mask (lpN t.mask k s)
 | 0, s => ⟨0, a9 _, rfl⟩
 | k + 1, s => by
   obtain ⟨a, ha, ea⟩ := ziq (t := t) s;obtain ⟨b, hb, eb⟩ := Q8 (t := t) k (SetTable.leap t.mask s.1 s.2);refine ⟨a + b, by omega, ?_⟩;rw [Vq, ea, eb];rfl
noncomputable def Rch (t : SetTable) (e n : Nat) (p : SetTable.Probe) : Prop := (Kk t n p).j = e
theorem zd4 (h : Int) : SetTable.bits h < 2 ^ 64 := by
 unfold SetTable.bits;have h1 := dj h (show (0 : Int) < 2 ^ 64 by decide);have h0 := dg h (show (2 ^ 64 : Int) ≠ 0 by decide);omega
theorem zeh {t : SetTable} (F : FP t.mask) (h : Int) (he : e ≤ t.mask) : ∃ n, n < 10 * SetTable.turns t.mask ∧ Rch t e n (t.probeStart h) := by
 have hi : SetTable.bits h % (t.mask + 1) ≤ t.mask := Nat.le_of_lt_succ (Nat.mod_lt _ (Nat.succ_pos _));obtain ⟨k, hk, ek⟩ := zhm F hi (zd4 h) he;obtain ⟨n, hn, en⟩ := Q8 (t := t) k (SetTable.bits h % (t.mask + 1), SetTable.bits h);refine ⟨n, ?_, ?_⟩
 · unfold SetTable.turns;omega
 · unfold Rch;rw [show t.probeStart h = hdP t.mask (SetTable.bits h % (t.mask + 1), SetTable.bits h) from rfl, en];exact ek
theorem zej {t : SetTable} (hd : t.dummies = #[]) (he : e ∉ t.place.toList) : t.slot e = .empty := by
 unfold SetTable.slot;have h1 : (t.place[SetTable.below t.place e]? == some e) = false := by
  rw [beq_eq_false_iff_ne];intro z;exact he (Array.mem_toList_iff.mpr (Array.mem_of_getElem? z))
 have h2 : SetTable.has t.dummies e = false := by
  rw [hd];unfold SetTable.has;simp
 simp only [h1, h2];rfl
theorem zjd {t : SetTable} (hd : t.dummies = #[]) (e : Nat) : t.slot e ≠ .dummy := by
 unfold SetTable.slot;have h2 : SetTable.has t.dummies e = false := by
  rw [hd];unfold SetTable.has;simp
 simp only [h2];split
 · exact fun z => by cases z
 · exact fun z => by cases z
theorem Q9 {t : SetTable} (p : SetTable.Probe) : (t.advance p).dummy = p.dummy := by
 unfold SetTable.advance;split <;> rfl
theorem zdv {t : SetTable} {hashAt : Nat → Int} {h : Int} {e : Nat} (hd : t.dummies = #[]) (hs : t.slot e = .empty) : ∀ (fuel n : Nat) (p : SetTable.Probe), n < fuel → Rch t e n p → p.dummy = none →
  (∃ j, SetTable.probe.go t hashAt h fuel p = some (.empty j none)) ∨ (∃ j i next m, SetTable.probe.go t hashAt h fuel p = some (.candidate j i next) ∧ t.slot j = .live i ∧ hashAt i = h ∧ next.dummy = none ∧ m < n ∧ Rch t e m next)
 | 0, n, p, hn, _, _ => absurd hn (di _)
 | fuel + 1, n, p, hn, hr, hp => by
   unfold SetTable.probe.go;cases z : t.slot p.j with
   | empty => exact .inl ⟨p.j, by rw [hp]⟩
   | dummy => exact absurd z (zjd hd _)
   | live i =>
     cases n with
     | zero =>
       have : p.j = e := hr;rw [this, hs] at z;cases z
     | succ n =>
       have hr' : Rch t e n (t.advance p) := hr;show (∃ j, (if (hashAt i == h) = true then _ else _) = _) ∨ _;by_cases c : (hashAt i == h) = true
       · refine .inr ⟨p.j, i, t.advance p, n, ?_, z, beq_iff_eq.mp c, by rw [Q9, hp], by omega, hr'⟩;simp only [c, if_true]
       · simp only [c, if_false];rcases zdv hd hs fuel n (t.advance p) (by omega) hr' (by rw [Q9, hp]) with q | ⟨j, i', next, m, q, r, s', d, u, v⟩
         · exact .inl q
         · exact .inr ⟨j, i', next, m, q, r, s', d, by omega, v⟩
end L2
set_option maxRecDepth 1000000
namespace L2
open PySem PySem.Spec PyProof.Rows
variable {a b : Addr} {A : Around} {es : Array (Int × Value)} {xs : Array Nat} {its : Array Value} {Q : Bool → Shared → Prop} {h : Int} {M ep k m n : Nat} {o : Obj} {P : Program} {R : Result → Shared → Prop} {s : Shared} {E : Value → Shared → Prop} {w : World}
theorem zf8 {α : Type} [DecidableEq α] : ∀ {L M : List α}, L.Nodup → (∀ x ∈ L, x ∈ M) → L.length ≤ M.length
 | [], _, _, _ => bo _
 | a :: L, M, nd, h => by
   have hm := h a be;have nd := c7.mp nd;have := zf8 (L := L) (M := M.erase a) nd.2 fun x hx => (List.mem_erase_of_ne (fun (z : x = a) => nd.1 (by rw [← z]; exact hx))).mpr (h x (bn _ hx));rw [List.length_erase_of_mem hm] at this;have : 0 < M.length := List.length_pos_of_mem hm;show L.length + 1 ≤ M.length;omega
theorem zff (h : xs.size ≤ M) : ∃ e, e ≤ M ∧ e ∉ xs.toList := by
 by_cases c : ∃ e, e ≤ M ∧ e ∉ xs.toList
 · exact c
 · exfalso;have := zf8 (L := List.range (M + 1)) (M := xs.toList) List.nodup_range fun x hx => by
    by_cases z : x ∈ xs.toList
    · exact z
    · exact absurd ⟨x, by have := cb.mp hx; omega, z⟩ c
   rw [cq, Array.length_toList] at this;omega
theorem K9 {t : SetTable} {hashAt : Nat → Int} (F : FP t.mask) (hd : t.dummies = #[]) (hf : t.place.size ≤ t.mask) : ∃ e n, t.slot e = .empty ∧ n < 10 * SetTable.turns t.mask ∧ Rch t e n (t.probeStart h) := by
 obtain ⟨e, he, hn⟩ := zff hf;obtain ⟨n, h1, h2⟩ := zeh F h he;exact ⟨e, n, zej hd hn, h1, h2⟩
theorem zb2 {t : SetTable} {hashAt : Nat → Int} {e : Nat} {p : SetTable.Probe} (hd : t.dummies = #[]) (hs : t.slot e = .empty) (hn : n < 10 * SetTable.turns t.mask) (hr : Rch t e n p) (hp : p.dummy = none) :
 (∃ j, t.probe hashAt h p = some (.empty j none)) ∨ (∃ j i next m, t.probe hashAt h p = some (.candidate j i next) ∧ t.slot j = .live i ∧ hashAt i = h ∧ next.dummy = none ∧ m < n ∧ Rch t e m next) := zdv hd hs _ n p hn hr hp
theorem zj0 {t : SetTable} {j i : Nat} (h : t.slot j = .live i) : i < t.place.size := by
 unfold SetTable.slot at h;by_cases c : (t.place[SetTable.below t.place j]? == some j) = true
 · simp only [c, if_true] at h;cases h;exact (Array.getElem?_eq_some_iff.mp (beq_iff_eq.mp c)).1
 · exfalso;have c : (t.place[SetTable.below t.place j]? == some j) = false := by simpa using c
   simp only [c] at h;cases z : SetTable.has t.dummies j with
   | true => rw [z] at h; exact absurd h (fun y => by cases y)
   | false => rw [z] at h; exact absurd h (fun y => by cases y)
structure Lay (M : Nat) (own : Array (Option Nat)) (k : Nat) : Prop where
 sz : own.size = M + 1
 cnt : own.toList.countP Option.isSome = k
 lt : ∀ q, some q ∈ own.toList → q < k
theorem zhv {own : Array (Option Nat)} (L : Lay M own k) (h : k ≤ M) : ∃ e, e ≤ M ∧ own.getD e (some 0) = none := by
 by_cases c : ∃ e, e ≤ M ∧ own.getD e (some 0) = none
 · exact c
 · exfalso;have : own.toList.countP Option.isSome = own.toList.length := List.countP_eq_length.mpr fun x hx => by
    obtain ⟨i, hi, ei⟩ := d0.mp hx;cases x with
    | some _ => rfl
    | none =>
      rw [Array.length_toList] at hi;refine absurd ⟨i, by have := L.sz; omega, ?_⟩ c;rw [Array.getD_eq_getD_getElem?, cp hi];rw [Array.getElem_toList] at ei;rw [ei];rfl
   rw [L.cnt, Array.length_toList, L.sz] at this;omega
theorem Qt {M : Nat} {own : Array (Option Nat)} {e : Nat} (he : own.getD e (some 0) = none) : ∀ (fuel k : Nat) (s : Nat × Nat), k < fuel → (lpN M k s).1 = e → ∃ j, SetTable.layClean.free M own fuel s.1 s.2 = some j ∧ own.getD j (some 0) = none
 | 0, k, s, h, _ => absurd h (di _)
 | fuel + 1, k, s, h, ek => by
   unfold SetTable.layClean.free;cases z : (List.range (SetTable.runEnd M s.1 + 1 - s.1)).find? fun k => (own.getD (s.1 + k) (some 0)).isNone with
   | some q =>
     have hz : (own.getD (s.1 + q) (some 0)).isNone = true := List.find?_some (p := fun k => (own.getD (s.1 + k) (some 0)).isNone) z;exact ⟨s.1 + q, rfl, Option.isNone_iff_eq_none.mp hz⟩
   | none =>
     cases k with
     | zero =>
       have ek : s.1 = e := ek;have := List.find?_eq_none.mp z 0 (cb.mpr (by unfold SetTable.runEnd; split <;> omega));rw [Nat.add_zero, ek, he] at this;exact absurd rfl this
     | succ k =>
       exact Qt he fuel k (SetTable.leap M s.1 s.2) (by omega) ek
theorem zfk {own : Array (Option Nat)} {j : Nat} (h : own.getD j (some 0) = none) : j < own.size ∧ (own.setIfInBounds j (some k)).toList.countP Option.isSome = own.toList.countP Option.isSome + 1 := by
 have hj : j < own.size := by
  by_cases c : j < own.size
  · exact c
  · rw [Array.getD_eq_getD_getElem?, Array.getElem?_eq_none (by omega)] at h;cases h
 refine ⟨hj, ?_⟩;have ej : own[j] = none := by
  rw [Array.getD_eq_getD_getElem?, cp hj] at h;exact h
 rw [Array.toList_setIfInBounds, List.countP_set (by rw [Array.length_toList]; exact hj), Array.getElem_toList, ej];rfl
theorem zhu (F : FP M) {own : Array (Option Nat)} (L : Lay M own k) (hk : k ≤ M) (h : Int) : ∃ j, SetTable.layClean.free M own (SetTable.turns M) (SetTable.bits h % (M + 1)) (SetTable.bits h) = some j ∧ Lay M (own.setIfInBounds j (some k)) (k + 1) := by
 obtain ⟨e, he, hn⟩ := zhv L hk;obtain ⟨n, hn1, hn2⟩ := zhm F (Nat.le_of_lt_succ (Nat.mod_lt (SetTable.bits h) (Nat.succ_pos M))) (zd4 h) he;obtain ⟨j, h1, h2⟩ := Qt hn (SetTable.turns M) n (SetTable.bits h % (M + 1), SetTable.bits h) (by unfold SetTable.turns; omega) hn2;refine ⟨j, h1, ?_⟩;obtain ⟨hj, hc⟩ := zfk (k := k) h2;refine ⟨by rw [Array.size_setIfInBounds]; exact L.sz, by rw [hc, L.cnt], fun q hq => ?_⟩;rw [Array.toList_setIfInBounds] at hq;rcases List.mem_or_eq_of_mem_set hq with z | z
 · have := L.lt q z;omega
 · cases z;omega
theorem zav {M : Nat} (F : FP M) : ∀ (hs : List Int) (own : Array (Option Nat)) (k : Nat), Lay M own k → k + hs.length ≤ M + 1 → ∃ own', (hs.foldl (fun (acc : Option (Array (Option Nat) × Nat)) h => do
  let (owner, k) ← acc;let j ← SetTable.layClean.free M owner (SetTable.turns M) (SetTable.bits h % (M + 1)) (SetTable.bits h)
  pure (owner.setIfInBounds j (some k), k + 1)) (some (own, k))) = some (own', k + hs.length) ∧ Lay M own' (k + hs.length)
 | [], own, k, L, _ => ⟨own, rfl, L⟩
 | h :: hs, own, k, L, hl => by
   have hl : k + (hs.length + 1) ≤ M + 1 := hl;obtain ⟨j, e, L'⟩ := zhu F L (by omega) h;obtain ⟨own', e', L''⟩ := zav F hs _ (k + 1) L' (by omega);refine ⟨own', ?_, by rw [show k + (h :: hs).length = k + 1 + hs.length by rw [ck]; omega]; exact L''⟩;rw [List.foldl_cons, show k + (h :: hs).length = k + 1 + hs.length by rw [ck]; omega, ← e'];congr 1;show (do let j ← SetTable.layClean.free M own (SetTable.turns M) (SetTable.bits h % (M + 1)) (SetTable.bits h); pure (own.setIfInBounds j (some k), k + 1)) = _;rw [e];rfl
theorem ze8 (F : FP M) (hs : Array Int) (h : hs.size ≤ M + 1) : ∃ own, SetTable.layClean M hs = some own ∧ Lay M own hs.size := by
 have L0 : Lay M (Array.replicate (M + 1) none) 0 := ⟨Array.size_replicate, by rw [Array.toList_replicate, List.countP_replicate]; rfl, fun q hq => by
  rw [Array.toList_replicate] at hq;cases (dl.mp hq).2⟩
 obtain ⟨own, e, L⟩ := zav F hs.toList _ 0 L0 (by rw [Array.length_toList]; omega);rw [Nat.zero_add, Array.length_toList] at e L;refine ⟨own, ?_, L⟩;unfold SetTable.layClean;rw [← Array.foldl_toList, e];rfl
theorem zmu {own : Array (Option Nat)} (hs : own.size = M + 1) : ((List.range (M + 1)).filterMap fun j => (own.getD j none).map (j, ·)).length = own.toList.countP Option.isSome ∧ ∀ p ∈ ((List.range (M + 1)).filterMap fun j => (own.getD j none).map (j, ·)), some p.2 ∈ own.toList := by
 constructor
 · rw [List.length_filterMap_eq_countP];have : own.toList = (List.range (M + 1)).map fun j => own.getD j none := by
    refine List.ext_getElem (by rw [Array.length_toList, a7, cq, hs]) fun i h1 h2 => ?_;rw [Array.length_toList] at h1;rw [List.getElem_map, List.getElem_range, Array.getElem_toList, Array.getD_eq_getD_getElem?, cp h1];rfl
   rw [this, List.countP_map];congr 1;funext j;show ((own.getD j none).map (j, ·)).isSome = (own.getD j none).isSome;rw [Option.isSome_map]
 · intro p hp;obtain ⟨j, hj, e⟩ := List.mem_filterMap.mp hp;obtain ⟨q, hq, rfl⟩ := dv.mp e;rw [Array.getD_eq_getD_getElem?] at hq;cases z : own[j]? with
   | none => rw [z] at hq; cases hq
   | some x =>
     rw [z] at hq;have hq : x = some q := hq;rw [hq] at z;exact Array.mem_toList_iff.mpr (Array.mem_of_getElem? z)
theorem zj8 {finger moves : Nat} {led plain : Bool} (F : FP M) (hs : Array Int) (h : hs.size ≤ M + 1) : ∃ t order, SetTable.laid M finger moves led plain hs = some (t, order) ∧ t.mask = M ∧ t.place.size = hs.size ∧ t.dummies = #[] ∧ t.led = led ∧ t.plain = plain ∧ t.moves = moves ∧ order.size = hs.size ∧ ∀ q ∈ order.toList, q < hs.size := by
 obtain ⟨own, e, L⟩ := ze8 F hs h;obtain ⟨h1, h2⟩ := zmu L.sz;rw [L.cnt] at h1;refine ⟨_, _, by unfold SetTable.laid; rw [e]; rfl, rfl, ?_, rfl, rfl, rfl, rfl, ?_, fun q hq => ?_⟩
 · rw [ax, a7];exact h1
 · rw [ax, a7];exact h1
 · obtain ⟨p, hp, rfl⟩ := bq.mp hq;exact L.lt _ (h2 p hp)
structure SKind (P : Program) (w : World) (K : Type) [DecidableEq K] extends HeapKind P w K where
 cls : ∀ {A : Around} {E : Value → Shared → Prop} {s : Shared} {k : K} {a : Addr} {Q : Bool → Shared → Prop}, is s.heap k a → Q false s → wpAny (model P w) A (ofAClassStatement 8 (.ref a)) Q E s
 byv : ∀ {A : Around} {E : Value → Shared → Prop} {s : Shared} {k : K} {a : Addr} {Q : Bool → Shared → Prop}, is s.heap k a → (∀ b, Q b s) → wpAny (model P w) A (hashByValue 8 (.ref a)) Q E s
 keepT : ∀ {h h' : Heap} {k : K} {a : Addr}, is h k a → (∀ c o, h.get? c = some o → o.cls = .type "tuple" → h'.get? c = some o) → is h' k a
section
variable {K : Type} [DecidableEq K] (knd : SKind P w K)
noncomputable def zla (h : Heap) (k : K) (es : Array (Int × Value)) : Prop := ∀ e ∈ es.toList, ∃ k' b, e.2 = .ref b ∧ knd.is h k' b ∧ k' ≠ k
variable {knd}
theorem zjf {k : K} (hk : knd.is s.heap k b) : ∀ {l : List Value} {Q : Bool → Shared → Prop}, (∀ v ∈ l, ∃ k' b', v = .ref b' ∧ knd.is s.heap k' b') → Q false s → wpAny (model P w) A (searchCouldBeSeen (.ref b) l) Q E s := by
 intro l Q hl hq;unfold searchCouldBeSeen;refine a4 ?_;refine wpAny_forIn_list _ (fun we r s' => r.1 = none ∧ s' = s ∧ ∀ v ∈ we, ∃ k' b', v = Value.ref b' ∧ knd.is s.heap k' b') _ ?_ ?_ _ _ ⟨rfl, rfl, hl⟩
 · rintro v we r s' ⟨hr, rfl, hall⟩;obtain ⟨k', b', rfl, hk'⟩ := hall v be;have go : ∀ v ∈ we, ∃ k' b', v = Value.ref b' ∧ knd.is s'.heap k' b' := fun v hv => hall v (bn _ hv);show wpAny (model P w) A (if ((b == b') || (carriedByValue (Value.ref b) && carriedByValue (Value.ref b'))) = true then _ else _) _ _ _;by_cases c : ((b == b') || (carriedByValue (Value.ref b) && carriedByValue (Value.ref b'))) = true
   · rw [if_pos c];exact a6 ⟨rfl, rfl, go⟩
   · rw [if_neg c];refine a4 (knd.quiet hk ?_);simp only [Bool.not_true, Bool.false_eq_true, if_false];refine a4 (knd.quiet hk' ?_);simp only [Bool.not_true, Bool.false_eq_true, if_false];refine a4 (knd.cls hk ?_);simp only [Bool.false_eq_true, if_false];refine a4 (knd.cls hk' ?_);simp only [Bool.false_eq_true, if_false];exact a6 ⟨rfl, rfl, go⟩
 · rintro ⟨r1, r2⟩ s' ⟨hr, rfl, _⟩;simp only at hr;subst hr;exact a6 hq
theorem Zp {a : Addr} {o : Obj} {es : Array (Int × Value)} {ep : Nat} {t : SetTable} {k : K} {b : Addr} {h : Int} {e : Nat} {Q : SetFound → Shared → Prop}
  (ho : s.heap.get? a = some o) (hd : o.data = .set es ep t) (hf : t.fits es.size = true) (hdm : t.dummies = #[]) (hodd : t.gaveWay = false) (hk : knd.is s.heap k b) (hr : knd.room A) (hO : zla knd s.heap k es) (hs : t.slot e = .empty) (hQ : ∀ j, Q (.free j false) s) :
  ∀ (fuel n : Nat) (st : Option SetTable.Probe), n < fuel → n < 10 * SetTable.turns t.mask → Rch t e n (st.getD (t.probeStart h)) → (st.getD (t.probeStart h)).dummy = none → wpAny (model P w) A (setSearchFrom a (.ref b) h true fuel st) Q E s
 | 0, n, st, hn, _, _, _ => absurd hn (di _)
 | fuel + 1, n, st, hn, hn2, hR, hp => by
   unfold setSearchFrom;refine a4 (wpAny_setState_of ho hd hf ?_);dsimp only;rw [hodd];simp only [Bool.false_eq_true, if_false];rcases zb2 (hashAt := _) (h := h) hdm hs hn2 hR hp with ⟨j, ej⟩ | ⟨j, i, next, m, ej, hl, _, hnd, hm, hRm⟩
   · rw [ej];exact a6 (hQ j)
   rw [ej];dsimp only;have hsz : t.place.size = es.size := by
    simp only [SetTable.fits, bc, beq_iff_eq] at hf;exact hf.1
   have hi : i < es.size := by have := zj0 hl; omega
   obtain ⟨k', b', ey, hk', hne⟩ := hO es[i] (by rw [← Array.getElem_toList hi]; exact List.getElem_mem _);have ex : es[i] = (es[i].1, Value.ref b') := by rw [← ey]
   have hsm : t.sameMemory t.moves t.mask = some true := by unfold SetTable.sameMemory; simp
   cases hled : t.led with
   | true =>
     simp only [Bool.not_true, Bool.false_eq_true, if_false];rw [cp hi, ex];dsimp only;refine a4 (wpAny_holding (knd.eqBool hr hk' hk ?_));rw [av hne];refine a4 (wpAny_setState_of ho hd hf ?_);dsimp only;rw [hsm];simp only [Bool.and_false, Bool.false_eq_true, if_false, if_true, hl];rw [cp hi, ex];dsimp only;refine a4 (wpAny_isSame_ref_self ?_);refine a4 (a6 ?_);simp only [if_true];exact Zp ho hd hf hdm hodd hk hr hO hs hQ fuel m (some next) (by omega) (by omega) hRm hnd
   | false =>
     simp only [Bool.not_false, if_true];refine a4 (zjf hk (fun v hv => ?_) ?_)
     · obtain ⟨x, hx, rfl⟩ := bq.mp hv;obtain ⟨k2, b2, e2, h2, _⟩ := hO x (Array.mem_toList_iff.mpr (Array.mem_of_mem_filter (Array.mem_toList_iff.mp hx)));exact ⟨k2, b2, e2, h2⟩
     simp only [Bool.false_eq_true, if_false];rw [cp hi, ex];dsimp only;refine a4 (wpAny_holding (knd.eqBool hr hk' hk ?_));rw [av hne];refine a4 (wpAny_setState_of ho hd hf ?_);dsimp only;rw [hsm];simp only [Bool.and_false, Bool.false_eq_true, if_false, if_true, hl];rw [cp hi, ex];dsimp only;refine a4 (wpAny_isSame_ref_self ?_);refine a4 (a6 ?_);simp only [if_true];exact Zp ho hd hf hdm hodd hk hr hO hs hQ fuel m (some next) (by omega) (by omega) hRm hnd
end
noncomputable def MK (m : Nat) : Prop := m = 7 ∨ m = 31 ∨ m = 127 ∨ m = 511 ∨ m = 2047 ∨ m = 8191
theorem MK.fp (h : MK m) : FP m := by
 rcases h with rfl | rfl | rfl | rfl | rfl | rfl
 · exact fp7
 · exact zp6
 · exact zpe
 · exact zpd
 · exact zmt
 · exact zms
structure TB (t : SetTable) (n : Nat) : Prop where
 dm : t.dummies = #[]
 sz : t.place.size = n
 mm : MK t.mask
 few : n ≤ t.mask
theorem TB.fits {t : SetTable} {n : Nat} (h : TB t n) : t.fits n = true := by
 have h1 := h.few;have h2 := h.sz;unfold SetTable.fits SetTable.fill;rw [h.dm, h.sz];simp;exact h1
theorem TB.odd {t : SetTable} (h : TB t n) : t.gaveWay = false := by
 unfold SetTable.gaveWay;rcases h.mm with e | e | e | e | e | e <;> rw [e] <;> rfl
theorem TB.full {t : SetTable} (h : TB t n) : t.tooFull = decide (t.mask * 3 ≤ n * 5) := by
 unfold SetTable.tooFull SetTable.fill;rw [h.dm, h.sz];simp
theorem zkg (h : MK m) (h1 : (n - 1) * 5 < m * 3) (h2 : m * 3 ≤ n * 5) (h3 : n ≤ 4000) : MK (SetTable.sizeAbove (SetTable.grown n) - 1) ∧ n * 5 < (SetTable.sizeAbove (SetTable.grown n) - 1) * 3 ∧ SetTable.sizeAbove (SetTable.grown n) ≤ sizeLine := by
 rcases h with rfl | rfl | rfl | rfl | rfl | rfl
 · have : n = 5 := by omega
   subst this; exact ⟨.inr (.inl rfl), by decide, by decide⟩
 · have : n = 19 := by omega
   subst this; exact ⟨.inr (.inr (.inl rfl)), by decide, by decide⟩
 · have : n = 77 := by omega
   subst this; exact ⟨.inr (.inr (.inr (.inl rfl))), by decide, by decide⟩
 · have : n = 307 := by omega
   subst this; exact ⟨.inr (.inr (.inr (.inr (.inl rfl)))), by decide, by decide⟩
 · have : n = 1229 := by omega
   subst this; exact ⟨.inr (.inr (.inr (.inr (.inr rfl)))), by decide, by decide⟩
 · omega
theorem zl2 {t : SetTable} (h : TB t n) (j : Nat) (h1 : n < t.mask) : TB (t.put j).1 (n + 1) ∧ (t.put j).1.led = t.led ∧ (t.put j).1.plain = t.plain := by
 have e : (SetTable.insertAt t.place (SetTable.below t.place j) j).size = n + 1 := by
  have := (SetTable.insertAt_perm t.place (SetTable.below t.place j) j).length_eq;rw [Array.length_toList, Array.length_toList, dy, h.sz] at this;exact this
 refine ⟨⟨?_, e, h.mm, h1⟩, rfl, rfl⟩;show (if SetTable.has t.dummies j then SetTable.eraseAt t.dummies (SetTable.below t.dummies j) else t.dummies) = #[];rw [h.dm];have : SetTable.has #[] j = false := by unfold SetTable.has; simp
 rw [this];rfl
theorem TB.plain {t : SetTable} {n : Nat} (h : TB t n) (b : Bool) : TB (if b = true then t else { t with plain := false }) n := by
 cases b with
 | true => exact h
 | false => exact ⟨h.dm, h.sz, h.mm, h.few⟩
theorem zki {α : Type} (es : Array α) (order : Array Nat) (h : ∀ q ∈ order.toList, q < es.size) : (order.filterMap (es[·]?)).size = order.size ∧ ∀ e ∈ (order.filterMap (es[·]?)).toList, e ∈ es.toList := by
 have e : (order.filterMap (es[·]?)).toList = order.toList.filterMap (es[·]?) := Array.toList_filterMap;constructor
 · rw [← Array.length_toList, e, List.length_filterMap_eq_countP, ← Array.length_toList, List.countP_eq_length];intro q hq;rw [cp (h q hq)];rfl
 · intro x hx;rw [e] at hx;obtain ⟨q, hq, ex⟩ := List.mem_filterMap.mp hx;exact Array.mem_toList_iff.mpr (Array.mem_of_getElem? ex)
section
noncomputable def X1 (h : Heap) (a : Addr) (es : Array (Int × Value)) : Prop := ∃ o ep t, h.get? a = some o ∧ o.ExactSet ∧ o.data = .set es ep t ∧ TB t es.size ∧ es.size * 5 < t.mask * 3
theorem zgg {t : SetTable} {Q : Unit → Shared → Prop} (ho : s.heap.get? a = some o) (hx : o.ExactSet) (hd : o.data = .set es ep t) (hT : TB t es.size) (h1 : (es.size - 1) * 5 < t.mask * 3) (h2 : t.mask * 3 ≤ es.size * 5) (h3 : es.size ≤ 4000)
  (h : ∀ h' es', Heap.SameBut a s.heap h' → es'.size = es.size → (∀ e ∈ es'.toList, e ∈ es.toList) → X1 h' a es' → Q () { s with heap := h' }) : wpAny (model P w) A (setRelay a (SetTable.grown es.size)) Q E s := by
 obtain ⟨g1, g2, g3⟩ := zkg hT.mm h1 h2 h3;unfold setRelay;refine a4 (wpAny_setState_of ho hd hT.fits ?_);dsimp only;rw [if_neg (by omega)];obtain ⟨t', order, e, em, es1, ed, el, ep', emv, eo, eq⟩ := zj8 (finger := t.finger) (moves := t.movedTo (SetTable.sizeAbove (SetTable.grown es.size) - 1)) (led := t.led) (plain := t.plain) g1.fp (es.map (·.1)) (by rw [Array.size_map]; omega);rw [Array.size_map] at es1 eo eq;have er : t.relaid (es.map (·.1)) (SetTable.grown es.size) = some (t', order) := e;rw [er];obtain ⟨f1, f2⟩ := zki es order eq;refine a4 ?_;show wpAny (model P w) A (if ((order.filterMap (es[·]?)).size != es.size) = true then _ else pure (order.filterMap (es[·]?), t')) _ _ _;rw [if_neg (by rw [f1, eo]; simp)];refine a6 ?_;dsimp only;have sz : (order.filterMap (es[·]?)).size = es.size := by rw [f1, eo]
 have T' : TB t' (order.filterMap (es[·]?)).size := ⟨ed, by rw [sz, es1], by rw [em]; exact g1, by rw [sz, em]; omega⟩
 refine wpAny_storeSet_of ho hd (h _ _ (Heap.SameBut.update _ _ _) sz f2 ?_) (by rw [sz]; exact ay h3 (by decide));have hg := Heap.get?_update_self (Obj.putSet (order.filterMap (es[·]?)) t') ho (by rw [putSet_of _ _ hd]; rfl);rw [putSet_of _ _ hd] at hg;exact ⟨_, ep + 1, t', hg, hx, rfl, T', by rw [sz, em]; exact g2⟩
end
section
variable {K : Type} [DecidableEq K] {knd : SKind P w K}
theorem zj7 {t t' : SetTable} {e0 : Int × Value} {p : Nat} (ho : s.heap.get? a = some o) (hx : o.ExactSet) (hd : o.data = .set es ep t) (hT : TB t' (es.size + 1)) (h5 : es.size * 5 < t'.mask * 3) (hn : es.size < 3999)
  (hQ : ∀ h' es', Heap.SameBut a s.heap h' → es'.size = es.size + 1 → (∀ e ∈ es'.toList, e ∈ es.toList ∨ e = e0) → X1 h' a es' → Q true { s with heap := h' }) :
  wpAny (model P w) A (storeSet a (SetTable.insertAt es p e0) t' >>= fun _ => if (!false && t'.tooFull) = true then setRelay a (SetTable.grown (es.size + 1)) >>= fun _ => pure true else pure true) Q E s := by
 have sz : (SetTable.insertAt es p e0).size = es.size + 1 := by
  have := (SetTable.insertAt_perm es p e0).length_eq;rw [Array.length_toList, Array.length_toList, dy] at this;exact this
 have hm : ∀ e ∈ (SetTable.insertAt es p e0).toList, e ∈ es.toList ∨ e = e0 := fun e he => by
  have := (SetTable.insertAt_perm es p e0).mem_iff.mp he;rw [Array.toList_push] at this;rcases br.mp this with z | z
  · exact .inl z
  · exact .inr (ak.mp z)
 refine a4 (wpAny_storeSet_of ho hd ?_ (by rw [sz]; exact ay (show es.size + 1 ≤ 4000 by omega) (by decide)));have hg := Heap.get?_update_self (Obj.putSet (SetTable.insertAt es p e0) t') ho (by rw [putSet_of _ _ hd]; rfl);rw [putSet_of _ _ hd] at hg;have sb := Heap.SameBut.update s.heap a (Obj.putSet (SetTable.insertAt es p e0) t');have T' : TB t' (SetTable.insertAt es p e0).size := by rw [sz]; exact hT
 rw [hT.full];by_cases c : t'.mask * 3 ≤ (es.size + 1) * 5
 · rw [ai c];simp only [Bool.not_false, Bool.and_true, if_true];refine a4 ?_;rw [← sz];refine zgg (s := { s with heap := s.heap.update a (Obj.putSet (SetTable.insertAt es p e0) t') }) hg hx rfl T' (by rw [sz]; exact h5) (by rw [sz]; exact c) (by rw [sz]; omega) fun h' es' sb' z' m' S' => ?_;exact a6 (hQ h' es' (sb.trans sb') (by rw [z', sz]) (fun e he => hm e (m' e he)) S')
 · rw [av c];simp only [Bool.and_false, Bool.false_eq_true, if_false];exact a6 (hQ _ _ sb sz hm ⟨_, ep + 1, t', hg, hx, rfl, T', by rw [sz]; omega⟩)
theorem zkv {k : K} (hS : X1 s.heap a es) (hn : es.size < 3999) (hk : knd.is s.heap k b) (hr : knd.room A) (hO : zla knd s.heap k es)
  (hQ : ∀ h' es', Heap.SameBut a s.heap h' → es'.size = es.size + 1 → (∀ e ∈ es'.toList, e ∈ es.toList ∨ e = (h, .ref b)) → X1 h' a es' → Q true { s with heap := h' }) : wpAny (model P w) A (setAddHashed a (.ref b) h) Q E s := by
 obtain ⟨o, ep, t, ho, hx, hd, hT, h5⟩ := hS;have hmask : t.mask ≤ 8191 := by rcases hT.mm with e | e | e | e | e | e <;> omega
 have hlt : es.size < t.mask := by omega
 unfold setAddHashed;refine wpAny_holding ?_;rw [show (100000 : Nat) = 99999 + 1 from rfl];unfold setAddHashedIn;refine a4 (wpAny_setState_of ho hd hT.fits ?_);dsimp only;rw [if_neg (show ¬ byScan (.ref b) es = true from fun z => by cases z)];obtain ⟨e, n, hs, hn1, hR⟩ := K9 (t := t) (hashAt := fun _ => 0) (h := h) hT.mm.fp hT.dm (by rw [hT.sz]; exact hT.few);refine a4 ?_;unfold setSearch;refine Zp ho hd hT.fits hT.dm hT.odd hk hr hO hs (fun j => ?_) 100000 n none (by unfold SetTable.turns at hn1; omega) hn1 hR rfl;dsimp only;refine a4 (wpAny_setState_of ho hd hT.fits ?_);dsimp only;obtain ⟨hT', _, _⟩ := zl2 hT j hlt;have hm' : (t.put j).1.mask = t.mask := rfl;have fin : ∀ bv : Bool, wpAny (model P w) A (storeSet a (SetTable.insertAt es (t.put j).snd (h, Value.ref b)) (if bv = true then (t.put j).fst else { (t.put j).fst with plain := false }) >>= fun _ => if (!false && (if bv = true then (t.put j).fst else { (t.put j).fst with plain := false }).tooFull) = true then setRelay a (SetTable.grown (es.size + 1)) >>= fun _ => pure true else pure true) Q E s := fun bv => by
  refine zj7 ho hx hd (hT'.plain bv) ?_ hn hQ;cases bv <;> exact h5
 by_cases c : (t.put j).fst.plain = true
 · rw [if_pos c];exact a4 (knd.byv hk fin)
 · rw [if_neg c];exact a4 (a6 (fin true))
end
theorem Qw : entryFor table "set.update.loop" = some Builtin.«set.update.loop» := entryFor_of_tree (by kernel_rfl)
theorem Xd : plainId "set.update.loop" = true := by decide +kernel
section
variable {K : Type} [DecidableEq K] {knd : SKind P w K}
noncomputable def InF (its : Array Value) (i : Nat) (es : Array (Int × Value)) : Prop := ∀ e ∈ es.toList, ∃ j, j < i ∧ its[j]? = some e.2
theorem zje {d it t : Addr} {ks : List K} (hr : knd.room A.in1) (hh : A.handled = none) (hn1 : d ≠ it) (hn2 : t ≠ it) (hn3 : t ≠ d) (hl : its.size = ks.length) (hnd : ks.Nodup) (hf : its.size ≤ 3998) :
  ∀ (m i : Nat) (s : Shared) (es : Array (Int × Value)), its.size - i = m → i ≤ its.size → es.size = i → InF its i es → s.heap.IsListIter it t i → s.heap.IsList t its → X1 s.heap d es →
    (∀ (j : Nat) v k, its[j]? = some v → ks[j]? = some k → ∃ b, v = .ref b ∧ knd.is s.heap k b) →
    (∀ h' tk es', X1 h' d es' → es'.size = its.size → (∀ b o, b ≠ d → b ≠ it → s.heap.get? b = some o → h'.get? b = some o) → R (.ok (.ret .none)) { s with heap := h', toks := tk }) →
    codeAny (model P w) A (.builtin "set.update.loop" ⟨[.ref d, .ref it], []⟩) R s := by
 intro m;induction m with
 | zero =>
   intro i s es hk hi hz hF hit ht hS hp hR;have e : i = its.size := by omega
   refine codeAny_builtin Qw ?_;rw [Around.under_plainId Xd _];show wpAny _ A.in1 (pyNext (.ref it) >>= _) _ _ s;refine a4 (wpAny_pyNext_list_end (show A.in1.handled = none from hh) hit ht (Array.getElem?_eq_none (by omega)) fun h' eb => ?_);refine a6 ?_;obtain ⟨o, ep, tt, ho, r⟩ := hS;exact hR h' s.toks es ⟨o, ep, tt, eb d o hn1 ho, r⟩ (by omega) fun b o n1 n2 z => eb b o n2 z
 | succ m ih =>
   intro i s es hk hi hz hF hit ht hS hp hR;have hlt : i < its.size := by omega
   have hx : its[i]? = some its[i] := cp hlt;have hr' : ks[i]? = some ks[i] := ah (by omega);refine codeAny_builtin Qw ?_;rw [Around.under_plainId Xd _];show wpAny _ A.in1 (pyNext (.ref it) >>= _) _ _ s;refine a4 (wpAny_pyNext_list_item hit ht hx fun g hit' hs => ?_);obtain ⟨oi, hoi, hci, _⟩ := id hit;have tg : ∀ c o, s.heap.get? c = some o → o.cls = .type "tuple" → g.get? c = some o := fun c o z y => hs.extBut c o (fun q => by
    rw [q, hoi] at z;cases z;rw [hci] at y;exact absurd y (by decide)) z
   have kg : ∀ (j : Nat) v k, its[j]? = some v → ks[j]? = some k → ∃ b, v = .ref b ∧ knd.is g k b := fun j v k h1 h2 => by
    obtain ⟨b, e, h3⟩ := hp j v k h1 h2;exact ⟨b, e, knd.keepT h3 tg⟩
   have hSg : X1 g d es := by
    obtain ⟨o, ep, tt, ho, r⟩ := hS;exact ⟨o, ep, tt, hs.extBut d o hn1 ho, r⟩
   obtain ⟨b, hb, hkb⟩ := kg i _ _ hx hr';rw [hb];show wpAny _ A.in1 (holding [Value.ref b] (setAdd d (.ref b)) >>= _) _ _ _;refine a4 (wpAny_holding ?_);unfold setAdd;refine wpAny_holding (a4 (knd.pyHash hr hkb ?_));refine zkv (knd := knd) (s := { s with heap := g, toks := s.toks + knd.draws ks[i] }) hSg (by omega) hkb hr (fun e he => ?_) fun g2 es2 sb sz mm S2 => ?_
   · obtain ⟨j, hj, ej⟩ := hF e he;obtain ⟨b', eb, hkb'⟩ := kg j _ _ ej (ah (by omega : j < ks.length));refine ⟨_, b', eb, hkb', fun z => ?_⟩;have := (List.getElem_inj hnd).mp z;omega
   obtain ⟨od, epd, td, hod, hxd, _⟩ := id hSg;have t2 : ∀ c o, g.get? c = some o → o.cls = .type "tuple" → g2.get? c = some o := fun c o z y => sb.extBut c o (fun q => by
    rw [q, hod] at z;cases z;rw [hxd.1] at y;exact absurd y (by decide)) z
   refine a6 ⟨plainId_quiet Xd _, ?_⟩;refine ih (i + 1) _ es2 (by omega) hlt (by omega) (fun e he => ?_) (hit'.extBut sb.extBut (ae hn1)) (ht.extBut hs.extBut hn2 |>.extBut sb.extBut hn3) S2 (fun j v k h1 h2 => ?_) fun h' tk es' S' z' k' => ?_
   · rcases mm e he with z | z
     · obtain ⟨j, hj, ej⟩ := hF e z;exact ⟨j, by omega, ej⟩
     · rw [z];exact ⟨i, by omega, by rw [hx, hb]⟩
   · obtain ⟨b', e, h3⟩ := kg j v k h1 h2;exact ⟨b', e, knd.keepT h3 t2⟩
   · exact hR h' tk es' S' z' fun c o n1 n2 z => k' c o n1 n2 (sb.extBut c o n1 (hs.extBut c o n2 z))
end
end L2
namespace L2
open PySem PySem.Spec PyProof.Rows PySem.W
variable {a : Addr} {A : Around} {items its : Array Value} {Q : Bool → Shared → Prop} {h : Heap} {ks : List yz} {vs : List Value} {n : Nat} {o : Obj} {P prog : Program} {s : Shared} {v : Value} {E Q₁ : Value → Shared → Prop} {w : World}
theorem zkr (n : Nat) (h : carriedByValue v = true) : ofAClassStatement n v = pure false := by
 cases v with
 | ref a => simp [carriedByValue] at h
 | _ => cases n <;> rfl
theorem zmn (n : Nat) (h : carriedByValue v = true) : ∃ c, hashByValue n v = pure c := by
 cases v with
 | ref a => simp [carriedByValue] at h
 | _ => cases n <;> exact ⟨_, rfl⟩
section
variable {K : Type} [DecidableEq K] {knd : KeyKind prog w K}
theorem zij {m : Nat} (ho : s.heap.get? a = some o) (hc : o.cls = .type "tuple") (hd : o.data = .seq items m) (hi : ∀ v ∈ items.toList, ∀ Q : Bool → Shared → Prop, Q false s → ∀ E, wpAny (model prog w) A (ofAClassStatement n v) Q E s) (h : Q false s) :
  wpAny (model prog w) A (ofAClassStatement (n + 1) (.ref a)) Q E s := by
 have hT : s.TypeIs (.ref a) "tuple" := ⟨o, ho, hc⟩
 unfold ofAClassStatement;refine a4 (wpAny_typeOf hT ?_);dsimp only;rw [if_pos (by decide)];refine a4 (a6 ?_);simp only [Bool.not_true, Bool.false_eq_true, if_false];refine a4 (wpAny_seqItems ho hd ?_);dsimp only;refine a4 ?_;rw [← Array.forIn_toList];refine wpAny_forIn_list _ (fun we r s' => r.1 = none ∧ s' = s ∧ ∀ v ∈ we, v ∈ items.toList) _ ?_ ?_ _ _ ⟨rfl, rfl, fun v hv => hv⟩
 · rintro v we r s' ⟨hr, rfl, hall⟩;refine a4 (hi v (hall v be) _ ?_ _);simp only [Bool.false_eq_true, if_false];exact a6 ⟨rfl, rfl, fun u hu => hall u (bn _ hu)⟩
 · rintro ⟨r1, r2⟩ s' ⟨hr, rfl, _⟩;simp only at hr;subst hr;exact a6 h
theorem zk6 {m : Nat} (ho : s.heap.get? a = some o) (hc : o.cls = .type "tuple") (hd : o.data = .seq items m) (hi : ∀ v ∈ items.toList, ∀ Q : Bool → Shared → Prop, (∀ b, Q b s) → ∀ E, wpAny (model prog w) A (hashByValue n v) Q E s) (h : ∀ b, Q b s) :
  wpAny (model prog w) A (hashByValue (n + 1) (.ref a)) Q E s := by
 have hT : s.TypeIs (.ref a) "tuple" := ⟨o, ho, hc⟩
 unfold hashByValue;refine a4 (wpAny_specialOf hT F.slot_tuple_hash.lookup ?_);dsimp only;refine a4 (wpAny_seqItems ho hd ?_);simp only [Option.getD_some];refine a4 ?_;rw [← Array.forIn_toList];refine wpAny_forIn_list _ (fun we r s' => r.1 = none ∧ s' = s ∧ ∀ v ∈ we, v ∈ items.toList) _ ?_ ?_ _ _ ⟨rfl, rfl, fun v hv => hv⟩
 · rintro v we r s' ⟨hr, rfl, hall⟩;refine a4 (hi v (hall v be) _ (fun b => ?_) _);cases b with
   | true =>
     simp only [Bool.not_true, Bool.false_eq_true, if_false];exact a6 ⟨rfl, rfl, fun u hu => hall u (bn _ hu)⟩
   | false =>
     simp only [Bool.not_false, if_true];exact a6 (a6 (h false))
 · rintro ⟨r1, r2⟩ s' ⟨hr, rfl, _⟩;simp only at hr;subst hr;exact a6 (h true)
theorem zks {ks : List K} (hk : IsTupleKey knd s.heap ks a) (h : Q false s) : wpAny (model prog w) A (ofAClassStatement (n + 1) (.ref a)) Q E s := by
 obtain ⟨o, items, m, ho, hc, hd, hi⟩ := hk;exact zij ho hc hd (fun v hv Q' hq E' => by rw [zkr n (hi.byValue v hv)]; exact a6 hq) h
theorem zmo {ks : List K} (hk : IsTupleKey knd s.heap ks a) (h : ∀ b, Q b s) : wpAny (model prog w) A (hashByValue (n + 1) (.ref a)) Q E s := by
 obtain ⟨o, items, m, ho, hc, hd, hi⟩ := hk;exact zk6 ho hc hd (fun v hv Q' hq E' => by obtain ⟨c, e⟩ := zmn n (hi.byValue v hv); rw [e]; exact a6 (hq c)) h
theorem NIts.each {ks : List (List K)} (x : NIts knd h ks vs) : ∀ v ∈ vs, ∃ k a, v = .ref a ∧ IsTupleKey knd h k a := by
 induction x with
 | nil => intro v hv; cases hv
 | cons h1 _ ih =>
   intro v hv;rcases aa.mp hv with rfl | hv
   · exact ⟨_, _, rfl, h1⟩
   · exact ih v hv
theorem ze2 {h' : Heap} {ks : List (List K)} (x : NIts knd h ks vs) (k : ∀ c o, h.get? c = some o → o.cls = .type "tuple" → h'.get? c = some o) : NIts knd h' ks vs := by
 induction x with
 | nil => exact .nil
 | cons h1 _ ih =>
   obtain ⟨o, items, m, ho, hc, r⟩ := h1;exact .cons ⟨o, items, m, k _ _ ho hc, hc, r⟩ ih
noncomputable def zoe (knd : KeyKind prog w K) : SKind prog w (List (List K)) where
 toHeapKind := yy knd
 cls := fun hk h => by
  obtain ⟨o, items, m, ho, hc, hd, hi⟩ := hk;refine zij (n := 7) ho hc hd (fun v hv Q' hq E' => ?_) h;obtain ⟨k, a, rfl, hk⟩ := hi.each v hv;exact zks (n := 6) hk hq
 byv := fun hk h => by
  obtain ⟨o, items, m, ho, hc, hd, hi⟩ := hk;refine zk6 (n := 7) ho hc hd (fun v hv Q' hq E' => ?_) h;obtain ⟨k, a, rfl, hk⟩ := hi.each v hv;exact zmo (n := 6) hk hq
 keepT := fun x k => by
  obtain ⟨o, items, m, ho, hc, hd, hi⟩ := x;exact ⟨o, items, m, k _ _ ho hc, hc, hd, ze2 hi k⟩
end
theorem Wf (v : Value) : checkTypeCall "set" ⟨[v], []⟩ = pure () := by kernel_rfl
theorem V0 (v : Value) : checkBuiltinCall "set.__new__" ⟨[.type "set", v], []⟩ = pure () := by kernel_rfl
section
theorem V2 (v : Value)
  (h : ∀ led : Bool, Q₁ (.ref s.heap.objs.size) { s with heap := s.heap.push { cls := .type "set", dict := none, data := .set #[] 0 (.fresh 0 0 led) } }) :
  codeAny (model prog w) A (.call (.builtin "set.__new__") ⟨[.type "set", v], []⟩) (wants Q₁ E) s := by
 refine codeAny_of_tree ?_;show wpAny _ A.in1 (do checkBuiltinCall "set.__new__" ⟨[.type "set", v], []⟩; again (.builtin "set.__new__" ⟨[.type "set", v], []⟩)) _ _ s;refine a4 (wpAny_of_eq (V0 v) (a6 ⟨plainId_quiet F.plain_set_new _, codeAny_builtin F.entry_set_new ?_⟩));rw [Around.under_plainId F.plain_set_new _];unfold Builtin.«set.__new__» Builtin.Frozenset.newClass;have hsub := sub_set_self;obtain ⟨hp, g, d, tk, os⟩ := s;dsimp only
 wp_walk
 refine wpAny_askSetting (a6 ?_);dsimp only;simp only [newObj];refine a4 (wpAny_alloc (a6 ?_));exact a6 (h _)
theorem Xz {M : Model} {self : Value} {Q : Unit → Shared → Prop} (hT : s.TypeIs self "set") (hQ : Q () s) :
  wpAny M A (checkBuiltinCall "set.__init__" ⟨[self, v], []⟩) Q E s := by
 simp only [checkBuiltinCall, kind_set_init, split_set_init, sig_set_init];refine a4 (cn hT sub_set_self ?_);simp only [Bool.not_true, Bool.false_eq_true, if_false];unfold Bind.checkArgs;dsimp only;refine a4 (m := Bind.printed "set" true _ _) (PyProof.Rows.printed_name (by decide) ?_);refine a4 (m := Bind.printed "*" false _ _) (PyProof.Rows.printed_star (self := self) rfl hT fun short => ?_);have hrn : (Manifest.Receiver.self == Manifest.Receiver.none) = false := by decide
 have hn : (if (Manifest.Receiver.self == Manifest.Receiver.none) = true then [self, v].length else [self, v].length - 1) = 1 := by simp [hrn]
 rw [hn];simp only [List.map_nil];have hc : Bind.check ⟨.positional, "set", "*", .self, [⟨"iterable", .posOnly, false⟩]⟩ "set" short 1 [] = pure () := by
  simp [Bind.check, Bind.checkCount, Bind.isPositional];exact fun z => absurd z (by decide)
 rw [hc];exact a6 hQ
set_option maxHeartbeats 1000000 in
theorem zcy {Q : Value → Shared → Prop}
  (h : ∀ led : Bool, wpAny (model prog w) A.in1.in1 (Builtin.Frozenset.updateFrom "set.__init__" s.heap.objs.size v) (fun _ s₂ => Q (.ref s.heap.objs.size) s₂) E { s with heap := s.heap.push { cls := .type "set", dict := none, data := .set #[] 0 (.fresh 0 0 led) } }) :
  wpAny (model prog w) A (call (.type "set") [v]) Q E s := by
 obtain ⟨c, tl, hmro⟩ := F.called_set.mro;have hmade := F.called_set.made;have hsub := F.called_set.sub;refine wpAny_call (codeAny_of_tree ?_);show wpAny _ _ (callAny (.type "set") _) _ _ _;refine a6 ⟨Code.quiet_builtin _ (by decide +kernel), codeAny_builtin F.entry_type_call ?_⟩;rw [Around.under_plain (weight_type_call_type "set" [v] []) rfl];have h1 := F.called_set.notType;have h2 := F.called_set.canCreate;have hct := Wf v
 repeat (any_goals (first | assumption | wp_step))
 refine codeAny_mono (V2 v (E := E) (Q₁ := fun obj s₁ => ∃ led : Bool, obj = .ref s.heap.objs.size ∧ s₁ = { s with heap := s.heap.push { cls := .type "set", dict := none, data := .set #[] 0 (.fresh 0 0 led) } }) fun led => ⟨led, rfl, rfl⟩) fun r s₁ hr => ?_;cases r with
 | error e => exact hr
 | ok fl =>
   cases fl with
   | ret obj =>
     obtain ⟨led, rfl, rfl⟩ := hr;have hS : (s.heap.push { cls := .type "set", dict := none, data := .set #[] 0 (.fresh 0 0 led) }).get? s.heap.objs.size = some { cls := .type "set", dict := none, data := .set #[] 0 (.fresh 0 0 led) } := ar _ rfl;have hT : Shared.TypeIs { s with heap := s.heap.push { cls := .type "set", dict := none, data := .set #[] 0 (.fresh 0 0 led) } } (.ref s.heap.objs.size) "set" := ⟨_, hS, rfl⟩
     have hli := F.called_set.init.lookup;have hbi := F.called_set.init.bind (.ref s.heap.objs.size)
     repeat (any_goals (first | assumption | wp_step))
     refine codeAny_mono (codeAny_call_builtin (R := wants (fun r s₂ => r = .none ∧ Q (.ref s.heap.objs.size) s₂) E) F.called_set.init.plain F.entry_set_init (Xz hT ?_)) fun r₂ s₂ hr₂ => ?_
     · unfold Builtin.«set.__init__» noKeywords;generalize Builtin.Frozenset.updateFrom "set.__init__" = U at h ⊢
       wp_walk
       exact thn (h led) fun _ s2 q => a6 ⟨rfl, q⟩
     · cases r₂ with
       | error e => exact hr₂
       | ok fl₂ =>
         cases fl₂ with
         | ret r =>
           obtain ⟨rfl, hq⟩ := hr₂
           repeat (any_goals (first | assumption | wp_step))
         | _ => exact hr₂.elim
   | _ => exact hr.elim
end
theorem Jd : isSubtype (.type "list") (.type "set") = pure false := by rw [isSubtype_type]; kernel_rfl
theorem Vu : isSubtype (.type "list") (.type "frozenset") = pure false := by rw [isSubtype_type]; kernel_rfl
noncomputable def zab (d : Addr) (n : Nat) : Heap → Prop := fun h => ∃ es, X1 h d es ∧ es.size = n
theorem zab.ok {H : Hp} {d : Addr} (x : zab d n h) : xk P w H h d (.ext (zab d n)) := by
 refine ⟨x, ?_, fun h1 h2 y k => ?_⟩
 · obtain ⟨_, ⟨o, _, _, ho, _⟩, _⟩ := x;exact ⟨o, ho⟩
 · obtain ⟨es, ⟨o, ep, t, ho, r⟩, e⟩ := y;exact ⟨es, ⟨o, ep, t, k o ho, r⟩, e⟩
noncomputable def SAt (H : Hp) (d : Addr) (n : Nat) : Prop := H d = some (.ext (zab d n))
theorem X1.new {led : Bool} : X1 (h.push { cls := .type "set", dict := none, data := .set #[] 0 (.fresh 0 0 led) }) h.objs.size #[] :=
 ⟨_, 0, _, ar _ rfl, ⟨rfl, rfl, rfl⟩, rfl, ⟨rfl, rfl, .inl rfl, bo _⟩, (by show 0 * 5 < 7 * 3; decide)⟩
section
variable {K : Type} [DecidableEq K] {knd : SKind prog w K}
theorem zfo {p : Addr} {ks : List K} {Q : Value → Shared → Prop} (hr : knd.room A.in1.in1.in1) (hh : A.handled = none) (hp : s.heap.IsList p its) (hl : its.size = ks.length) (hnd : ks.Nodup) (hf : its.size ≤ 3998)
  (hk : ∀ (j : Nat) v k, its[j]? = some v → ks[j]? = some k → ∃ b, v = .ref b ∧ knd.is s.heap k b)
  (h : ∀ h' tk, (∀ b o, s.heap.get? b = some o → h'.get? b = some o) → zab s.heap.objs.size ks.length h' → Q (.ref s.heap.objs.size) { s with heap := h', toks := tk }) : wpAny (model prog w) A (call (.type "set") [.ref p]) Q E s := by
 refine zcy fun led => ?_;have up : ∀ b o, s.heap.get? b = some o → (s.heap.push { cls := .type "set", dict := none, data := .set #[] 0 (.fresh 0 0 led) }).get? b = some o := fun b o e => a8 _ e;have hS : X1 (s.heap.push { cls := .type "set", dict := none, data := .set #[] 0 (.fresh 0 0 led) }) s.heap.objs.size #[] := X1.new;have hp1 : (s.heap.push { cls := .type "set", dict := none, data := .set #[] 0 (.fresh 0 0 led) }).IsList p its := hp.push _;have hsz : (s.heap.push { cls := .type "set", dict := none, data := .set #[] 0 (.fresh 0 0 led) }).objs.size = s.heap.objs.size + 1 := dy ..;have hpl : p < s.heap.objs.size := by
  obtain ⟨o, ho, _⟩ := hp;exact ac ho
 generalize s.heap.push { cls := .type "set", dict := none, data := .set #[] 0 (.fresh 0 0 led) } = g at up hS hp1 hsz ⊢;have hT : ({ s with heap := g } : Shared).TypeIs (.ref p) "list" := Heap.IsList.typeIs (s := { s with heap := g }) hp1;unfold Builtin.Frozenset.updateFrom Builtin.Frozenset.isAnySet;refine a4 ?_;refine a4 (cn hT Jd ?_);show wpAny _ _ (isInstance (.ref p) (.type "frozenset")) _ _ _;refine cn hT Vu ?_;simp only [Bool.false_eq_true, if_false];refine a4 (wpAny_typeOf hT ?_);rw [if_neg (by decide)];refine a4 (wpAny_pyIter_list (s := { s with heap := g }) hp1 ?_);refine a4 (wpAny_runValue ?_);have gd : s.heap.objs.size < g.objs.size := by omega
 refine zje (knd := knd) (A := A.in1.in1) (t := p) (its := its) (ks := ks) hr hh (aw gd) (aw (Nat.lt_trans hpl gd)) (aw hpl) hl hnd hf its.size 0 _ #[] (by omega) (bo _) rfl (fun e he => by cases he)
  ⟨_, ar _ rfl, rfl, rfl⟩ (hp1.push _) ?_ (fun j v k h1 h2 => ?_) fun h' tk es' S' z' k' => ?_
 · obtain ⟨o, ep, t, ho, r⟩ := hS;exact ⟨o, ep, t, a8 _ ho, r⟩
 · obtain ⟨b, e, h3⟩ := hk j v k h1 h2;exact ⟨b, e, knd.keepT h3 fun c o z _ => a8 _ (up c o z)⟩
 · refine a6 (h h' tk (fun b o e => ?_) ⟨es', S', by omega⟩);have := ac e;exact k' b o (aw this) (aw (Nat.lt_trans this gd)) (a8 _ (up b o e))
end
noncomputable def zol : List V → Hp → VK → Prop := fun as H Q => ∃ (p : Addr) (xs : List V) (ks : List yz), as = [.ref p] ∧ H p = some (.lst xs) ∧ IsL H (ks.map tN) xs ∧ ks.Nodup ∧ ks.length ≤ 3998 ∧ ∀ d H', Same H H' → H d = none → SAt H' d ks.length → Q (.ref d) H'
noncomputable def zon : List V → Hp → VK → Prop := fun as H Q => ∃ d n, as = [.ref d] ∧ SAt H d n ∧ Q (.int (n : Int)) H
section
variable {X : Cx}
theorem zfp : v9 X (.builtin "len") zon := by
 intro pins s σ H as us Q I r h;obtain ⟨d, n, rfl, hS, q⟩ := h;obtain ⟨u, rfl, rx⟩ := v8 r;cases (show u = Value.ref d from rx);obtain ⟨⟨es, ⟨o, ep, t, ho, hx, hd, hT, h5⟩, hn⟩, _⟩ := (show xk X.prog X.w H s.heap d (.ext (zab d n)) from I.hok d _ hS)
 have hm : t.mask ≤ 8191 := by rcases hT.mm with e | e | e | e | e | e <;> omega
 refine call_len_set ho hx hd hT.fits (by omega) ?_;rw [hn];exact ⟨.int (n : Int), H, (I.tok _).tok _, ⟨_, rfl⟩, q⟩
theorem zhh (h : ks.Nodup) : (ks.map nK).Nodup := by
 show (ks.map nK).Pairwise (· ≠ ·);rw [List.pairwise_map];exact List.Pairwise.imp (fun h z => h (Jx z)) h
theorem zfn (hc : X.calm = true) (hu : X.A.units + 8 < cLine) : v9 X (.type "set") zol := by
 intro pins s σ H as us Q I r h;obtain ⟨p, xs, ks, rfl, hp, hi, hnd, hf, q⟩ := h;obtain ⟨u, rfl, rx⟩ := v8 r;cases (show u = Value.ref p from rx);obtain ⟨hz, its, n, rv, h1⟩ := (show xk X.prog X.w H s.heap p (.lst xs) from I.hok p _ hp)
 have hxl := hi.length;rw [a7] at hxl;have hil := rv.length;have hunit : X.A.in1.in1.in1.units = X.A.units + 3 := rfl;refine zfo (knd := zoe (yk X.prog X.w)) (its := its.toArray) (ks := ks.map nK) (show X.A.in1.in1.in1.units + 2 < cLine by omega) (I.ok.hd hc) ⟨_, h1, rfl, n, rfl⟩ (by rw [ax, a7]; omega) (zhh hnd) (by rw [ax]; omega) (fun j v k e1 e2 => ?_) fun h' tk keep ph => ?_
 · have e1 : its[j]? = some v := by simpa using e1
   rw [ao] at e2;obtain ⟨k0, e3, rfl⟩ := dv.mp e2;have hj := (bh.mp e1).1;obtain ⟨x, hx, ix⟩ := hi.get (i := j) (t := tN k0) (by rw [ao, e3]; rfl);obtain ⟨u, hu', ru⟩ := rv.get hx;rw [hu'] at e1;cases e1;obtain ⟨b, zz, rfl, _⟩ := id ix;cases (show v = Value.ref b from ru);exact ⟨b, rfl, qd I.hok ix⟩
 · have hnone := I.hok.fresh (a9 s.heap.objs.size);have ph : zab s.heap.objs.size ks.length h' := by rw [a7] at ph; exact ph
   exact ⟨.ref s.heap.objs.size, _, I.laid (a := s.heap.objs.size) (o := .ext (zab s.heap.objs.size ks.length)) (t' := tk) keep (a9 _) ph.ok, rfl, q _ _ (Same.new hnone _) hnone zf⟩
end
end L2
namespace My
open PySem PySem.Spec PyProof.Rows L2
variable {a s : Addr} {X : Cx} {e : Expr} {H H' : Hp} {i j : Int} {σ : L2.St} {es : List Expr} {ns : List Int} {cap : List Nat} {own ps : List Str} {ts : List T} {k : Nat} {pos : Pos} {P : Program} {K : PySem.W.Frag} {sp : Sp} {x : Str} {mg : Str → Option Value} {v : V}
noncomputable def top (i : Nat) : Stmt := PySem.Challenge.pw_meetwall_k60_loose_ones_by_all_weavings.main.body.getD i (.Pass ⟨0, 0, 0, 0⟩)
abbrev Zr : Stmt := top 7
abbrev kt : Stmt := top 8
abbrev vx : Stmt := top 9
theorem zm0 : bootBuiltins "isinstance" = some (.builtin "isinstance") := by decide +kernel
theorem yd : bootBuiltins "len" = some (.builtin "len") := by decide +kernel
theorem qc : bootBuiltins "all" = some (.builtin "all") := by decide +kernel
theorem Kg : bootBuiltins "int" = some (.type "int") := by decide +kernel
theorem Kh : bootBuiltins "bool" = some (.type "bool") := by decide +kernel
theorem zin : bootBuiltins "str" = some (.type "str") := by decide +kernel
theorem xw : bootBuiltins "tuple" = some (.type "tuple") := by decide +kernel
theorem zkt : bootBuiltins "dict" = some (.type "dict") := by decide +kernel
theorem zmz : bootBuiltins "set" = some (.type "set") := by decide +kernel
theorem vd : bootBuiltins "list" = some (.type "list") := by decide +kernel
noncomputable def Ok (P : Program) (w : World) (K : PySem.W.Frag) (mg : Str → Option Value) (base : Heap) (x : Str) (k : Nat) (ps : List Str) (sp : Sp) : Prop :=
 ∃ f fd, FnOk P w K mg base CX0 k f fd ps sp ∧ Vs K fd ps [] ∧ PySem.W.keepIn K (.ref f) = true ∧ mg x = some (.ref f)
theorem zx {p : Pos} {t : TA} (h : Ok X.prog X.w X.K X.mg X.base x k ps sp) (hr : Room k X.A) (ha : PA X (e :: es) t) (hg : Gl X x := by rfl)
  (hdb : (x == ("__debug__" : Str)) = false := by decide) (he : starEach (e :: es) X.env = (false, eval e X.env) :: starEach es X.env := by rfl) (hpl : (backTo pos (starEach es X.env)).any (·.1) = false := by rfl) :
  PE X (.Call (.Name x p) (e :: es) [] pos) (zk1 sp [] E0 t) := by
 obtain ⟨f, fd, F, hb, hk, hm⟩ := h;exact zjo F hr hg hm hk hb .nil zot ha hdb he hpl
noncomputable def Def (K : PySem.W.Frag) (mg : Str → Option Value) (x : Str) (st : Stmt) : Prop := ∃ f fd, Fun K x x st f fd ∧ mg x = some (.ref f)
theorem yx (h : ∃ t, X.mg x = some (.int i t)) (hg : Gl X x := by rfl) (hd : (x == ("__debug__" : Str)) = false := by decide) : PE X (.Name x pos) (tC (.int i)) := by
 obtain ⟨t, h⟩ := h;exact zjn hg h ⟨t, rfl⟩ hd
structure Txt (K : PySem.W.Frag) (mg : Str → Option Value) : Prop where
 MOST_LETTERS : ∃ t, mg "MOST_LETTERS" = some (.int 8 t)
 BOXES : ∃ t, mg "BOXES" = some (.int 0 t)
 SCRIPTS : ∃ t, mg "SCRIPTS" = some (.int 1 t)
 PLACES : ∃ t, mg "PLACES" = some (.int 0 t)
 NUMBERS : ∃ t, mg "NUMBERS" = some (.int 1 t)
 MOST_BOXES : ∃ t, mg "MOST_BOXES" = some (.int 6 t)
 MOST_SCRIPTS : ∃ t, mg "MOST_SCRIPTS" = some (.int 4 t)
 MOST_DEEDS : ∃ t, mg "MOST_DEEDS" = some (.int 30 t)
 MOST_NUMBER : ∃ t, mg "MOST_NUMBER" = some (.int 9 t)
 MOST_PHASES : ∃ t, mg "MOST_PHASES" = some (.int 15 t)
 MOST_STANDS : ∃ t, mg "MOST_STANDS" = some (.int 3000 t)
 isi : mg "isinstance" = none
 int : mg "int" = none
 bool : mg "bool" = none
 str : mg "str" = none
 tuple : mg "tuple" = none
 list : mg "list" = none
 len : mg "len" = none
 all : mg "all" = none
 sum : mg "sum" = none
 range : mg "range" = none
 enumerate : mg "enumerate" = none
 sorted : mg "sorted" = none
 min : mg "min" = none
 any : mg "any" = none
 zip : mg "zip" = none
 max : mg "max" = none
 dict : mg "dict" = none
 set : mg "set" = none
noncomputable def Kq (A : T → Prop) (f : T → Bool) : Sp := fun vs H Q _ => ∃ t v, vs = [v] ∧ Is H t v ∧ A t ∧ ∀ H', Same H H' → Q (.bl (f t)) H'
section
variable {te : TE} {p1 p2 : Pos}
theorem wl {n : Str} {T : String} (h1 : X.mg "isinstance" = none) (h2 : X.mg n = none) (hb : bootBuiltins n = some (.type T)) (he : PE X e te) (g1 : Gl X "isinstance" := by rfl) (g2 : Gl X n := by rfl) (hn : n ≠ "__name__" := by decide) (hd : (n == ("__debug__" : Str)) = false := by decide)
  (hs : starEach [e, .Name n p2] X.env = (false, eval e X.env) :: starEach [.Name n p2] X.env := by rfl) (hp : (backTo pos (starEach [.Name n p2] X.env)).any (·.1) = false := by rfl) (hs2 : starEach [.Name n p2] X.env = (false, eval (.Name n p2) X.env) :: starEach [] X.env := by rfl) :
  PE X (.Call (.Name "isinstance" p1) [e, .Name n p2] [] pos) (tCB (zgj X.K) (j9 te (j9 (tC (.ty T)) zbo))) :=
 zn zil g1 h1 zm0 (zc he (zc (zjp g2 h2 hb rfl hn hd) zd hs2) hs) (he := hs) (hpl := hp)
end
noncomputable def J2 : T → Bool | .int _ => true | _ => false
section
variable {w : World} {base : Heap}
theorem sc1 : FnScope ["thing"] ["thing"] (zj Zr) := ⟨rfl, rfl, rfl, by decide +kernel, rfl, by decide +kernel, by decide +kernel⟩
theorem zai (D : Def K mg "is_whole" Zr) (T : Txt K mg) : Ok P w K mg base "is_whole" 1 ["thing"] (Kq (fun _ => True) J2) := by
 obtain ⟨f, fd, F, hm⟩ := D;refine ⟨f, fd, ?_, F.binds fun _ _ _ _ _ _ us hl => (match us, hl with | [_], _ => rfl), F.kp, hm⟩;refine F.ok sc1 (fun vs H Q E h => ?_) (fun cdv A outer s H vs Q E hr h => ?_)
 · obtain ⟨t, v, rfl, _⟩ := h;rfl
 · obtain ⟨t, v, rfl, ht, _, k⟩ := h;refine ⟨_, zi (zp (qa (wl T.isi T.int Kg (pv 0)) (v4 (Jo (wl T.isi T.bool Kh (pv 0)))))), ?_⟩;refine ⟨_, rfl, v, "int", _, _, rfl, ht.ty, J9 K t, _, rfl, ?_⟩;refine y0 (fun c => ?_) (fun c => ?_)
   · refine ⟨_, rfl, v, "bool", _, _, rfl, ht.ty, Vb K t, _, rfl, ?_⟩;have e : (!iBl t) = J2 t := by cases t <;> first | rfl | (exact absurd c (by simp [zo9]))
     rw [e];exact k H (Same.refl H)
   · have e : false = J2 t := by cases t <;> first | rfl | (exact absurd rfl c)
     rw [e];exact k H (Same.refl H)
noncomputable def yr (t : T) (lo hi : Int) : Bool := match t with | .int i => decide (lo ≤ i) && decide (i ≤ hi) | _ => false
noncomputable def v5 (t : T) (lo hi : Int) : Bool := match t with | .tup ts => decide (lo ≤ (ts.length : Int)) && decide ((ts.length : Int) ≤ hi) | _ => false
theorem Is.at {i : Nat} {t : T} (h : Is H (.tup ts) v) (e : ts[i]? = some t) : ∃ a xs u, v = .ref a ∧ SqT K H a xs ∧ atI xs ((i : Nat) : Int) = some u ∧ Is H t u := by
 obtain ⟨a, xs, rfl, ha, hl⟩ := h;obtain ⟨u, e1, e2⟩ := hl.get e;exact ⟨a, xs, u, rfl, SqT.of ha, yo e1, e2⟩
noncomputable def zei : Sp := fun vs H Q _ => ∃ t v lo hi, vs = [v, .int lo, .int hi] ∧ Is H t v ∧ ∀ H', Same H H' → Q (.bl (yr t lo hi)) H'
noncomputable def zf9 : Sp := fun vs H Q _ => ∃ t v lo hi, vs = [v, .int lo, .int hi] ∧ Is H t v ∧ ∀ H', Same H H' → Q (.bl (v5 t lo hi)) H'
theorem xx {st : Stmt} {N : List Str} (D : Def K mg x st) (S : FnScope N ps (zj st))
  (hb : ∀ (kV doc pm : Value) (an : Option Addr) (cdv ct : Value) (us : List Value), us.length = ps.length → bindArgs (PySem.W.fnOf x x (qe st) (xn st) (zj st) .none kV doc pm an cdv ct) ⟨us, []⟩ = pure (ps.zip us))
  (len : ∀ vs H Q E, sp vs H Q E → vs.length = ps.length)
  (hbody : ∀ (f : Addr) (cdv : Value) (A : Around) (outer : List Env) (s : Shared) (H : Hp) (vs : List V) (Q : VK) (E : XK), Room k (A.deeper (envOfC x (zj st) s.heap.objs.size f cdv)) → sp vs H Q E →
   ∃ t, PSs (zba CX0 P w K mg base N x (zj st) f cdv A outer s H E).nox (xn st) t ∧ t { nx := fun _ H' => Q .non H', rt := Q } (start N vs) H) : Ok P w K mg base x (k + 1) ps sp := by
 obtain ⟨f, fd, F, hm⟩ := D;exact ⟨f, fd, F.ok S len (fun cdv A outer s H vs Q E hr h => hbody f cdv A outer s H vs Q E hr h), F.binds hb, F.kp, hm⟩
theorem zel : FnScope ["thing", "least", "most"] ["thing", "least", "most"] (zj kt) := ⟨rfl, rfl, rfl, by decide +kernel, rfl, by decide +kernel, by decide +kernel⟩
theorem Jv (D : Def K mg "is_within" kt) (T : Txt K mg) (o1 : Ok P w K mg base "is_whole" 1 ["thing"] (Kq (fun _ => True) J2)) : Ok P w K mg base "is_within" 2 ["thing", "least", "most"] zei := by
 refine xx D zel (fun _ _ _ _ _ _ us hl => (match us, hl with | [_, _, _], _ => rfl)) (fun vs H Q E ⟨t, v, lo, hi, e, _⟩ => by rw [e]; rfl) fun f cdv A outer s H vs Q E hr h => ?_;obtain ⟨t, v, lo, hi, rfl, ht, k⟩ := h;refine ⟨_, zi (zp (qa (zx o1 hr (zc (pv 0) zd)) (v4 (Wz W0 W0 (pv 1) (pv 0) (pv 2))))), ?_⟩;refine ⟨_, rfl, t, v, rfl, ht, trivial, fun H1 s1 => ⟨_, rfl, ?_⟩⟩;cases t with
 | int i =>
   cases (show v = .int i from ht);refine xi ?_;refine ⟨_, rfl, _, rfl, lo, i, rfl, rfl, _, rfl, ?_⟩;by_cases c : lo ≤ i
   · rw [ai c];refine xi ⟨_, rfl, i, hi, rfl, rfl, ?_⟩;have kk : Q (.bl (decide (lo ≤ i) && decide (i ≤ hi))) H1 := k H1 s1;rw [ai c, bi] at kk;exact kk
   · rw [av c];refine ye ?_;have kk : Q (.bl (decide (lo ≤ i) && decide (i ≤ hi))) H1 := k H1 s1;rw [av c, cg] at kk;exact kk
 | _ => exact ye (k H1 s1)
theorem zod : FnScope ["thing", "least", "most"] ["thing", "least", "most"] (zj vx) := ⟨rfl, rfl, rfl, by decide +kernel, rfl, by decide +kernel, by decide +kernel⟩
theorem Zw (D : Def K mg "is_tuple_within" vx) (T : Txt K mg) : Ok P w K mg base "is_tuple_within" 1 ["thing", "least", "most"] zf9 := by
 refine xx D zod (fun _ _ _ _ _ _ us hl => (match us, hl with | [_, _, _], _ => rfl)) (fun vs H Q E ⟨t, v, lo, hi, e, _⟩ => by rw [e]; rfl) fun f cdv A outer s H vs Q E hr h => ?_;obtain ⟨t, v, lo, hi, rfl, ht, k⟩ := h;refine ⟨_, zi (zp (qa (wl T.isi T.tuple xw (pv 0)) (v4 (Wz W0 W0 (pv 1) (zn zq rfl T.len yd (zc (pv 0) zd)) (pv 2))))), ?_⟩;refine ⟨_, rfl, v, "tuple", _, _, rfl, ht.ty, ju K t, _, rfl, ?_⟩;cases t with
 | tup ts =>
   refine xi ?_;obtain ⟨a, xs, rfl, ha, hl⟩ := ht;have e := hl.length;refine ⟨_, rfl, _, rfl, a, xs, rfl, .inr (SqT.of ha), lo, _, rfl, rfl, _, rfl, ?_⟩;have kk : Q (.bl (decide (lo ≤ (ts.length : Int)) && decide ((ts.length : Int) ≤ hi))) H := k H (Same.refl H);rw [← e] at kk;by_cases c : lo ≤ (xs.length : Int)
   · rw [ai c];rw [ai c, bi] at kk;exact xi ⟨_, rfl, _, hi, rfl, rfl, kk⟩
   · rw [av c];rw [av c, cg] at kk;exact ye kk
 | _ => exact ye (k H (Same.refl H))
abbrev Jm : Stmt := top 55
abbrev zby : Stmt := top 56
noncomputable def znv : Sp := fun vs H Q _ => ∃ c p : Int, vs = [.int c, .int p] ∧ 0 ≤ p ∧ ∀ r, 0 ≤ r → Q (.int r) H
noncomputable def But (a : Addr) (H H' : Hp) : Prop := ∀ b o, b ≠ a → H b = some o → H' b = some o
theorem But.refl (a : Addr) (H : Hp) : But a H H := fun _ _ _ e => e
theorem But.trans {H1 H2 : Hp} (x : But a H H1) (y : But a H1 H2) : But a H H2 := fun b o n e => y b o n (x b o n e)
theorem _root_.L2.Same.but (s : Same H H') : But a H H' := fun b o _ e => s b o e
theorem But.upd {a : Addr} {H : Hp} {o : HO} : But a H (upd H a o) := fun b u n e => by rw [zk n]; exact e
theorem But.seq {xs : List V} (x : But a H H') (n : s ≠ a) (h : SqL K H s xs) : SqL K H' s xs := by
 rcases h with (h | ⟨o, h⟩) | h
 · exact .inl (.inl (x _ _ n h))
 · exact .inl (.inr ⟨o, x _ _ n h⟩)
 · exact .inr h
structure Tape (K : PySem.W.Frag) (H : Hp) (a s : Addr) (ns : List Int) : Prop where
 at' : ∃ p r : Int, H a = some (.lst [.ref s, .int p, .int r]) ∧ 0 ≤ p ∧ 0 ≤ r
 seq : SqL K H s (ns.map V.int)
 ne : s ≠ a
 len : ns.length ≤ 63
theorem Tape.same (t : Tape K H a s ns) (h : Same H H') : Tape K H' a s ns := by
 obtain ⟨⟨p, r, e, h1, h2⟩, q, n, l⟩ := t;exact ⟨⟨p, r, h _ _ e, h1, h2⟩, h.seq q, n, l⟩
theorem Tape.tups (t : Tape K H a s ns) (b : But a H H') : vt H H' := fun c xs e => by
 obtain ⟨⟨p, r, ea, _⟩, _⟩ := t;exact b c _ (ke e ea (by intro z; cases z)) e
theorem ze7 (h0 : 0 < j) (h : j < 2 ^ 70) : j.natAbs.log2 < 9000 := by
 have h1 : j.natAbs < 2 ^ 70 := by omega
 have h2 : j.natAbs ≠ 0 := by omega
 have h3 : j.natAbs.log2 < 70 := (Nat.log2_lt h2).mpr h1;omega
theorem zgy : OpR X (binaryOp .FloorDiv) (rI (fun _ j => 0 < j ∧ j < 2 ^ 70) fun i j => .int (i / j)) := opI fun i j _ _ _ _ _ hc q => by
 have h1 : (0 : Int) < j := hc.1;exact floordiv_int (by omega) (by rw [Int.fdiv_eq_ediv_of_nonneg i (by omega)]; exact q) (.inl (PyProof.noPylong_of_log2 (ze7 hc.1 hc.2)))
noncomputable def zi7 (K : PySem.W.Frag) : Sp := fun vs H Q _ => ∃ (a s : Addr) (ns : List Int) (many : Int), vs = [.ref a, .int many] ∧ Tape K H a s ns ∧ 0 < many ∧ many < 2 ^ 70 ∧ ∀ d H', 0 ≤ d → d < many → But a H H' → Tape K H' a s ns → Q (.int d) H'
theorem zii (h : -(2 ^ 64) < j ∧ j < 2 ^ 64) : ziw i j := .inr h
theorem V3 (h : -(2 ^ 64) < i ∧ i < 2 ^ 64) : ziw i j := .inl h
theorem Kx : FnScope ["cell", "place", "one", "two", "more"] ["cell", "place"] (zj Jm) := ⟨rfl, rfl, rfl, by decide +kernel, rfl, by decide +kernel, by decide +kernel⟩
theorem zg8 (D : Def K mg "_law_e_mixed" Jm) : Ok P w K mg base "_law_e_mixed" 1 ["cell", "place"] znv := by
 refine xx D Kx (fun _ _ _ _ _ _ us hl => (match us, hl with | [_, _], _ => rfl)) (fun vs H Q E ⟨_, _, e, _⟩ => by rw [e]; rfl) fun f cdv A outer s H vs Q E hr h => ?_;obtain ⟨c, p, rfl, hp, k⟩ := h;have nd := Kx.nd;refine ⟨_, ze (yc (zw zdl (pv 0) (yb zl8 zh zh) (zt _)) (zi (zp (pv 0))) zr)
  (ze (ya (i := 2) nd rfl (Or.inl rfl) (yb jn (yb xt (yb xt (yb ve (yb jn (pv 0) zh) zh) (yb ve (pv 1) zh)) zh) zh))
  (ze (ya (i := 3) nd rfl (Or.inl rfl) (yb jn (yb xt (yb xt (yb xt (yb ve (pv 2) (pv 2)) (yb ve zh (pv 2))) (yb ve zh (pv 1))) zh) zh))
  (ze (ya (i := 4) nd rfl (Or.inl rfl) (yb jn (yb xt (yb xt (yb ve (pv 3) (pv 3)) (yb ve zh (pv 1))) (pv 2)) zh))
  (zi (zp (yb xt (yb ve (pv 3) zh) (pv 4))))))), ?_⟩
 refine ⟨_, rfl, 10, 18, rfl, rfl, ⟨by decide, by decide, by decide⟩, _, _, rfl, rfl, _, rfl, ?_⟩;refine y0 (fun d => ?_) (fun _ => ?_)
 · have d := bp d;refine ⟨_, rfl, k c ?_⟩;have : (0 : Int) ≤ (10 : Int) ^ (18 : Int).toNat := by decide
   omega
 · refine ⟨_, rfl, _, _, rfl, rfl, (by show (0 : Int) < 1000000009; decide), _, _, rfl, rfl, zii (by decide), _, rfl, _, _, rfl, rfl, zii (by decide), _, _, rfl, rfl, _, _, rfl, rfl, _, _, rfl, rfl, (by show (0 : Int) < 1999999973; decide), ?_⟩;have m1 := dg (c % 1000000009 * 75353 + p * 4099 + 17) (show (1999999973 : Int) ≠ 0 by decide);have m2 := dj (c % 1000000009 * 75353 + p * 4099 + 17) (show (0 : Int) < 1999999973 by decide);generalize (c % 1000000009 * 75353 + p * 4099 + 17) % 1999999973 = x1 at m1 m2 ⊢;refine ⟨_, rfl, _, rfl, _, _, rfl, rfl, V3 (by omega), _, rfl, _, _, rfl, rfl, V3 (by decide), _, _, rfl, rfl, _, rfl, _, _, rfl, rfl, V3 (by decide), _, _, rfl, rfl, _, _, rfl, rfl, _, _, rfl, rfl, (by show (0 : Int) < 2147483549; decide), ?_⟩;have m3 := dg (x1 * x1 + 8191 * x1 + 3 * p + 1) (show (2147483549 : Int) ≠ 0 by decide);have m4 := dj (x1 * x1 + 8191 * x1 + 3 * p + 1) (show (0 : Int) < 2147483549 by decide);generalize (x1 * x1 + 8191 * x1 + 3 * p + 1) % 2147483549 = x2 at m3 m4 ⊢;refine ⟨_, rfl, _, rfl, _, _, rfl, rfl, V3 (by omega), _, rfl, _, _, rfl, rfl, V3 (by decide), _, _, rfl, rfl, _, rfl, _, _, rfl, rfl, _, _, rfl, rfl, (by show (0 : Int) < 2147483497; decide), ?_⟩;have m5 := dg (x2 * x2 + 127 * p + x1) (show (2147483497 : Int) ≠ 0 by decide);generalize (x2 * x2 + 127 * p + x1) % 2147483497 = x3 at m5 ⊢;exact ⟨_, rfl, _, _, rfl, rfl, zii (by decide), _, rfl, _, _, rfl, rfl, k _ (by omega)⟩
theorem zdd : FnScope ["deck", "many", "place", "cell", "picked"] ["deck", "many"] (zj zby) := ⟨rfl, rfl, rfl, by decide +kernel, rfl, by decide +kernel, by decide +kernel⟩
theorem zjt (D : Def K mg "_law_e_pick" zby) (T : Txt K mg) (o1 : Ok P w K mg base "_law_e_mixed" 1 ["cell", "place"] znv) : Ok P w K mg base "_law_e_pick" 2 ["deck", "many"] (zi7 K) := by
 refine xx D zdd (fun _ _ _ _ _ _ us hl => (match us, hl with | [_, _], _ => rfl)) (fun vs H Q E ⟨_, _, _, _, e, _⟩ => by rw [e]; rfl) fun f cdv A outer sh H vs Q E hr h => ?_;obtain ⟨a, s, ns, many, rfl, hT, hm0, hm1, k⟩ := h;obtain ⟨p, r, ha, hp0, hr0⟩ := hT.at';have nd := zdd.nd;refine ⟨_, ze (yc (zw Yn (zo yn (pv 0) zh (fun _ _ => rfl)) (pv 1) (zt _))
   (ze (ya (i := 2) nd rfl (Or.inl rfl) (zo yn (pv 0) zh (fun _ _ => rfl)))
   (ze (ya (i := 3) nd rfl (Or.inl rfl) (yb ve zh (pv 2)))
   (ze (yc (zw Yn (pv 2) (zn zq (by rfl) T.len yd (zc (zo yn (pv 0) zh (fun _ _ => rfl)) zd)) (zt _))
    (zi (ya (i := 3) nd rfl (Or.inl rfl) (zo yn (zo yn (pv 0) zh (fun _ _ => rfl)) (pv 2) (fun _ _ => rfl))))
    (zi (yc (zw W1 (zn zq (by rfl) T.len yd (zc (zo yn (pv 0) zh (fun _ _ => rfl)) zd)) zh (zt _))
     (zi (ya (i := 3) nd rfl (Or.inl rfl) (yb xt (yb jn (zo yn (zo yn (pv 0) zh (fun _ _ => rfl)) (yb jn (yb ve (pv 2) zh) (zn zq (by rfl) T.len yd (zc (zo yn (pv 0) zh (fun _ _ => rfl)) zd))) (fun _ _ => rfl)) zh) (yb ve (pv 2) zh)))) zr)))
   (ze (ql (yb xt (pv 2) zh) (j7 (pv 0) zh wt))
   (zi (ql (zx o1 hr (zc (pv 3) (zc (pv 2) zd))) (j7 (pv 0) zh wt))))))) zr)
  (ze (ya (i := 4) nd rfl (Or.inl rfl) (yb jn (zo yn (pv 0) zh (fun _ _ => rfl)) (pv 1)))
  (ze (ql (yb zgy (zo yn (pv 0) zh (fun _ _ => rfl)) (pv 1)) (j7 (pv 0) zh wt))
  (zi (zp (pv 4))))), ?_⟩
 refine ⟨_, rfl, a, _, _, _, rfl, rfl, SqL.of ha, rfl, _, rfl, _, _, rfl, rfl, _, rfl, ?_⟩;refine y0 (fun _ => ?_) (fun _ => ?_)
 · have hl : (ns.map V.int).length = ns.length := a7 _;refine ⟨_, rfl, a, _, _, _, rfl, rfl, SqL.of ha, rfl, _, rfl, _, _, rfl, rfl, V3 (by decide), ?_⟩;refine ⟨_, rfl, _, rfl, a, _, _, _, rfl, rfl, SqL.of ha, rfl, s, _, rfl, .inl hT.seq, _, _, rfl, rfl, _, rfl, ?_⟩;refine y0 (fun c1 => ?_) (fun c1 => ?_)
   · have c1 := bp c1;rw [hl] at c1;have hi : p.toNat < ns.length := by omega
     have ep : p = ((p.toNat : Nat) : Int) := by omega
     have hat : atI (ns.map V.int) p = some (.int ns[p.toNat]) := by
      have q : atI (ns.map V.int) ((p.toNat : Nat) : Int) = some (.int ns[p.toNat]) := yo (by rw [ao, ah hi]; rfl);rw [← ep] at q;exact q
     refine ⟨_, rfl, a, _, _, _, rfl, rfl, SqL.of ha, rfl, _, rfl, s, _, _, _, rfl, rfl, hT.seq, hat, ?_⟩;refine ⟨_, rfl, _, _, rfl, rfl, _, rfl, a, _, _, _, rfl, rfl, ha, rfl, ?_⟩;refine ⟨_, rfl, _, rfl, _, p, rfl, hp0, fun r2 hr2 => ⟨_, rfl, a, _, _, _, rfl, rfl, zf, rfl, ?_⟩⟩;have e2 : (upd (upd H a (.lst (([.ref s, .int p, .int r] : List V).set 1 (.int (p + 1))))) a (.lst ((([.ref s, .int p, .int r] : List V).set 1 (.int (p + 1))).set 2 (.int r2)))) a = some (.lst [.ref s, .int (p + 1), .int r2]) := zf;refine ⟨_, rfl, a, _, _, _, rfl, rfl, SqL.of e2, rfl, _, rfl, _, _, rfl, rfl, hm0, ?_⟩;refine ⟨_, rfl, a, _, _, _, rfl, rfl, SqL.of e2, rfl, _, rfl, _, _, rfl, rfl, ⟨hm0, hm1⟩, _, rfl, a, _, _, _, rfl, rfl, e2, rfl, ?_⟩;refine ⟨_, rfl, k _ _ (dg _ (by omega)) (dj _ hm0) ((But.refl a H).trans (But.upd.trans (But.upd.trans But.upd))) ⟨⟨_, _, zf, (by omega), Int.ediv_nonneg hr2 (by omega)⟩, But.seq ((But.refl a H).trans (But.upd.trans (But.upd.trans But.upd))) hT.ne hT.seq, hT.ne, hT.len⟩⟩
   · refine ⟨_, rfl, a, _, _, _, rfl, rfl, SqL.of ha, rfl, s, _, rfl, .inl hT.seq, _, _, rfl, rfl, _, rfl, ?_⟩;refine y0 (fun c2 => ?_) (fun c2 => ?_)
     · have c2 := bp c2;rw [hl] at c2;have hpos : (0 : Int) < (ns.length : Int) := c2;have hj1 := dg (p * 11) (show (ns.length : Int) ≠ 0 by omega);have hj2 := dj (p * 11) hpos;have hi : (p * 11 % (ns.length : Int)).toNat < ns.length := by omega
       have ep : p * 11 % (ns.length : Int) = (((p * 11 % (ns.length : Int)).toNat : Nat) : Int) := by omega
       have hat : atI (ns.map V.int) (p * 11 % (ns.length : Int)) = some (.int ns[(p * 11 % (ns.length : Int)).toNat]) := by
        have q : atI (ns.map V.int) (((p * 11 % (ns.length : Int)).toNat : Nat) : Int) = some (.int ns[(p * 11 % (ns.length : Int)).toNat]) := yo (by rw [ao, ah hi]; rfl);rw [← ep] at q;exact q
       refine ⟨_, rfl, a, _, _, _, rfl, rfl, SqL.of ha, rfl, _, rfl, _, _, rfl, rfl, zii (by decide), _, rfl, a, _, _, _, rfl, rfl, SqL.of ha, rfl, s, _, rfl, .inl hT.seq, _, _, rfl, rfl, ?_, s, _, _, _, rfl, rfl, hT.seq, (by rw [hl]; exact hat), _, _, rfl, rfl, (by show (0 : Int) < 999999937; decide), _, rfl, _, _, rfl, rfl, zii (by decide), _, _, rfl, rfl, ?_⟩
       · show (0 : Int) < (((ns.map V.int).length : Nat) : Int);rw [hl]; exact hpos
       refine ⟨_, rfl, _, _, rfl, rfl, _, rfl, a, _, _, _, rfl, rfl, ha, rfl, ?_⟩;refine ⟨_, rfl, _, rfl, _, p, rfl, hp0, fun r2 hr2 => ⟨_, rfl, a, _, _, _, rfl, rfl, zf, rfl, ?_⟩⟩;have e2 : (upd (upd H a (.lst (([.ref s, .int p, .int r] : List V).set 1 (.int (p + 1))))) a (.lst ((([.ref s, .int p, .int r] : List V).set 1 (.int (p + 1))).set 2 (.int r2)))) a = some (.lst [.ref s, .int (p + 1), .int r2]) := zf;refine ⟨_, rfl, a, _, _, _, rfl, rfl, SqL.of e2, rfl, _, rfl, _, _, rfl, rfl, hm0, ?_⟩;refine ⟨_, rfl, a, _, _, _, rfl, rfl, SqL.of e2, rfl, _, rfl, _, _, rfl, rfl, ⟨hm0, hm1⟩, _, rfl, a, _, _, _, rfl, rfl, e2, rfl, ?_⟩;refine ⟨_, rfl, k _ _ (dg _ (by omega)) (dj _ hm0) ((But.refl a H).trans (But.upd.trans (But.upd.trans But.upd))) ⟨⟨_, _, zf, (by omega), Int.ediv_nonneg hr2 (by omega)⟩, But.seq ((But.refl a H).trans (But.upd.trans (But.upd.trans But.upd))) hT.ne hT.seq, hT.ne, hT.len⟩⟩
     · skip
       refine ⟨_, rfl, _, _, rfl, rfl, _, rfl, a, _, _, _, rfl, rfl, ha, rfl, ?_⟩;refine ⟨_, rfl, _, rfl, _, p, rfl, hp0, fun r2 hr2 => ⟨_, rfl, a, _, _, _, rfl, rfl, zf, rfl, ?_⟩⟩;have e2 : (upd (upd H a (.lst (([.ref s, .int p, .int r] : List V).set 1 (.int (p + 1))))) a (.lst ((([.ref s, .int p, .int r] : List V).set 1 (.int (p + 1))).set 2 (.int r2)))) a = some (.lst [.ref s, .int (p + 1), .int r2]) := zf;refine ⟨_, rfl, a, _, _, _, rfl, rfl, SqL.of e2, rfl, _, rfl, _, _, rfl, rfl, hm0, ?_⟩;refine ⟨_, rfl, a, _, _, _, rfl, rfl, SqL.of e2, rfl, _, rfl, _, _, rfl, rfl, ⟨hm0, hm1⟩, _, rfl, a, _, _, _, rfl, rfl, e2, rfl, ?_⟩;refine ⟨_, rfl, k _ _ (dg _ (by omega)) (dj _ hm0) ((But.refl a H).trans (But.upd.trans (But.upd.trans But.upd))) ⟨⟨_, _, zf, (by omega), Int.ediv_nonneg hr2 (by omega)⟩, But.seq ((But.refl a H).trans (But.upd.trans (But.upd.trans But.upd))) hT.ne hT.seq, hT.ne, hT.len⟩⟩
 · refine ⟨_, rfl, a, _, _, _, rfl, rfl, SqL.of ha, rfl, _, rfl, _, _, rfl, rfl, hm0, ?_⟩;refine ⟨_, rfl, a, _, _, _, rfl, rfl, SqL.of ha, rfl, _, rfl, _, _, rfl, rfl, ⟨hm0, hm1⟩, _, rfl, a, _, _, _, rfl, rfl, ha, rfl, ?_⟩;refine ⟨_, rfl, k _ _ (dg _ (by omega)) (dj _ hm0) But.upd ⟨⟨_, _, zf, hp0, Int.ediv_nonneg hr0 (by omega)⟩, But.seq But.upd hT.ne hT.seq, hT.ne, hT.len⟩⟩
theorem yg {scope : Scope} (sc : Scope) (hsc : X.env.scope = sc) (h1 : scope.kind = .function) (h2 : ∀ x ∈ scope.names, x.2 = .free → sc.names.lookup x.1 = some .cell ∨ sc.names.lookup x.1 = some .free)
  (h3 : ∀ x ∈ scope.names, x.2 ≠ .cell) (h4 : ∀ x ∈ scope.names, x.2 = .local → scope.names.lookup x.1 = some .local) (h5 : Ja X scope cap) : LcScope X own cap scope := by
 subst hsc;exact ⟨h1, h2, h3, h4, h5⟩
theorem qz {i : Nat} {A B : L2.St → Hp → Prop} (h : A (σ.set i (some v)) H) : wz i v σ H (fun σ2 H2 => zlk σ2 H2 fun b H3 => if b = true then A σ2 H3 else B σ2 H3) := by
 show if true = true then A (σ.set i (some v)) H else B (σ.set i (some v)) H
 exact xi h
theorem xr {o : Option NameKind} (h : o = some .cell) : o ≠ some .local := fun z => by rw [h] at z; cases z
theorem Tape.at2 (t : Tape K H a s ns) (b : But a H H') (h : ∃ p r : Int, H' a = some (.lst [.ref s, .int p, .int r]) ∧ 0 ≤ p ∧ 0 ≤ r) : Tape K H' a s ns := ⟨h, b.seq t.ne t.seq, t.ne, t.len⟩
noncomputable def zkw (H : Hp) (a s : Addr) : Prop := ∃ p r : Int, H a = some (.lst [.ref s, .int p, .int r]) ∧ 0 ≤ p ∧ 0 ≤ r
theorem jg {t : TS} {D : Ends} (R : L2.St → Hp → Prop) (hR : ∀ σ' H', R σ' H' → D.nx σ' H') (g : (∀ σ' H', R σ' H' → D.nx σ' H') → t D σ H) : t D σ H := g hR
abbrev qu : Stmt := top 10
abbrev Y9 : Stmt := top 11
noncomputable def Zk (c : Nat) : Bool := !decide ((⟨#[c]⟩ : Str).cps.toList < ("a" : Str).cps.toList) && !decide (("z" : Str).cps.toList < (⟨#[c]⟩ : Str).cps.toList)
noncomputable def zdn (t : T) : Bool := match t with | .str x => decide ((1 : Int) ≤ (x.length : Int)) && decide ((x.length : Int) ≤ 8) && x.cps.toList.all Zk | _ => false
noncomputable def Wl (t : T) : Prop := ∀ x, t = .str x → x.length ≤ sizeLine
noncomputable def zaq (t : T) : Bool := match t with | .str x => decide ((1 : Int) ≤ (x.length : Int)) && x.cps.toList.all Zk | _ => false
theorem zbu : FnScope ["thing"] ["thing"] (zj qu) := ⟨rfl, rfl, rfl, by decide +kernel, rfl, by decide +kernel, by decide +kernel⟩
theorem Vy (D : Def K mg "is_letters" qu) (T : Txt K mg) : Ok P w K mg base "is_letters" 1 ["thing"] (Kq Wl zaq) := by
 refine xx D zbu (fun _ _ _ _ _ _ us hl => (match us, hl with | [_], _ => rfl)) (fun vs H Q E ⟨t, v, e, _⟩ => by rw [e]; rfl) fun f cdv A outer s H vs Q E hr h => ?_;obtain ⟨t, v, rfl, ht, hz, k⟩ := h;refine ⟨_, ze (yc (PW.pt (wj (yu (yh (wl T.isi T.str zin (pv 0)))) (wf (zw wa (zn Yz (by rfl) T.len yd (zc (pv 0) zd)) zh (zt _))))) (zi (zp xj)) zr)
  (zi (zp (zn (wg rfl) rfl T.all qc (zc (wc (own := ["letter"]) (cap := []) rfl (yg (zj qu) rfl rfl (by decide +kernel) (by decide +kernel) (by decide +kernel) trivial) (zl4 (pv 0)) (fun _ _ _ _ => zu (i := 0) (by show (["letter"] : List Str).Nodup; decide +kernel) rfl (Or.inl rfl))
   (fun _ _ _ _ => yq) (fun _ _ _ _ => Wz Qm Qm yi (pv 0) yi)) zd)))), ?_⟩
 refine ⟨_, rfl, v, "str", _, _, rfl, ht.ty, zds K t, _, rfl, ?_⟩;cases t with
 | str x =>
   refine ye ?_;cases (show v = .str x from ht);have kk : ∀ H', Same H H' → Q (.bl (decide ((1 : Int) ≤ (x.length : Int)) && x.cps.toList.all Zk)) H' := k;refine ⟨_, rfl, x, rfl, hz x rfl, rfl, _, rfl, ?_⟩;rw [dec_int];refine y0 (fun c => ?_) (fun c => ?_)
   · have c : (x.length : Int) = 0 := by simpa using c
     rw [av (by omega), cg] at kk;exact kk H (Same.refl H)
   · have c : (1 : Int) ≤ (x.length : Int) := by
      have : (x.length : Int) ≠ 0 := fun z => c (by simpa using z);omega
     rw [ai c, bi] at kk;refine ⟨_, rfl, x, rfl, ?_⟩;have hsz : x.cps.size ≤ sizeLine := hz x rfl;refine zmf (x := x) (fun i ys H' => H' = H ∧ ys = (x.cps.toList.take i).map fun c => V.bl (Zk c)) ⟨rfl, rfl⟩ (fun i ys H' hi ⟨_, e⟩ => by rw [e, a7, cx]; omega) ?_ ?_
     · rintro i c ys H' hc ⟨rfl, rfl⟩;refine qz ?_;have hnext : (x.cps.toList.take (i + 1)).map (fun c => V.bl (Zk c)) = (x.cps.toList.take i).map (fun c => V.bl (Zk c)) ++ [V.bl (Zk c)] := by
        have : x.cps.toList[i]? = some c := by rw [Array.getElem?_toList]; exact hc
        rw [c5, this, al];rfl
       refine ⟨_, rfl, "a", _, rfl, rfl, _, rfl, ?_⟩;refine y0 (fun d => ?_) (fun d => ?_)
       · refine ⟨_, "z", rfl, rfl, rfl, ?_⟩;rw [hnext];congr 3;unfold Zk;rw [d, bi]
       · refine ⟨rfl, ?_⟩;rw [hnext];congr 3;unfold Zk;rw [Bool.eq_false_iff.mpr d, cg]
     · rintro ys H' ⟨rfl, rfl⟩ p hp;refine ⟨p, x.cps.toList.map Zk, rfl, SqL.of ?_, ?_⟩
       · rw [zf, cv];have e : x.cps.toList.take x.cps.size = x.cps.toList := by
          rw [← Array.length_toList, c8]
         rw [e];rfl
       · have e : (x.cps.toList.map Zk).all id = x.cps.toList.all Zk := by rw [List.all_map]; rfl
         rw [e];exact kk _ (Same.new hp _)
 | _ => exact xi (xi (k H (Same.refl H)))
theorem zjg : FnScope ["thing"] ["thing"] (zj Y9) := ⟨rfl, rfl, rfl, by decide +kernel, rfl, by decide +kernel, by decide +kernel⟩
theorem zcb (D : Def K mg "is_word" Y9) (T : Txt K mg) (o1 : Ok P w K mg base "is_letters" 1 ["thing"] (Kq Wl zaq)) : Ok P w K mg base "is_word" 2 ["thing"] (Kq Wl zdn) := by
 refine xx D zjg (fun _ _ _ _ _ _ us hl => (match us, hl with | [_], _ => rfl)) (fun vs H Q E ⟨t, v, e, _⟩ => by rw [e]; rfl) fun f cdv A outer s H vs Q E hr h => ?_;obtain ⟨t, v, rfl, ht, hz, k⟩ := h;refine ⟨_, zi (zp (qa (zx o1 hr (zc (pv 0) zd)) (v4 (xg W0 (zn Yz (by rfl) T.len yd (zc (pv 0) zd)) (yx T.MOST_LETTERS) (zt _))))), ?_⟩;refine ⟨_, rfl, t, v, rfl, ht, hz, fun H1 s1 => ⟨_, rfl, ?_⟩⟩;cases t with
 | str x =>
   cases (show v = .str x from ht);have kk : ∀ H', Same H H' → Q (.bl (decide ((1 : Int) ≤ (x.length : Int)) && decide ((x.length : Int) ≤ 8) && x.cps.toList.all Zk)) H' := k;show if (decide ((1 : Int) ≤ (x.length : Int)) && x.cps.toList.all Zk) = true then _ else _
   cases c1 : (decide ((1 : Int) ≤ (x.length : Int)) && x.cps.toList.all Zk) with
   | false =>
     refine ye ?_;have e : (decide ((1 : Int) ≤ (x.length : Int)) && decide ((x.length : Int) ≤ 8) && x.cps.toList.all Zk) = false := by
      rw [Bool.and_right_comm, c1, cg]
     have := kk H1 s1;rw [e] at this;exact this
   | true =>
     refine xi ⟨_, rfl, x, rfl, hz x rfl, _, 8, rfl, rfl, ?_⟩;have := kk H1 s1;rw [Bool.and_right_comm, c1, bi] at this;exact this
 | _ => exact ye (k H1 s1)
abbrev j4 : Stmt := top 22
abbrev wEq (x : Str) (y : Str) : Bool := decide (V.str x = V.str y)
noncomputable def g0 (r : List T) : T := r.getD 0 .non
noncomputable def g1 (r : List T) : T := r.getD 1 .non
noncomputable def g2 (r : List T) : T := r.getD 2 .non
noncomputable def gt0 : T → Bool | .int i => decide (i > 0) | _ => false
noncomputable def J4 (x : Str) (r : List T) (b beh : Int) : Bool :=
 if wEq x "say" = true then decide (r.length = 1) && zdn (g0 r)
 else if r.length < 2 then false
 else yr (g0 r) 0 (b - 1) && (yr (g1 r) 0 9 &&
  (if wEq x "skip" = true then decide (r.length = 3) && yr (g2 r) 1 beh
   else if wEq x "raise" = true then decide (r.length = 2) && gt0 (g1 r)
   else inV (.str x) [.str "put", .str "same"] && decide (r.length = 2)))
noncomputable def mLD (t : T) (b beh : Int) : Bool := match t with
 | .tup (.str x :: r) => (decide (1 ≤ r.length) && decide (r.length ≤ 3)) && J4 x r b beh
 | _ => false
noncomputable def Wd (t : T) : Prop := ∀ ts, t = .tup ts → ∀ u ∈ ts, Wl u
noncomputable def zn3 : Sp := fun vs H Q _ => ∃ t v b beh, vs = [v, .int b, .int beh] ∧ Is H t v ∧ Wd t ∧ ∀ H', Same H H' → Q (.bl (mLD t b beh)) H'
theorem zpm : v5 (.tup ts) 2 4 = (decide (2 ≤ ts.length) && decide (ts.length ≤ 4)) := by
 show (decide ((2 : Int) ≤ (ts.length : Int)) && decide ((ts.length : Int) ≤ 4)) = _;rw [Bool.eq_iff_iff];simp only [bc, decide_eq_true_eq];omega
theorem Ky : FnScope ["thing", "boxes", "many_behind", "word"] ["thing", "boxes", "many_behind"] (zj j4) := ⟨rfl, rfl, rfl, by decide +kernel, rfl, by decide +kernel, by decide +kernel⟩
theorem Vx (D : Def K mg "is_loose_deed" j4) (T : Txt K mg) (o1 : Ok P w K mg base "is_tuple_within" 1 ["thing", "least", "most"] zf9) (o2 : Ok P w K mg base "is_within" 2 ["thing", "least", "most"] zei)
  (o6 : Ok P w K mg base "is_word" 2 ["thing"] (Kq Wl zdn)) : Ok P w K mg base "is_loose_deed" 3 ["thing", "boxes", "many_behind"] zn3 := by
 refine xx D Ky (fun _ _ _ _ _ _ us hl => (match us, hl with | [_, _, _], _ => rfl)) (fun vs H Q E ⟨t, v, b, beh, e, _⟩ => by rw [e]; rfl) fun f cdv A outer s H vs Q E hr h => ?_;obtain ⟨t, v, b, beh, rfl, ht, hW, k⟩ := h;have r1 := hr.mono (show 1 ≤ 2 by decide);have nd := Ky.nd;refine ⟨_, ze (yc (PW.pt (wj (yu (yh (zx o1 r1 (zc (pv 0) (zc zh (zc zh zd)))))) (wf (yu (yh (wl T.isi T.str zin (zo zl (pv 0) zh (fun _ _ => rfl)))))))) (zi (zp xj)) zr)
  (ze (ya (i := 3) nd rfl (Or.inl rfl) (zo zl (pv 0) zh (fun _ _ => rfl)))
  (ze (yc (zw wa (pv 3) yi (zt _)) (zi (zp (qa (xg wa (zn zq (by rfl) T.len yd (zc (pv 0) zd)) zh (zt _)) (v4 (zx o6 hr (zc (zo zl (pv 0) zh (fun _ _ => rfl)) zd)))))) zr)
  (ze (yc (PW.pt (wj (zw Yn (zn zq (by rfl) T.len yd (zc (pv 0) zd)) zh (zt _)) (wj (yu (yh (zx o2 hr (zc (zo zl (pv 0) zh (fun _ _ => rfl)) (zc zh (zc (yb jm (pv 1) zh) zd)))))) (wf (yu (yh (zx o2 hr (zc (zo zl (pv 0) zh (fun _ _ => rfl)) (zc zh (zc (yx T.MOST_NUMBER) zd)))))))))) (zi (zp xj)) zr)
  (ze (yc (zw wa (pv 3) yi (zt _)) (zi (zp (qa (xg wa (zn zq (by rfl) T.len yd (zc (pv 0) zd)) zh (zt _)) (v4 (zx o2 hr (zc (zo zl (pv 0) zh (fun _ _ => rfl)) (zc zh (zc (pv 2) zd)))))))) zr)
  (ze (yc (zw wa (pv 3) yi (zt _)) (zi (zp (qa (xg wa (zn zq (by rfl) T.len yd (zc (pv 0) zd)) zh (zt _)) (v4 (xg W1 (zo zl (pv 0) zh (fun _ _ => rfl)) zh (zt _)))))) zr)
  (zi (zp (qa (xg zes (pv 3) (w6 (zc yi (zc yi zd))) rfl) (v4 (xg wa (zn zq (by rfl) T.len yd (zc (pv 0) zd)) zh (zt _))))))))))), ?_⟩
 refine ⟨_, rfl, t, v, 2, 4, rfl, ht, fun H1 s1 => ⟨_, rfl, ?_⟩⟩;cases t with
 | tup ts =>
   rw [zpm];by_cases hl : 2 ≤ ts.length ∧ ts.length ≤ 4
   · have hb : (decide (2 ≤ ts.length) && decide (ts.length ≤ 4)) = true := by simpa using hl
     rw [hb];refine ye ?_;obtain ⟨x0, r, rfl⟩ : ∃ x0 r, ts = x0 :: r := by
      cases ts with
      | nil => simp at hl
      | cons a b => exact ⟨a, b, rfl⟩
     have hr1 : 1 ≤ r.length ∧ r.length ≤ 3 := by simpa using hl
     have hrb : (decide (1 ≤ r.length) && decide (r.length ≤ 3)) = true := by simpa using hr1
     have ht1 := ht.mono s1;obtain ⟨a, xs, u0, rfl, sq, ea, hu0⟩ := Is.at (K := K) (i := 0) ht1 rfl;refine ⟨_, rfl, a, xs, _, u0, rfl, rfl, sq, ea, u0, "str", _, _, rfl, hu0.ty, zds K x0, _, rfl, ?_⟩;cases x0 with
     | str x =>
       refine ye ?_;cases (show u0 = .str x from hu0);have kk : ∀ H', Same H1 H' → Q (.bl (J4 x r b beh)) H' := fun H' s' => by
        have q : Q (.bl ((decide (1 ≤ r.length) && decide (r.length ≤ 3)) && J4 x r b beh)) H' := k H' (s1.trans s');rw [hrb, bi] at q;exact q
       have item : ∀ {H' : Hp} (i : Nat), Same H1 H' → i < r.length → ∃ xs' u, SqT K H' a xs' ∧ atI xs' ((i + 1 : Nat) : Int) = some u ∧ Is H' (r.getD i .non) u := fun {H'} i s' hi => by
        have e : (L2.T.str x :: r)[i + 1]? = some (r.getD i .non) := by
         show r[i]? = _;rw [aq, ah hi];rfl
        obtain ⟨a', xs', u, e', sq', ea', hu⟩ := Is.at (K := K) (ht1.mono s') e;cases e';exact ⟨xs', u, sq', ea', hu⟩
       obtain ⟨a1, ys, q1, hya, hyl⟩ := id ht1;cases q1;have hyn : ys.length = r.length + 1 := by simpa using hyl.length
       have lenIs : ∀ n : Nat, decide (V.int (ys.length : Int) = V.int ((n + 1 : Nat) : Int)) = decide (r.length = n) := fun n => by
        rw [Bool.eq_iff_iff, decide_eq_true_eq, decide_eq_true_eq];refine ⟨fun z => ?_, fun z => congrArg V.int (by omega)⟩;have := V.int.inj z;omega
       refine ⟨_, rfl, a, xs, _, _, rfl, rfl, sq, ea, ?_⟩;refine ⟨_, rfl, rfl, _, rfl, ?_⟩;refine y0 (fun c => ?_) (fun c => ?_)
       · have k1 := kk;unfold J4 at k1;rw [if_pos c] at k1;refine ⟨_, rfl, a, ys, rfl, .inr (SqT.of hya), rfl, _, rfl, ?_⟩;have e2 := lenIs 1;refine y0 (fun d => ?_) (fun d => ?_)
         · have d : decide (V.int (ys.length : Int) = V.int ((1 + 1 : Nat) : Int)) = true := d;rw [e2] at d;rw [d, bi] at k1;have h1 : r.length = 1 := bp d;obtain ⟨xs', u, sq', ea', hu⟩ := item 0 (Same.refl H1) (by omega);refine ⟨_, rfl, a, xs', _, u, rfl, rfl, sq', ea', g0 r, u, rfl, hu, ?_, fun H3 s3 => k1 H3 s3⟩;refine hW _ rfl _ (bn _ ?_);unfold g0;rw [aq, ah (by omega : 0 < r.length)];exact List.getElem_mem _
         · have d : ¬ decide (V.int (ys.length : Int) = V.int ((1 + 1 : Nat) : Int)) = true := d;rw [e2] at d;rw [Bool.eq_false_iff.mpr d, cg] at k1;exact k1 H1 (Same.refl H1)
       have k1 := kk;unfold J4 at k1;rw [if_neg c] at k1;refine ⟨_, rfl, a, ys, rfl, .inr (SqT.of hya), _, _, rfl, rfl, _, rfl, ?_⟩;refine y0 (fun d => ?_) (fun d => ?_)
       · have d := bp d;rw [if_pos (by omega)] at k1;exact xi (k1 H1 (Same.refl H1))
       have h2 : 2 ≤ r.length := by
        have : ¬ ((ys.length : Int) < 3) := fun z => d (ai z);omega
       rw [if_neg (by omega)] at k1;obtain ⟨xs1, u1, sq1, ea1, hu1⟩ := item 0 (Same.refl H1) (by omega);refine ⟨_, rfl, a, xs1, _, u1, rfl, rfl, sq1, ea1, _, rfl, _, _, rfl, rfl, g0 r, u1, 0, b - 1, rfl, hu1, fun H2 s2 => ⟨_, rfl, ?_⟩⟩;cases e1 : yr (g0 r) 0 (b - 1) with
       | false =>
         rw [e1] at k1;exact xi (xi (k1 H2 s2))
       | true =>
         rw [e1, bi] at k1;refine ye ?_;obtain ⟨xs2, u2, sq2, ea2, hu2⟩ := item 1 s2 (by omega);refine ⟨_, rfl, a, xs2, _, u2, rfl, rfl, sq2, ea2, g1 r, u2, 0, 9, rfl, hu2, fun H3 s3 => ⟨_, rfl, ?_⟩⟩;have s23 := s2.trans s3;cases e2 : yr (g1 r) 0 9 with
         | false =>
           rw [e2] at k1;exact xi (k1 H3 s23)
         | true =>
           rw [e2, bi] at k1;refine ye ?_;have hya3 := s23 _ _ hya;refine ⟨_, rfl, rfl, _, rfl, ?_⟩;refine y0 (fun c2 => ?_) (fun c2 => ?_)
           · rw [if_pos c2] at k1;refine ⟨_, rfl, a, ys, rfl, .inr (SqT.of hya3), rfl, _, rfl, ?_⟩;have e3 := lenIs 3;refine y0 (fun d3 => ?_) (fun d3 => ?_)
             · have d3 : decide (V.int (ys.length : Int) = V.int ((3 + 1 : Nat) : Int)) = true := d3;rw [e3] at d3;rw [d3, bi] at k1;have h3 : r.length = 3 := bp d3;obtain ⟨xs3, u3, sq3, ea3, hu3⟩ := item 2 s23 (by omega);exact ⟨_, rfl, a, xs3, _, u3, rfl, rfl, sq3, ea3, _, rfl, g2 r, u3, 1, beh, rfl, hu3, fun H4 s4 => k1 H4 (s23.trans s4)⟩
             · have d3 : ¬ decide (V.int (ys.length : Int) = V.int ((3 + 1 : Nat) : Int)) = true := d3;rw [e3] at d3;rw [Bool.eq_false_iff.mpr d3, cg] at k1;exact k1 H3 s23
           rw [if_neg c2] at k1;refine ⟨_, rfl, rfl, _, rfl, ?_⟩;have e3 := lenIs 2;refine y0 (fun c3 => ?_) (fun c3 => ?_)
           · rw [if_pos c3] at k1;refine ⟨_, rfl, a, ys, rfl, .inr (SqT.of hya3), rfl, _, rfl, ?_⟩;refine y0 (fun d3 => ?_) (fun d3 => ?_)
             · have d3 : decide (V.int (ys.length : Int) = V.int ((2 + 1 : Nat) : Int)) = true := d3;rw [e3] at d3;rw [d3, bi] at k1;obtain ⟨xs3, u3, sq3, ea3, hu3⟩ := item 1 s23 (by omega);have hu3 : Is H3 (g1 r) u3 := hu3;cases eg : g1 r with
               | int i =>
                 rw [eg] at hu3 k1;cases (show u3 = .int i from hu3);exact ⟨_, rfl, a, xs3, _, _, rfl, rfl, sq3, ea3, i, 0, rfl, rfl, k1 H3 s23⟩
               | _ => rw [eg] at e2; cases e2
             · have d3 : ¬ decide (V.int (ys.length : Int) = V.int ((2 + 1 : Nat) : Int)) = true := d3;rw [e3] at d3;rw [Bool.eq_false_iff.mpr d3, cg] at k1;exact k1 H3 s23
           rw [if_neg c3] at k1;refine ⟨_, rfl, (by show 2 ≤ sizeLine; decide), fun p hp => ⟨p, _, rfl, .inr (SqT.of zf), rfl, rfl, _, rfl, ?_⟩⟩;have sp := Same.new hp (.tup [.str "put", .str "same"]);refine y0 (fun c4 => ?_) (fun c4 => ?_)
           · have c4 : inV (.str x) [.str "put", .str "same"] = true := c4;rw [c4, bi] at k1;refine ⟨_, rfl, a, ys, rfl, .inr (SqT.of (sp _ _ hya3)), rfl, ?_⟩;have q := k1 _ (s23.trans sp);rw [← e3] at q;exact q
           · have c4 : ¬ inV (.str x) [.str "put", .str "same"] = true := c4;rw [Bool.eq_false_iff.mpr c4, cg] at k1;exact k1 _ (s23.trans sp)
     | _ =>
       refine xi ?_;exact k H1 s1
   · have hb : (decide (2 ≤ ts.length) && decide (ts.length ≤ 4)) = false := by
      rw [Bool.eq_false_iff];intro z;simp only [bc, decide_eq_true_eq] at z;exact hl z
     rw [hb];refine xi (xi ?_);have e : mLD (.tup ts) b beh = false := by
      unfold mLD;split
      · rename_i x r heq
        have heq : ts = .str x :: r := by injection heq
        rw [heq] at hl;have : (decide (1 ≤ r.length) && decide (r.length ≤ 3)) = false := by
         rw [Bool.eq_false_iff];intro z;simp only [bc, decide_eq_true_eq] at z;exact hl (by rw [ck]; omega)
        rw [this, cg]
      · rfl
     have kk := k H1 s1;rw [e] at kk;exact kk
 | _ => exact xi (xi (k H1 s1))
end
end My
namespace L2
open PySem PySem.Spec PyProof.Rows
variable {cap : List Nat} {K : PySem.W.Frag}
section
variable {a : Addr} {xs : List V} {g : TG} {tc : TT} {te : TE} {k : Nat} {σ : St} {H : Hp} {Q : VK}
theorem zj6 (Pv : Nat → List V → Hp → Prop) (h0 : Pv 0 [] H) (hl : ∀ i ys H, i ≤ xs.length → Pv i ys H → SqT K H a xs ∧ ys.length ≤ sizeLine)
  (hs : ∀ i x ys H p, xs[i]? = some x → Pv i ys H → H p = none → g (.ref p) (capσ k cap σ) (upd H p (.tup [.int i, x])) fun σ2 H2 => tc σ2 H2 fun b H3 => if b = true then te σ2 H3 fun y H4 => Pv (i + 1) (ys ++ [y]) H4 else Pv (i + 1) ys H3)
  (hd : ∀ ys H, Pv xs.length ys H → ∀ p, H p = none → Q (.ref p) (upd H p (.lst ys))) : Y1 (Ite K a) g tc te k cap σ H Q := by
 refine ⟨fun i m ys H => m = xs.length - i ∧ i ≤ xs.length ∧ Pv i ys H, ⟨xs.length, by simp, bo _, h0⟩, ?_⟩;rintro i m ys H ⟨rfl, hi, p⟩;obtain ⟨q, hz⟩ := hl i ys H hi p;by_cases hlt : i < xs.length
 · refine .inr ⟨⟨xs, xs[i], q, by simp [hlt]⟩, hz, Pv (i + 1), fun ys' H' p' => ⟨xs.length - (i + 1), by omega, rfl, hlt, p'⟩, fun x H' y => ?_⟩;obtain ⟨p', y', rfl, hn, rfl, hy⟩ := y;exact hs i y' ys H p' (hy xs q) p hn
 · have e : i = xs.length := by omega
   subst e;exact .inl ⟨⟨xs, q, a9 _⟩, hz, hd ys H p⟩
end
section
variable {X : Cx}
end
end L2
namespace My
open PySem PySem.Spec PyProof.Rows L2
variable {ln lp : Addr} {H H' : Hp} {b beh bx h i j n p : Int} {σ : L2.St} {ns ps xs : List Int} {ss ts us : List T} {r : List V} {k : Nat} {P : Program} {K : PySem.W.Frag} {w x : Str} {mg : Str → Option Value} {y : T} {v : V}
abbrev vw : Stmt := top 23
abbrev j5 : Stmt := top 24
theorem if0 {A B : Hp → Prop} (h : A H) : zlk σ H (fun b H3 => if b = true then A H3 else B H3) := by
 show if true = true then A H else B H
 exact xi h
noncomputable def zhk (ts : List T) (b : Int) : Bool := (List.range ts.length).all fun i => mLD (ts.getD i .non) b ((ts.length : Int) - (i : Int) - 1)
noncomputable def zow (t : T) (b : Int) : Bool := match t with | .tup ts => zhk ts b | _ => false
noncomputable def mLS (t : T) (b : Int) : Bool := v5 t 0 30 && zow t b
noncomputable def zmc (t : T) (b : Int) : Bool := match t with | .tup ss => ss.all fun s => mLS s b | _ => false
noncomputable def bOf : T → Int | .int i => i | _ => 0
noncomputable def Xi (t : T) : Bool := match t with | .tup [b, s] => yr b 0 6 && (v5 s 1 4 && zmc s (bOf b)) | _ => false
noncomputable def Ws (t : T) : Prop := ∀ ts, t = .tup ts → ∀ d ∈ ts, Wd d
noncomputable def Wss (t : T) : Prop := ∀ ts, t = .tup ts → ∀ d ∈ ts, Ws d
noncomputable def Wh (t : T) : Prop := ∀ ts, t = .tup ts → ∀ d ∈ ts, Wss d
noncomputable def zn2 : Sp := fun vs H Q _ => ∃ t v b, vs = [v, .int b] ∧ Is H t v ∧ Ws t ∧ ∀ H', Same H H' → Q (.bl (mLS t b)) H'
theorem zpn {t : T} (h : v5 t 2 2 = true) : ∃ x y, t = .tup [x, y] := by
 cases t with
 | tup ts =>
   have h : (decide ((2 : Int) ≤ (ts.length : Int)) && decide ((ts.length : Int) ≤ 2)) = true := h;simp only [bc, decide_eq_true_eq] at h;have : ts.length = 2 := by omega
   match ts, this with
   | [x, y], _ => exact ⟨x, y, rfl⟩
 | _ => cases h
theorem tup2' {x : T} : v5 (.tup [x, y]) 2 2 = true := by simp [v5]
noncomputable def zeo (K : PySem.W.Frag) : List V → Hp → VK → Prop := fun xs H Q => ∃ p ys, xs = [.ref p] ∧ (SqL K H p ys ∨ SqT K H p ys) ∧ Q (.int ys.length) H
section
variable {w : World} {base : Heap}
theorem zbt : FnScope ["thing", "boxes"] ["thing", "boxes"] (zj vw) := ⟨rfl, rfl, rfl, by decide +kernel, rfl, by decide +kernel, by decide +kernel⟩
theorem Xx (D : Def K mg "is_loose_script" vw) (T : Txt K mg) (o1 : Ok P w K mg base "is_tuple_within" 1 ["thing", "least", "most"] zf9) (o2 : Ok P w K mg base "is_loose_deed" 3 ["thing", "boxes", "many_behind"] zn3) :
  Ok P w K mg base "is_loose_script" 4 ["thing", "boxes"] zn2 := by
 refine xx D zbt (fun _ _ _ _ _ _ us hl => (match us, hl with | [_, _], _ => rfl)) (fun vs H Q E ⟨t, v, b, e, _⟩ => by rw [e]; rfl) fun f cdv A outer s H vs Q E hr h => ?_;obtain ⟨t, v, b, rfl, ht, hW, k⟩ := h;have r1 := hr.mono (show 1 ≤ 3 by decide);have ndc : (["place", "deed", "boxes", "thing"] : List Str).Nodup := by decide +kernel
 refine ⟨_, ze (yc (yu (yh (zx o1 r1 (zc (pv 0) (zc zh (zc (yx T.MOST_DEEDS) zd)))))) (zi (zp xj)) zr)
  (zi (zp (zn (wg rfl) rfl T.all qc (zc (wc (own := ["place", "deed"]) (cap := [1, 0]) (g := zh6 K 2 (Yt (wz 0) (Yt (wz 1) zh7))) rfl (yg (zj vw) rfl rfl (by decide +kernel) (by decide +kernel) (by decide +kernel) ⟨⟨_, rfl, .inl rfl, xr rfl⟩, ⟨_, rfl, .inl rfl, xr rfl⟩, trivial⟩) (zdi rfl T.enumerate (zc (pv 0) zd))
   (fun _ _ _ _ => qo rfl (yl (zu (i := 0) ndc rfl (Or.inl rfl)) (yl (zu (i := 1) ndc rfl (Or.inl rfl)) vc))) (fun _ _ _ _ => yq)
   (fun _ _ _ _ => zx o2 hr (zc (pv 1) (zc (pv 2) (zc (yb jm (yb jm (zn (r := zeo K) zq (by rfl) T.len yd (zc (pv 3) zd)) (pv 0)) zh) zd))))) zd)))), ?_⟩
 refine ⟨_, rfl, t, v, 0, 30, rfl, ht, fun H1 s1 => ⟨_, rfl, ?_⟩⟩;have kk : ∀ H', Same H H' → Q (.bl (v5 t 0 30 && zow t b)) H' := k;cases c : v5 t 0 30 with
 | false =>
   rw [c] at kk;exact xi (kk H1 s1)
 | true =>
   rw [c, bi] at kk;refine ye ?_;cases t with
   | tup ts =>
     have hlen : ts.length ≤ 30 := by
      have c : (decide ((0 : Int) ≤ (ts.length : Int)) && decide ((ts.length : Int) ≤ 30)) = true := c;simp only [bc, decide_eq_true_eq] at c;omega
     obtain ⟨a, xs, rfl, ha, hl⟩ := ht.mono s1;have hxl := hl.length;refine ⟨_, rfl, a, xs, rfl, SqT.of ha, ?_⟩;refine zj6 (xs := xs) (fun i ys H' => Same H1 H' ∧ ys = (List.range i).map fun j => V.bl (mLD (ts.getD j .non) b ((ts.length : Int) - (j : Int) - 1))) ⟨Same.refl H1, rfl⟩ (fun i ys H' hi ⟨s2, e⟩ => ⟨SqT.of (s2 _ _ ha), by rw [e, a7, cq]; exact zy (by omega)⟩) ?_ ?_
     · rintro i x ys H' p hx ⟨s2, rfl⟩ hp;obtain ⟨d, hd, hxd⟩ := hl.get' hx;have s3 := Same.new hp (.tup [.int (i : Int), x]);have hp3 : upd H' p (.tup [.int (i : Int), x]) p = some (.tup [.int (i : Int), x]) := zf;generalize upd H' p (.tup [.int (i : Int), x]) = H3 at s3 hp3 ⊢;refine ⟨p, _, rfl, SqT.of hp3, rfl, _, _, rfl, _, _, rfl, rfl, ?_⟩;refine if0 ?_;have eg : ts.getD i .non = d := by rw [aq, hd]; rfl
       refine ⟨_, rfl, _, rfl, _, rfl, a, xs, rfl, .inr (SqT.of (s3 _ _ (s2 _ _ ha))), _, rfl, _, _, rfl, rfl, _, _, rfl, rfl, d, x, b, _, rfl, hxd.mono (s2.trans s3), hW ts rfl d (bj hd), fun H4 s4 => ⟨s2.trans (s3.trans s4), ?_⟩⟩;rw [List.range_succ, al, List.map_singleton, eg, hxl]
     · rintro ys H' ⟨s2, rfl⟩ p hp;refine ⟨p, (List.range ts.length).map fun j => mLD (ts.getD j .non) b ((ts.length : Int) - (j : Int) - 1), rfl, SqL.of ?_, ?_⟩
       · rw [zf, cv, hxl];rfl
       · have e : ((List.range ts.length).map fun j => mLD (ts.getD j .non) b ((ts.length : Int) - (j : Int) - 1)).all id = zhk ts b := by rw [List.all_map]; rfl
         rw [e];exact kk _ (s1.trans (s2.trans (Same.new hp _)))
   | _ => cases c
theorem zbv : FnScope ["thing"] ["thing"] (zj j5) := ⟨rfl, rfl, rfl, by decide +kernel, rfl, by decide +kernel, by decide +kernel⟩
theorem zaj (D : Def K mg "is_loose" j5) (T : Txt K mg) (o1 : Ok P w K mg base "is_tuple_within" 1 ["thing", "least", "most"] zf9) (o2 : Ok P w K mg base "is_within" 2 ["thing", "least", "most"] zei)
  (o3 : Ok P w K mg base "is_loose_script" 4 ["thing", "boxes"] zn2) : Ok P w K mg base "is_loose" 5 ["thing"] (Kq Wh Xi) := by
 refine xx D zbv (fun _ _ _ _ _ _ us hl => (match us, hl with | [_], _ => rfl)) (fun vs H Q E ⟨t, v, e, _⟩ => by rw [e]; rfl) fun f cdv A outer s H vs Q E hr h => ?_;obtain ⟨t, v, rfl, ht, hW, k⟩ := h;have r1 := hr.mono (show 1 ≤ 4 by decide);have r2 := hr.mono (show 2 ≤ 4 by decide);refine ⟨_, ze (yc (PW.pt (wj (yu (yh (zx o1 r1 (zc (pv 0) (zc zh (zc zh zd)))))) (wf (yu (yh (zx o2 r2 (zc (zo zl (pv 0) (yx T.BOXES) (fun _ _ => rfl)) (zc zh (zc (yx T.MOST_BOXES) zd)))))))))
   (zi (zp xj)) zr)
  (ze (yc (yu (yh (zx o1 r1 (zc (zo zl (pv 0) (yx T.SCRIPTS) (fun _ _ => rfl)) (zc zh (zc (yx T.MOST_SCRIPTS) zd)))))) (zi (zp xj)) zr)
  (zi (zp (zn (wg rfl) rfl T.all qc (zc (wc (own := ["script"]) (cap := [0]) rfl (yg (zj j5) rfl rfl (by decide +kernel) (by decide +kernel) (by decide +kernel) ⟨⟨_, rfl, .inl rfl, xr rfl⟩, trivial⟩) (qm (zo zl (pv 0) (yx T.SCRIPTS) (fun _ _ => rfl)))
   (fun _ _ _ _ => zu (i := 0) (by show (["script", "thing"] : List Str).Nodup; decide +kernel) rfl (Or.inl rfl)) (fun _ _ _ _ => yq)
   (fun _ _ _ _ => zx o3 hr (zc (pv 0) (zc (zo (r := Vw K) zl (pv 1) (yx T.BOXES) (fun _ _ => rfl)) zd)))) zd))))), ?_⟩
 refine ⟨_, rfl, t, v, 2, 2, rfl, ht, fun H1 s1 => ⟨_, rfl, ?_⟩⟩;cases c : v5 t 2 2 with
 | false =>
   refine xi (xi ?_);have e : Xi t = false := by
    unfold Xi;split
    · rw [tup2'] at c; cases c
    · rfl
   have kk := k H1 s1;rw [e] at kk;exact kk
 | true =>
   obtain ⟨x, y, rfl⟩ := zpn c;refine ye ?_;obtain ⟨a, xs, u0, rfl, sq, e0, i0⟩ := Is.at (K := K) (i := 0) (t := x) (ht.mono s1) rfl;refine ⟨_, rfl, a, xs, _, _, rfl, rfl, sq, e0, x, u0, 0, 6, rfl, i0, fun H2 s2 => ⟨_, rfl, ?_⟩⟩;have kk : ∀ H', Same H H' → Q (.bl (yr x 0 6 && (v5 y 1 4 && zmc y (bOf x)))) H' := k;cases c1 : yr x 0 6 with
   | false =>
     rw [c1] at kk;exact xi (kk H2 (s1.trans s2))
   | true =>
     rw [c1, bi] at kk;refine ye ?_;obtain ⟨a', xs', u1, e', sq', e1, i1⟩ := Is.at (K := K) (i := 1) (t := y) (ht.mono (s1.trans s2)) rfl;cases e';refine ⟨_, rfl, a, xs', _, _, rfl, rfl, sq', e1, y, u1, 1, 4, rfl, i1, fun H3 s3 => ⟨_, rfl, ?_⟩⟩;have s13 := s1.trans (s2.trans s3);cases c2 : v5 y 1 4 with
     | false =>
       rw [c2] at kk;exact xi (kk H3 s13)
     | true =>
       rw [c2, bi] at kk;refine ye ?_;obtain ⟨b, rfl⟩ : ∃ b, x = .int b := by
        cases x with
        | int b => exact ⟨b, rfl⟩
        | _ => cases c1
       obtain ⟨ss, rfl⟩ : ∃ ss, y = .tup ss := by
        cases y with
        | tup ss => exact ⟨ss, rfl⟩
        | _ => cases c2
       have hlen : ss.length ≤ 4 := by
        have c : (decide ((1 : Int) ≤ (ss.length : Int)) && decide ((ss.length : Int) ≤ 4)) = true := c2;simp only [bc, decide_eq_true_eq] at c;omega
       obtain ⟨a', xs3, u3, e', sq3, e3, i3⟩ := Is.at (K := K) (i := 1) (t := .tup ss) (ht.mono s13) rfl;cases e';obtain ⟨as, zs, rfl, has, hzs⟩ := i3;have hzl := hzs.length;refine ⟨_, rfl, a, xs3, _, _, rfl, rfl, sq3, e3, as, rfl, ⟨zs, SqT.of has⟩, ?_⟩;refine qp (xs := zs) (fun i ys H' => Same H3 H' ∧ ys = (ss.take i).map fun d => V.bl (mLS d b)) ⟨Same.refl H3, rfl⟩ (fun i ys H' hi ⟨s4, e⟩ => ⟨SqT.of (s4 _ _ has), by rw [e, a7, cx]; exact zy (by omega)⟩) ?_ ?_
       · rintro i z ys H' hx ⟨s4, rfl⟩;refine qz ?_;obtain ⟨d, hd, hxd⟩ := hzs.get' hx;obtain ⟨a', xs5, u5, e', sq5, e5, i5⟩ := Is.at (K := K) (i := 0) (t := .int b) (ht.mono (s13.trans s4)) rfl;cases e';cases (show u5 = .int b from i5);refine ⟨_, rfl, _, rfl, a, xs5, _, _, rfl, rfl, sq5, e5, d, z, b, rfl, hxd.mono s4, hW _ rfl (.tup ss) (by simp) ss rfl d (bj hd), fun H6 s6 => ⟨s4.trans s6, ?_⟩⟩;rw [c5, hd, al];rfl
       · rintro ys H' ⟨s4, rfl⟩ p hp;refine ⟨p, ss.map fun d => mLS d b, rfl, SqL.of ?_, ?_⟩
         · rw [zf, cv, hzl, c8];rfl
         · have e : (ss.map fun d => mLS d b).all id = zmc (.tup ss) (bOf (.int b)) := by rw [List.all_map]; rfl
           rw [e];exact kk _ (s13.trans (s4.trans (Same.new hp _)))
abbrev Jn : Stmt := top 57
abbrev k9 : Stmt := top 58
noncomputable def Yf : T → Option Str
 | .tup [_, .str x] => some x
 | _ => none
noncomputable def skM : T → Nat
 | .tup [_, _, _, .int m] => m.toNat
 | _ => 0
noncomputable def zo0 : T → Bool
 | .str x => (PyData.str x).canLay0
 | .int _ => true
 | _ => false
theorem zax (h : ts.all zo0 = true) : (toD (.tup ts)).canLay0 = true := by
 have e : ∀ us : List T, (∀ t ∈ us, zo0 t = true) → PyData.canLayAll0 (w5 us) = true := by
  intro us;induction us with
  | nil => intro _; unfold w5; rfl
  | cons t us ih =>
    intro h;unfold w5;simp only [PyData.canLayAll0, bc];refine ⟨?_, ih fun u hu => h u (bn _ hu)⟩;have ht := h t be;cases t with
    | str x => unfold toD; exact ht
    | int i => unfold toD; rfl
    | _ => cases ht
 unfold toD PyData.canLay0;exact e ts (cz.mp h)
structure Gd (bx beh : Int) (t : T) : Prop where
 fro : Fro t
 wd : Wd t
 ok : ∀ bx' beh', bx ≤ bx' → beh ≤ beh' → mLD t bx' beh' = true
 lay : (toD t).canLay0 = true
 sk : (skM t : Int) ≤ beh
theorem Gd.mono {b1 b2 : Int} {t : T} (g : Gd bx b1 t) (h : b1 ≤ b2) : Gd bx b2 t := ⟨g.fro, g.wd, fun bx' beh' h1 h2 => g.ok bx' beh' h1 (by omega), g.lay, by have := g.sk; omega⟩
noncomputable def Gds (bx : Int) (ts : List T) : Prop := ∀ (i : Nat) t, ts[i]? = some t → Gd bx ((ts.length : Int) - (i : Int) - 1) t
theorem Gds.nil : Gds bx [] := fun i t e => by simp at e
theorem Gds.append (g : Gds bx ts) (h : Gds bx us) : Gds bx (ts ++ us) := fun i t e => by
 rw [ba];by_cases hi : i < ts.length
 · rw [dh hi] at e;exact (g i t e).mono (by omega)
 · rw [List.getElem?_append_right (by omega)] at e;exact (h _ t e).mono (by omega)
theorem Gds.one {t : T} (g : Gd bx 0 t) : Gds bx [t] := fun i u e => by
 cases i with
 | zero =>
   have e : t = u := by simpa using e
   rw [← e];exact g.mono (by simp)
 | succ i => simp at e
theorem Gds.fro {bx : Int} {ts : List T} (g : Gds bx ts) : wx ts := wx.all.mpr fun t ht => by
 obtain ⟨i, hi, rfl⟩ := List.getElem_of_mem ht;exact (g i _ (ah hi)).fro
theorem xo {lo hi : Int} (h1 : lo ≤ i) (h2 : i ≤ hi) : yr (.int i) lo hi = true := by
 show (decide (lo ≤ i) && decide (i ≤ hi)) = true;rw [ai h1, ai h2]; rfl
theorem We : Wl (.int i) := fun x e => by cases e
theorem ki (h : x.length ≤ 1000) : Wl (.str x) := fun y e => by cases e; exact zy h
theorem zfz (h : ∀ u ∈ ts, Wl u) : Wd (.tup ts) := fun us e => by cases e; exact h
theorem wd3 (h : x.length ≤ 1000) : Wd (.tup [.str x, .int i, .int j]) := zfz fun u hu => by
 simp only [aa, aj, or_false] at hu;rcases hu with rfl | rfl | rfl
 · exact ki h
 · exact We
 · exact We
theorem wd4 {k : Int} (h : x.length ≤ 1000) : Wd (.tup [.str x, .int i, .int j, .int k]) := zfz fun u hu => by
 simp only [aa, aj, or_false] at hu;rcases hu with rfl | rfl | rfl | rfl
 · exact ki h
 · exact We
 · exact We
 · exact We
theorem zmd {x : T} : mLD (.tup [.str "put", x, y]) bx beh = (yr x 0 (bx - 1) && (yr y 0 9 && true)) := by kernel_rfl
theorem zj4 {x : T} : mLD (.tup [.str "same", x, y]) bx beh = (yr x 0 (bx - 1) && (yr y 0 9 && true)) := by kernel_rfl
theorem zhs {x : T} : mLD (.tup [.str "raise", x, y]) bx beh = (yr x 0 (bx - 1) && (yr y 0 9 && gt0 y)) := by kernel_rfl
theorem zj3 {x z : T} : mLD (.tup [.str "skip", x, y, z]) bx beh = (yr x 0 (bx - 1) && (yr y 0 9 && yr z 1 beh)) := by kernel_rfl
theorem zpc (b0 : 0 ≤ b) (b1 : b < bx) (n0 : 0 ≤ n) (n1 : n ≤ 9) : Gd bx 0 (.tup [.str "put", .int b, .int n]) :=
 ⟨⟨trivial, trivial, trivial, trivial⟩, wd3 (by decide), fun bx' beh' h1 _ => by rw [zmd, xo b0 (by omega), xo n0 n1]; rfl, zax (by kernel_rfl), bz 0⟩
theorem zh5 (b0 : 0 ≤ b) (b1 : b < bx) (n0 : 0 ≤ n) (n1 : n ≤ 9) : Gd bx 0 (.tup [.str "same", .int b, .int n]) :=
 ⟨⟨trivial, trivial, trivial, trivial⟩, wd3 (by decide), fun bx' beh' h1 _ => by rw [zj4, xo b0 (by omega), xo n0 n1]; rfl, zax (by kernel_rfl), bz 0⟩
theorem zkh (b0 : 0 ≤ b) (b1 : b < bx) (n0 : 1 ≤ n) (n1 : n ≤ 9) : Gd bx 0 (.tup [.str "raise", .int b, .int n]) :=
 ⟨⟨trivial, trivial, trivial, trivial⟩, wd3 (by decide), fun bx' beh' h1 _ => by rw [zhs, xo b0 (by omega), xo (by omega) n1, show gt0 (.int n) = true from ai (by omega)]; rfl, zax (by kernel_rfl), bz 0⟩
theorem zmp {m : Int} (b0 : 0 ≤ b) (b1 : b < bx) (n0 : 0 ≤ n) (n1 : n ≤ 9) (m0 : 1 ≤ m) (m1 : m ≤ beh) : Gd bx beh (.tup [.str "skip", .int b, .int n, .int m]) :=
 ⟨⟨trivial, trivial, trivial, trivial, trivial⟩, wd4 (by decide), fun bx' beh' h1 h2 => by rw [zj3, xo b0 (by omega), xo n0 n1, xo m0 (by omega)]; rfl, zax (by kernel_rfl), by show ((m.toNat : Nat) : Int) ≤ beh; omega⟩
noncomputable def zn9 (K : PySem.W.Frag) : Sp := fun vs H Q _ => ∃ (a s : Addr) (ns : List Int) (bx beh : Int), vs = [.ref a, .int bx, .int beh] ∧ Tape K H a s ns ∧ 1 ≤ bx ∧ bx ≤ 6 ∧ 0 ≤ beh ∧ beh ≤ 1000 ∧ ∀ t v H', Gd bx beh t → Yf t = none → But a H H' → Tape K H' a s ns → Is H' t v → Q v H'
noncomputable def znt (K : PySem.W.Frag) : Sp := fun vs H Q _ => ∃ (a s : Addr) (ns : List Int) (bx many : Int), vs = [.ref a, .int bx, .int many] ∧ Tape K H a s ns ∧ 0 ≤ bx ∧ bx ≤ 6 ∧ -1000 ≤ many ∧ many ≤ 1000 ∧ ∀ l xs ts H', H' l = some (.lst xs) → IsL H' ts xs → Gds bx ts → (∀ t ∈ ts, Yf t = none) → ts.length ≤ many.toNat → But a H H' → Tape K H' a s ns → Q (.ref l) H'
theorem zp7 {d : Int} (hd : 1 ≤ d ∧ d ≤ 9) (h0 : 0 ≤ j) (h1 : j < 4) : ∃ m : Int, atI ([.int 1, .int 1, .int 2, .int d] : List V) j = some (.int m) ∧ 1 ≤ m ∧ m ≤ 9 := by
 have : j = 0 ∨ j = 1 ∨ j = 2 ∨ j = 3 := by omega
 rcases this with rfl | rfl | rfl | rfl
 · exact ⟨1, rfl, by decide, by decide⟩
 · exact ⟨1, rfl, by decide, by decide⟩
 · exact ⟨2, rfl, by decide, by decide⟩
 · exact ⟨d, rfl, hd.1, hd.2⟩
theorem K0 : FnScope ["deck", "boxes", "behind_it", "box", "number", "way"] ["deck", "boxes", "behind_it"] (zj Jn) := ⟨rfl, rfl, rfl, by decide +kernel, rfl, by decide +kernel, by decide +kernel⟩
theorem zha (D : Def K mg "_law_e_deed" Jn) (T : Txt K mg) (o1 : Ok P w K mg base "_law_e_pick" 2 ["deck", "many"] (zi7 K)) : Ok P w K mg base "_law_e_deed" 3 ["deck", "boxes", "behind_it"] (zn9 K) := by
 refine xx D K0 (fun _ _ _ _ _ _ us hl => (match us, hl with | [_, _, _], _ => rfl)) (fun vs H Q E ⟨_, _, _, _, _, e, _⟩ => by rw [e]; rfl) fun f cdv A outer sh H vs Q E hr h => ?_;obtain ⟨a, s, ns, bx, beh, rfl, hT, hb1, hb6, hh0, hh1, k⟩ := h;have nd := K0.nd;refine ⟨_, ze (ya (i := 3) nd rfl (Or.inl rfl) (zx o1 hr (zc (pv 0) (zc (pv 1) zd))))
  (ze (ya (i := 4) nd rfl (Or.inl rfl) (zo yn (jl (zc (zx o1 hr (zc (pv 0) (zc zh zd))) (zc (zx o1 hr (zc (pv 0) (zc zh zd))) zd))) (yp zfq rfl T.int Kg (zc (xg wa (zx o1 hr (zc (pv 0) (zc zh zd))) zh (zt _)) zd)) (fun _ _ => rfl)))
  (ze (ya (i := 5) nd rfl (Or.inl rfl) (zx o1 hr (zc (pv 0) (zc zh zd))))
  (ze (yc (zw wa (pv 5) zh (zt _)) (zi (zp (w6 (zc yi (zc (pv 3) (zc (pv 4) zd)))))) zr)
  (ze (yc (zw Yn (pv 5) zh (zt _)) (zi (zp (w6 (zc yi (zc (pv 3) (zc (zo yn (jl (zc zh (zc zh (zc zh (zc (yb xt zh (zx o1 hr (zc (pv 0) (zc zh zd)))) zd))))) (zx o1 hr (zc (pv 0) (zc zh zd))) (fun _ _ => rfl)) zd)))))) zr)
  (ze (yc (PW.pt (wj (zw Yn (pv 5) zh (zt _)) (wf (zw wa (pv 2) zh (zt _))))) (zi (zp (w6 (zc yi (zc (pv 3) (zc (pv 4) zd)))))) zr)
  (zi (zp (w6 (zc yi (zc (pv 3) (zc (pv 4) (zc (yb xt zh (zx o1 hr (zc (pv 0) (zc (pv 2) zd)))) zd)))))))))))), ?_⟩
 refine ⟨_, rfl, _, rfl, a, s, ns, bx, rfl, hT, by omega, by omega, fun b H1 b0 b1 q1 t1 => ?_⟩;refine ⟨_, rfl, a, s, ns, 4, rfl, t1, by decide, by decide, fun n1 H2 x2 y2 q2 t2 => ?_⟩;refine ⟨_, rfl, a, s, ns, 10, rfl, t2, by decide, by decide, fun n2 H3 x3 y3 q3 t3 => ?_⟩;refine ⟨(by show 2 ≤ sizeLine; decide), fun l hl => ?_⟩;have s4 := Same.new hl (.lst [.int n1, .int n2]);have hl4 : upd H3 l (.lst [.int n1, .int n2]) l = some (.lst [.int n1, .int n2]) := zf;generalize upd H3 l (.lst [.int n1, .int n2]) = H4 at s4 hl4 ⊢;have hla : l ≠ a := by
  obtain ⟨_, _, ha3, _, _⟩ := t3.at';exact fun z => by rw [z, ha3] at hl; cases hl
 refine ⟨_, rfl, a, s, ns, 4, rfl, t3.same s4, by decide, by decide, fun d5 H5 x5 y5 q5 t5 => ⟨rfl, ?_⟩⟩;refine .inr ⟨_, rfl, ?_⟩;have hl5 := q5 _ _ hla hl4;have b05 : But a H H5 := q1.trans (q2.trans (q3.trans (s4.but.trans q5)));obtain ⟨n, hat, n0, n9⟩ : ∃ n : Int, atI ([.int n1, .int n2] : List V) (if decide (V.int d5 = V.int 0) = true then (1 : Int) else 0) = some (.int n) ∧ 0 ≤ n ∧ n ≤ 9 := by
  cases decide (V.int d5 = V.int 0) with
  | true => exact ⟨n2, rfl, by omega, by omega⟩
  | false => exact ⟨n1, rfl, by omega, by omega⟩
 refine ⟨l, _, _, _, rfl, rfl, SqL.of hl5, hat, ?_⟩;refine ⟨_, rfl, a, s, ns, 6, rfl, t5, by decide, by decide, fun way H6 x6 y6 q6 t6 => ?_⟩;have b06 := b05.trans q6;have fin3 : ∀ (H' : Hp) (w : Str) (m : Int), But a H H' → Tape K H' a s ns → Gd bx beh (.tup [.str w, .int b, .int m]) → ∀ p, H' p = none → Q (.ref p) (upd H' p (.tup [.str w, .int b, .int m])) := fun H' w m bb tt g p hp => by
  have sp := Same.new hp (.tup [.str w, .int b, .int m]);exact k _ _ _ g rfl (bb.trans sp.but) (tt.same sp) (Is.newTup hp (IsL.three rfl rfl rfl))
 refine ⟨_, rfl, rfl, _, rfl, ?_⟩;refine y0 (fun _ => ?_) (fun _ => ?_)
 · exact ⟨_, rfl, _, rfl, (by show 3 ≤ sizeLine; decide), fin3 _ "put" n b06 t6 ((zpc b0 b1 n0 n9).mono hh0)⟩
 refine ⟨_, rfl, _, _, rfl, rfl, _, rfl, ?_⟩;refine y0 (fun _ => ?_) (fun _ => ?_)
 · refine ⟨_, rfl, _, rfl, a, s, ns, 9, rfl, t6, by decide, by decide, fun d7 H7 x7 y7 q7 t7 => ⟨1, d7, rfl, rfl, ?_⟩⟩;refine ⟨(by show 4 ≤ sizeLine; decide), fun l7 hl7 => ?_⟩;have s8 := Same.new hl7 (.lst [.int 1, .int 1, .int 2, .int (1 + d7)]);have hl8 : upd H7 l7 (.lst [.int 1, .int 1, .int 2, .int (1 + d7)]) l7 = some (.lst [.int 1, .int 1, .int 2, .int (1 + d7)]) := zf;generalize upd H7 l7 (.lst [.int 1, .int 1, .int 2, .int (1 + d7)]) = H8 at s8 hl8 ⊢;have hla7 : l7 ≠ a := by
    obtain ⟨_, _, ha3, _, _⟩ := t7.at';exact fun z => by rw [z, ha3] at hl7; cases hl7
   refine ⟨_, rfl, a, s, ns, 4, rfl, t7.same s8, by decide, by decide, fun d9 H9 x9 y9 q9 t9 => ?_⟩;obtain ⟨m, hm, m0, m9⟩ := zp7 (d := 1 + d7) ⟨by omega, by omega⟩ x9 y9;refine ⟨l7, _, _, _, rfl, rfl, SqL.of (q9 _ _ hla7 hl8), hm, (by show 3 ≤ sizeLine; decide), fin3 _ "raise" m (b06.trans (q7.trans (s8.but.trans q9))) t9 ((zkh b0 b1 m0 m9).mono hh0)⟩
 refine ⟨_, rfl, _, _, rfl, rfl, _, rfl, ?_⟩;refine y0 (fun _ => ?_) (fun _ => ?_)
 · exact xi ⟨_, rfl, _, rfl, (by show 3 ≤ sizeLine; decide), fin3 _ "same" n b06 t6 ((zh5 b0 b1 n0 n9).mono hh0)⟩
 refine ⟨_, rfl, rfl, _, rfl, ?_⟩;refine y0 (fun _ => ?_) (fun c => ?_)
 · exact ⟨_, rfl, _, rfl, (by show 3 ≤ sizeLine; decide), fin3 _ "same" n b06 t6 ((zh5 b0 b1 n0 n9).mono hh0)⟩
 have hbe : 0 < beh := by
  have : beh ≠ 0 := fun z => c (by rw [z]; exact ai rfl);omega
 refine ⟨_, rfl, _, rfl, _, rfl, _, rfl, a, s, ns, beh, rfl, t6, hbe, by omega, fun m H7 m0 m1 q7 t7 => ⟨1, m, rfl, rfl, (by show 4 ≤ sizeLine; decide), fun p hp => ?_⟩⟩;have sp := Same.new hp (.tup [.str "skip", .int b, .int n, .int (1 + m)]);exact k _ _ _ (zmp b0 b1 n0 n9 (by omega) (by omega)) rfl ((b06.trans q7).trans sp.but) (t7.same sp) (Is.newTup hp ⟨_, _, rfl, rfl, IsL.three rfl rfl rfl⟩)
theorem zbr : FnScope ["deck", "boxes", "many"] ["deck", "boxes", "many"] (zj k9) := ⟨rfl, rfl, rfl, by decide +kernel, rfl, by decide +kernel, by decide +kernel⟩
theorem zb6 (D : Def K mg "_law_e_stretch" k9) (T : Txt K mg) (o1 : Ok P w K mg base "_law_e_deed" 3 ["deck", "boxes", "behind_it"] (zn9 K)) : Ok P w K mg base "_law_e_stretch" 4 ["deck", "boxes", "many"] (znt K) := by
 refine xx D zbr (fun _ _ _ _ _ _ us hl => (match us, hl with | [_, _, _], _ => rfl)) (fun vs H Q E ⟨_, _, _, _, _, e, _⟩ => by rw [e]; rfl) fun f cdv A outer sh H vs Q E hr h => ?_;obtain ⟨a, s, ns, bx, many, rfl, hT, hb0, hb6, hm0, hm1, k⟩ := h;refine ⟨_, ze (yc (zw wa (pv 1) zh (zt _)) (zi (zp (jl zd))) zr)
  (zi (zp (wc (own := ["at"]) (cap := [0, 1, 2]) rfl (yg (zj k9) rfl rfl (by decide +kernel) (by decide +kernel) (by decide +kernel) ⟨⟨_, rfl, .inl rfl, xr rfl⟩, ⟨_, rfl, .inl rfl, xr rfl⟩, ⟨_, rfl, .inl rfl, xr rfl⟩, trivial⟩)
   (xu rfl T.range (zc (pv 2) zd))
   (fun _ _ _ _ => zu (i := 0) (by show (["at", "deck", "boxes", "many"] : List Str).Nodup; decide +kernel) rfl (Or.inl rfl)) (fun _ _ _ _ => yq)
   (fun _ _ _ _ => zx o1 hr (zc (pv 1) (zc (pv 2) (zc (yb jm (yb jm (pv 3) (pv 0)) zh) zd))))))), ?_⟩
 refine ⟨_, rfl, rfl, _, rfl, ?_⟩;refine y0 (fun _ => ?_) (fun c => ?_)
 · refine ⟨(by show 0 ≤ sizeLine; decide), fun l hl => ?_⟩;have sl := Same.new hl (.lst []);exact k l [] [] _ zf rfl Gds.nil (fun t h => by cases h) (bo _) sl.but (hT.same sl)
 have hbx : 1 ≤ bx := by
  have : bx ≠ 0 := fun z => c (by rw [z]; exact ai rfl);omega
 refine ⟨_, rfl, many, rfl, by omega, by omega, ?_⟩;refine je (lo := 0) (n := many.toNat) (fun j ys H' => ∃ ts : List L2.T, IsL H' ts ys ∧ ts.length = j ∧ (∀ (i : Nat) t, ts[i]? = some t → Gd bx (many - (i : Int) - 1) t) ∧ (∀ t ∈ ts, Yf t = none) ∧ But a H H' ∧ zkw H' a s) ⟨[], rfl, rfl, (fun i t e => by simp at e), (fun t h => by cases h), But.refl a H, hT.at'⟩
  (fun j ys H' hj ⟨ts, h1, h2, _⟩ => by rw [h1.length]; exact zy (by omega)) ?_ ?_
 · rintro j ys H1 hj ⟨ts, h1, h2, h3, hns, h4, h5⟩;refine qz ?_;have t1 := hT.at2 h4 h5;refine ⟨_, rfl, _, rfl, _, rfl, _, rfl, _, _, rfl, rfl, _, _, rfl, rfl, a, s, ns, bx, _, rfl, t1, hbx, hb6, by omega, by omega, fun t v H2 g gs b2 t2 hv => ?_⟩;have fr : wx ts := wx.all.mpr fun t ht => by
    obtain ⟨i, hi, rfl⟩ := List.getElem_of_mem ht;exact (h3 i _ (ah hi)).fro
   refine ⟨ts ++ [t], IsL.append (IsL.tups (t1.tups b2) fr h1) (IsL.one hv), by rw [ba, cm, h2], fun i u e => ?_, fun u hu => ?_, h4.trans b2, t2.at'⟩;rotate_left
   · rcases br.mp hu with z | z
     · exact hns u z
     · rw [ak.mp z]; exact gs
   by_cases hi : i < ts.length
   · rw [dh hi] at e;exact h3 i u e
   · rw [List.getElem?_append_right (by omega)] at e;have hz : i - ts.length = 0 := by
      cases hz : i - ts.length with
      | zero => rfl
      | succ z => rw [hz] at e; simp at e
     rw [hz] at e;have e : t = u := by simpa using e
     rw [← e];exact g.mono (by omega)
 · rintro ys H1 ⟨ts, h1, h2, h3, hns, h4, h5⟩ p hp;have sp := Same.new hp (.lst ys);refine k p ys ts _ zf (h1.mono sp) (fun i t e => ?_) hns (by omega) (h4.trans sp.but) ((hT.at2 h4 h5).same sp);have hi := (bh.mp e).1;exact (h3 i t e).mono (by omega)
abbrev Za : Stmt := top 59
abbrev xh : Stmt := top 60
theorem zfr : bootBuiltins "sorted" = some (.builtin "sorted") := by decide +kernel
noncomputable def xf (ts : List T) : List Str := ts.filterMap Yf
noncomputable def Nsk (ts : List T) : Prop := ∀ (i : Nat) t, ts[i]? = some t → xf ((ts.drop (i + 1)).take (skM t)) = []
theorem qt : xf (ts ++ us) = xf ts ++ xf us := List.filterMap_append ..
theorem Zq (h : ∀ t ∈ us, Yf t = none) : xf us = [] := by
 unfold xf;rw [List.filterMap_eq_nil_iff];exact h
theorem Nsk.append (g : Gds bx ts) (h : Nsk ts) (k : Nsk us) : Nsk (ts ++ us) := fun i t e => by
 by_cases hi : i < ts.length
 · rw [dh hi] at e;have hs := (g i t e).sk;rw [List.drop_append_of_le_length (by omega), List.take_append_of_le_length (by rw [List.length_drop]; omega)];exact h i t e
 · rw [List.getElem?_append_right (by omega)] at e;have e1 : (ts ++ us).drop (i + 1) = us.drop (i - ts.length + 1) := by
    rw [List.drop_append, List.drop_eq_nil_of_le (by omega), List.nil_append];congr 1; omega
   rw [e1];exact k _ t e
theorem Nsk.none {us : List T} (h : ∀ t ∈ us, Yf t = none) : Nsk us := fun i t e => Zq fun u hu => h u (List.mem_of_mem_drop (List.mem_of_mem_take hu))
theorem Nsk.nil : Nsk [] := fun i t e => by simp at e
theorem Nsk.say {x : Str} : Nsk [.tup [.str "say", .str x]] := fun i t e => by
 cases i with
 | zero =>
   have e : L2.T.tup [.str "say", .str x] = t := by simpa using e
   subst e;rfl
 | succ i => simp at e
noncomputable def cg1 (j : Nat) : Str := if j % 2 = 0 then "come" else "go"
noncomputable def cgo (i : Nat) : List Str := (List.range i).map cg1
theorem zik (i : Nat) : cgo (i + 1) = cgo i ++ [cg1 i] := by unfold cgo; rw [List.range_succ, al]; rfl
theorem zk7 (h : x = "come" ∨ x = "go") : Gd bx 0 (.tup [.str "say", .str x]) := by
 refine ⟨⟨trivial, trivial, trivial⟩, zfz fun u hu => ?_, fun bx' beh' _ _ => ?_, (by rcases h with rfl | rfl <;> exact zax (by kernel_rfl)), bz 0⟩
 · simp only [aa, aj, or_false] at hu;rcases hu with rfl | rfl
   · exact ki (by decide)
   · rcases h with rfl | rfl
     · exact ki (by decide)
     · exact ki (by decide)
 · rcases h with rfl | rfl
   · kernel_rfl
   · kernel_rfl
noncomputable def znu (K : PySem.W.Frag) : Sp := fun vs H Q _ => ∃ (a s : Addr) (ns : List Int) (bx room p : Int), vs = [.ref a, .int bx, .int room, .int p] ∧ Tape K H a s ns ∧ (0 ≤ bx ∧ bx ≤ 6) ∧ (0 ≤ room ∧ room ≤ 100) ∧ (0 ≤ p ∧ p ≤ 2) ∧ (2 * p).toNat * (room.toNat + 1) + room.toNat ≤ 30 ∧
 ∀ ts v H', Gds bx ts → xf ts = cgo (2 * p).toNat → Nsk ts → ts.length ≤ 30 → (ts.length : Int) ≤ room + 2 * p → But a H H' → Tape K H' a s ns → Is H' (.tup ts) v → Q v H'
theorem znc (i : Nat) : ∃ x : Str, atI ([.str "come", .str "go"] : List V) ((i : Int) % 2) = some (.str x) ∧ (x = "come" ∨ x = "go") ∧ x = cg1 i := by
 unfold cg1;have : i % 2 = 0 ∨ i % 2 = 1 := by omega
 rcases this with h | h
 · rw [show (i : Int) % 2 = 0 by omega, h]; exact ⟨"come", rfl, .inl rfl, rfl⟩
 · rw [show (i : Int) % 2 = 1 by omega, h]; exact ⟨"go", rfl, .inr rfl, rfl⟩
theorem Wo : FnScope ["deck", "boxes", "room", "p", "cuts", "found", "last", "turn"] ["deck", "boxes", "room", "p"] (zj Za) := ⟨rfl, rfl, rfl, by decide +kernel, rfl, by decide +kernel, by decide +kernel⟩
theorem zb9 (D : Def K mg "_law_e_script" Za) (T : Txt K mg) (o1 : Ok P w K mg base "_law_e_pick" 2 ["deck", "many"] (zi7 K)) (o2 : Ok P w K mg base "_law_e_stretch" 4 ["deck", "boxes", "many"] (znt K)) :
  Ok P w K mg base "_law_e_script" 5 ["deck", "boxes", "room", "p"] (znu K) := by
 refine xx D Wo (fun _ _ _ _ _ _ us hl => (match us, hl with | [_, _, _, _], _ => rfl)) (fun vs H Q E ⟨_, _, _, _, _, _, e, _⟩ => by rw [e]; rfl) fun f cdv A outer sh H vs Q E hr h => ?_;obtain ⟨a, s, ns, bx, room, p, rfl, hT, ⟨hb0, hb6⟩, ⟨hr0, hr1⟩, ⟨hp0, hp2⟩, hbd, k⟩ := h;have nd := Wo.nd;have r2 := hr.mono (show 2 ≤ 4 by decide);refine ⟨_, ze (ya (i := 4) nd rfl (Or.inl rfl) (zn zcx rfl T.sorted zfr (zc (wc (own := ["turn"]) (cap := [0, 2]) rfl (yg (zj Za) rfl rfl (by decide +kernel) (by decide +kernel) (by decide +kernel) ⟨⟨_, rfl, .inl rfl, xr rfl⟩, ⟨_, rfl, .inl rfl, xr rfl⟩, trivial⟩)
    (xu rfl T.range (zc (yb ve zh (pv 3)) zd))
    (fun _ _ _ _ => zu (i := 0) (by show (["turn", "deck", "room"] : List Str).Nodup; decide +kernel) rfl (Or.inl rfl)) (fun _ _ _ _ => yq)
    (fun _ _ _ _ => zx o1 r2 (zc (pv 1) (zc (yb xt (pv 2) zh) zd)))) zd)))
  (ze (ya (i := 5) nd rfl (Or.inl rfl) (jl zd))
  (ze (ya (i := 6) nd rfl (Or.inl rfl) zh)
  (ze (vy PassesOwn.never rfl (xu rfl T.range (zc (yb ve zh (pv 3)) zd)) (zu (i := 7) nd rfl (Or.inl rfl))
   (ze (ya (i := 5) nd rfl (Or.inl rfl) (yb Jq (pv 5) (zx o2 hr (zc (pv 0) (zc (pv 1) (zc (yb jm (zo yn (pv 4) (pv 7) (fun _ _ => rfl)) (pv 6)) zd))))))
   (ze (vz (Xq PySem.F.plainAttrs_list PySem.F.slot_list_append PySem.F.type_list_append jb (pv 5) (zc (w6 (zc yi (zc (zo yn (jl (zc yi (zc yi zd))) (yb jn (pv 7) zh) (fun _ _ => rfl)) zd))) zd)))
   (zi (ya (i := 6) nd rfl (Or.inl rfl) (zo yn (pv 4) (pv 7) (fun _ _ => rfl)))))))
  (zi (zp (yp xa rfl T.tuple xw (zc (yb Jq (pv 5) (zx o2 hr (zc (pv 0) (zc (pv 1) (zc (zx o1 r2 (zc (pv 0) (zc (yb xt (yb jm (pv 2) (pv 6)) zh) zd))) zd))))) zd))))))), ?_⟩
 refine ⟨_, rfl, _, _, rfl, rfl, V3 (by decide), 2 * p, rfl, by omega, by omega, ?_⟩;refine je (lo := 0) (n := (2 * p).toNat) (fun j ys H' => ∃ cs : List Int, ys = cs.map V.int ∧ cs.length = j ∧ (∀ c ∈ cs, 0 ≤ c ∧ c ≤ room) ∧ But a H H' ∧ zkw H' a s) ⟨[], rfl, rfl, (fun c hc => by cases hc), But.refl a H, hT.at'⟩
  (fun j ys H' hj ⟨cs, h1, h2, _⟩ => by rw [h1, a7]; exact zy (by omega)) ?_ ?_
 · rintro j ys H1 hj ⟨cs, rfl, h2, h3, h4, h5⟩;refine qz ?_;refine ⟨_, rfl, _, rfl, _, _, rfl, rfl, a, s, ns, room + 1, rfl, hT.at2 h4 h5, by omega, by omega, fun d H2 x2 y2 b2 t2 => ?_⟩;refine ⟨cs ++ [d], by rw [al]; rfl, by rw [ba, cm, h2], fun c hc => ?_, h4.trans b2, t2.at'⟩;rcases br.mp hc with z | z
   · exact h3 c z
   · rw [ak.mp z]; omega
 rintro ys H1 ⟨cs0, rfl, h2, h3, h4, h5⟩ p1 hp1;have t1 := hT.at2 h4 h5;have s1 := Same.new hp1 (.lst (cs0.map V.int));have hp1' : upd H1 p1 (.lst (cs0.map V.int)) p1 = some (.lst (cs0.map V.int)) := zf;generalize upd H1 p1 (.lst (cs0.map V.int)) = H2 at s1 hp1' ⊢;have t2 := t1.same s1;refine ⟨p1, cs0, rfl, SqL.of hp1', by omega, fun cs cl hperm hsrt hcl => ?_⟩;have hcs : ∀ c ∈ cs, 0 ≤ c ∧ c ≤ room := fun c hc => h3 c (hperm.mem_iff.mp hc);have hcn : cs.length = (2 * p).toNat := by rw [hperm.length_eq, h2]
 have s2 := Same.new hcl (.lst (cs.map V.int));have hcl3 : upd H2 cl (.lst (cs.map V.int)) cl = some (.lst (cs.map V.int)) := zf;generalize upd H2 cl (.lst (cs.map V.int)) = H3 at s2 hcl3 ⊢;have t3 := t2.same s2;have b3 : But a H H3 := h4.trans (s1.trans s2).but;refine ⟨(by show 0 ≤ sizeLine; decide), fun fl hfl => ?_⟩;have s3 := Same.new hfl (.lst []);have hfl4 : upd H3 fl (.lst []) fl = some (.lst []) := zf;have hcl4 := s3 _ _ hcl3;generalize upd H3 fl (.lst []) = H4 at s3 hfl4 hcl4 ⊢;have t4 := t3.same s3;have b4 : But a H H4 := b3.trans s3.but;have hcla : cl ≠ a := by
  obtain ⟨_, _, ha, _, _⟩ := t2.at';exact fun z => by rw [z, ha] at hcl; cases hcl
 have hfla : fl ≠ a := by
  obtain ⟨_, _, ha, _, _⟩ := t3.at';exact fun z => by rw [z, ha] at hfl; cases hfl
 generalize hR : room.toNat = R at hbd;refine ⟨_, rfl, _, _, rfl, rfl, V3 (by decide), 2 * p, rfl, by omega, by omega, ?_⟩;refine jc (lo := 0) (n := (2 * p).toNat) (fun i σ H' => ∃ (fl : Addr) (xs : List V) (ts : List L2.T) (last : Int) (x7 : Option V), σ = [some (.ref a), some (.int bx), some (.int room), some (.int p), some (.ref cl), some (.ref fl), some (.int last), x7] ∧ But a H H' ∧ zkw H' a s ∧ H' cl = some (.lst (cs.map V.int)) ∧ fl ≠ a ∧ H' fl = some (.lst xs) ∧ IsL H' ts xs ∧ Gds bx ts ∧ xf ts = cgo i ∧ Nsk ts ∧ ts.length ≤ i * (R + 1) ∧ 0 ≤ last ∧ last ≤ room ∧ (ts.length : Int) ≤ (i : Int) + last ∧ ∀ (j : Nat) (h : j < cs.length), i ≤ j → last ≤ cs[j])
  ⟨fl, [], [], 0, none, rfl, b4, t4.at', hcl4, hfla, hfl4, rfl, Gds.nil, rfl, Nsk.nil, bo _, bz 0, hr0, bz 0, fun j h _ => (hcs _ (List.getElem_mem h)).1⟩ ?_ ?_
 · rintro i σ H5 hi ⟨fl, xs, ts, last, x7, rfl, b5, at5, hcl5, hfa, hfl5, hx5, g5, sy5, nk5, n5, l0, l1, n6, hup⟩;have e0 : (0 : Int) + (i : Int) = (i : Int) := by omega
   rw [e0];have t5 := hT.at2 b5 at5;have hic : i < cs.length := by omega
   have hat : atI (cs.map V.int) ((i : Nat) : Int) = some (.int cs[i]) := yo (by rw [ao, ah hic]; rfl);have hci := hcs cs[i] (List.getElem_mem hic);have hui := hup i hic (a9 i);have hn1 : (i + 1) * (R + 1) = i * (R + 1) + (R + 1) := Nat.succ_mul i (R + 1);have hle : (i + 1) * (R + 1) ≤ (2 * p).toNat * (R + 1) := Nat.mul_le_mul_right (R + 1) hi;refine ⟨_, rfl, _, rfl, _, rfl, _, rfl, _, rfl, cl, _, _, _, rfl, rfl, SqL.of hcl5, hat, _, rfl, _, _, rfl, rfl, a, s, ns, bx, cs[i] - last, rfl, t5, hb0, hb6, by omega, by omega, fun l ys us H6 hl6 hu6 gu us0 nu b6 t6 => ?_⟩;have hfl6 := b6 _ _ hfa hfl5;have hcl6 := b6 _ _ hcla hcl5;have hx6 : IsL H6 ts xs := IsL.tups (t5.tups b6) g5.fro hx5;have xl := hx6.length;have ul := hu6.length;refine ⟨fl, l, xs, ys, rfl, rfl, hfl6, hl6, zy (by omega), fun p7 hp7 => ?_⟩;have s7 := Same.new hp7 (.lst (xs ++ ys));have hp7' : upd H6 p7 (.lst (xs ++ ys)) p7 = some (.lst (xs ++ ys)) := zf;generalize upd H6 p7 (.lst (xs ++ ys)) = H7 at s7 hp7' ⊢;have hxu : IsL H7 (ts ++ us) (xs ++ ys) := IsL.append (hx6.mono s7) (hu6.mono s7);refine ⟨_, rfl, .inl ⟨rfl, _, SqL.of hp7'⟩, (by show 2 ≤ sizeLine; decide), fun p8 hp8 => ?_⟩;have s8 := Same.new hp8 (.lst [.str "come", .str "go"]);have hp8' : upd H7 p8 (.lst [.str "come", .str "go"]) p8 = some (.lst [.str "come", .str "go"]) := zf;generalize upd H7 p8 (.lst [.str "come", .str "go"]) = H8 at s8 hp8' ⊢;obtain ⟨x, hx, hxw, hxe⟩ := znc i;refine ⟨_, rfl, _, _, rfl, rfl, (by show (0 : Int) < 2; decide), p8, _, _, _, rfl, rfl, SqL.of hp8', hx, (by show 2 ≤ sizeLine; decide), fun p9 hp9 => ?_⟩;have s9 := Same.new hp9 (.tup [.str "say", .str x]);have i9 : Is (upd H8 p9 (.tup [.str "say", .str x])) (.tup [.str "say", .str x]) (.ref p9) := Is.newTup hp9 (IsL.two rfl rfl);generalize upd H8 p9 (.tup [.str "say", .str x]) = H9 at s9 i9 ⊢;have s79 := s8.trans s9;have hp9' := s79 _ _ hp7';refine ⟨p7, _, _, rfl, rfl, hp9', Y6 (by rw [ba]; omega), ?_⟩;have tp : vt H9 (upd H9 p7 (.lst ((xs ++ ys) ++ [.ref p9]))) := vt.upd hp9' (fun zs z => by cases z);have fr : wx (ts ++ us) := (g5.append gu).fro;have hxx := IsL.append (IsL.tups tp fr (hxu.mono s79)) (IsL.one (Is.tups tp (zk7 (bx := bx) hxw).fro i9));have s69 := s7.trans s79;have old : ∀ c o, H6 c = some o → upd H9 p7 (.lst ((xs ++ ys) ++ [.ref p9])) c = some o := fun c o e => by
    rw [zk (zm e hp7)]; exact s69 _ _ e
   have hp7a : p7 ≠ a := by
    obtain ⟨_, _, ha, _, _⟩ := t6.at';exact fun z => by rw [z, ha] at hp7; cases hp7
   refine ⟨_, rfl, _, rfl, cl, _, _, _, rfl, rfl, SqL.of (old _ _ hcl6), hat, ?_⟩;refine ⟨p7, _, _, _, _, rfl, fun c o nc e => old _ _ (b6 c o nc (b5 c o nc e)), ?_, old _ _ hcl6, hp7a, zf, hxx, (g5.append gu).append (Gds.one (zk7 hxw)), (by rw [qt, qt, Zq us0, cw, sy5, zik, ← hxe]; rfl), Nsk.append (g5.append gu) (Nsk.append g5 nk5 (Nsk.none us0)) Nsk.say, ?_, hci.1, hci.2, ?_, fun j hj hij => (eu.mp hsrt) i j hic hj (by omega)⟩
   · obtain ⟨pp, rr, ha, q1, q2⟩ := t6.at';exact ⟨pp, rr, old _ _ ha, q1, q2⟩
   · rw [ba, ba, cm];omega
   · rw [ba, ba, cm];omega
 · rintro σ H5 ⟨fl, xs, ts, last, x7, rfl, b5, at5, hcl5, hfa, hfl5, hx5, g5, sy5, nk5, n5, l0, l1, n6, hup⟩;have t5 := hT.at2 b5 at5;refine ⟨_, rfl, _, rfl, _, rfl, _, rfl, _, rfl, _, rfl, _, _, rfl, rfl, _, _, rfl, rfl, a, s, ns, room - last + 1, rfl, t5, by omega, by omega, fun m H6 m0 m1 b6 t6 => ?_⟩;refine ⟨a, s, ns, bx, m, rfl, t6, hb0, hb6, by omega, by omega, fun l ys us H7 hl7 hu7 gu us0 nu b7 t7 => ?_⟩;have hfl7 := b7 _ _ hfa (b6 _ _ hfa hfl5);have hx7 : IsL H7 ts xs := IsL.tups (t6.tups b7) g5.fro (IsL.tups (t5.tups b6) g5.fro hx5);have xl := hx7.length;have ul := hu7.length;refine ⟨fl, l, xs, ys, rfl, rfl, hfl7, hl7, zy (by omega), fun p8 hp8 => ?_⟩;have s8 := Same.new hp8 (.lst (xs ++ ys));have hp8' : upd H7 p8 (.lst (xs ++ ys)) p8 = some (.lst (xs ++ ys)) := zf;have hxu := (IsL.append hx7 hu7).mono s8;generalize upd H7 p8 (.lst (xs ++ ys)) = H8 at s8 hp8' hxu ⊢;refine ⟨p8, _, rfl, .inl ⟨SqL.of hp8', fun l9 hl9 => ?_⟩⟩;have s9 := Same.new hl9 (.tup (xs ++ ys));exact k (ts ++ us) _ _ (g5.append gu) (by rw [qt, Zq us0, cw, sy5]) (Nsk.append g5 nk5 (Nsk.none us0)) (by rw [ba]; omega) (by rw [ba]; omega) (b5.trans (b6.trans (b7.trans (s8.trans s9).but))) (t7.same (s8.trans s9)) (Is.newTup hl9 hxu)
noncomputable def Cr (c d b : Int) : Prop := (c = 2 ∧ d = 6 ∧ b = 1) ∨ (c = 2 ∧ d = 5 ∧ b = 2) ∨ (c = 3 ∧ d = 4 ∧ b = 1) ∨ (c = 4 ∧ d = 2 ∧ b = 1) ∨ (c = 1 ∧ d = 8 ∧ b = 2) ∨ (c = 2 ∧ d = 6 ∧ b = 0)
structure LH (bx p : Int) (ss : List T) : Prop where
 b0 : 0 ≤ bx
 b2 : bx ≤ 2
 p0 : 0 ≤ p
 p2 : p ≤ 2
 n1 : 1 ≤ ss.length
 n4 : ss.length ≤ 4
 cr : ∃ d : Int, Cr (ss.length : Int) d bx ∧ ∀ s ∈ ss, ∃ ts, s = L2.T.tup ts ∧ Gds bx ts ∧ ts.length ≤ 30 ∧ xf ts = cgo (2 * p).toNat ∧ Nsk ts ∧ (ts.length : Int) ≤ d
theorem LH.each (L : LH bx p ss) : ∀ s ∈ ss, ∃ ts, s = L2.T.tup ts ∧ Gds bx ts ∧ ts.length ≤ 30 ∧ xf ts = cgo (2 * p).toNat ∧ Nsk ts := fun s hs => by
 obtain ⟨d, _, h⟩ := L.cr;obtain ⟨ts, a, b, c, e, f, _⟩ := h s hs;exact ⟨ts, a, b, c, e, f⟩
theorem LH.fro {bx p : Int} {ss : List T} (h : ∀ s ∈ ss, ∃ ts, s = L2.T.tup ts ∧ Gds bx ts ∧ ts.length ≤ 30 ∧ xf ts = cgo (2 * p).toNat ∧ Nsk ts) : wx ss := wx.all.mpr fun s hs => by
 obtain ⟨ts, rfl, g, _⟩ := h s hs;exact g.fro
noncomputable def crL : List (List Int) := [[2, 6, 1], [2, 5, 2], [3, 4, 1], [4, 2, 1], [1, 8, 2], [2, 6, 0]]
theorem zpg : ∀ t ∈ crL, ∃ c d b : Int, t = [c, d, b] ∧ 1 ≤ c ∧ c ≤ 4 ∧ 2 ≤ d ∧ d ≤ 8 ∧ 0 ≤ b ∧ b ≤ 2 ∧ Cr c d b := by
 intro t ht;simp only [crL, aa, aj, or_false] at ht;rcases ht with rfl | rfl | rfl | rfl | rfl | rfl <;> exact ⟨_, _, _, rfl, by decide, by decide, by decide, by decide, by decide, by decide, by unfold Cr; decide⟩
theorem zjj {d : Int} (h1 : 2 ≤ d) (h2 : d ≤ 8) (p0 : 0 ≤ p) (p2 : p ≤ 2) (h : 2 * p ≤ d) : (2 * p).toNat * ((d - 2 * p).toNat + 1) + (d - 2 * p).toNat ≤ 30 := by
 have : p = 0 ∨ p = 1 ∨ p = 2 := by omega
 rcases this with rfl | rfl | rfl
 · show 0 * _ + _ ≤ 30; omega
 · show 2 * _ + _ ≤ 30; omega
 · show 4 * _ + _ ≤ 30; omega
theorem LH.froD {d : Int} (h : ∀ s ∈ ss, ∃ ts, s = L2.T.tup ts ∧ Gds bx ts ∧ ts.length ≤ 30 ∧ xf ts = cgo (2 * p).toNat ∧ Nsk ts ∧ (ts.length : Int) ≤ d) : wx ss := wx.all.mpr fun s hs => by
 obtain ⟨ts, rfl, g, _⟩ := h s hs;exact g.fro
noncomputable def st0 : Stmt := .Pass ⟨0, 0, 0, 0⟩
noncomputable def zp8 : Stmt → List Expr
 | .Assign t _ _ => t
 | _ => []
noncomputable def zpw : Stmt → Expr
 | .Assign _ (.Subscript _ i _) _ => i
 | _ => .Name "x" ⟨0, 0, 0, 0⟩
theorem zjz : ∃ (e : Expr) (p q : Pos), xn xh = [.Assign (zp8 ((xn xh).getD 0 st0)) (.Subscript e (zpw ((xn xh).getD 0 st0)) p) q, (xn xh).getD 1 st0, (xn xh).getD 2 st0, (xn xh).getD 3 st0, (xn xh).getD 4 st0, (xn xh).getD 5 st0] ∧
 zf5 e = some crL := ⟨_, _, _, rfl, by kernel_rfl⟩
noncomputable def zn0 (K : PySem.W.Frag) : Sp := fun vs H Q _ => ∃ (a s : Addr) (ns : List Int), vs = [.ref a] ∧ Tape K H a s ns ∧ ∀ bx ss p v H', LH bx p ss → But a H H' → Tape K H' a s ns → Is H' (.tup [.tup [.int bx, .tup ss], .int p]) v → Q v H'
theorem Xo : FnScope ["deck", "crew", "deeds", "boxes", "p", "scripts"] ["deck"] (zj xh) := ⟨rfl, rfl, rfl, by decide +kernel, rfl, by decide +kernel, by decide +kernel⟩
theorem zah (D : Def K mg "_law_e_loose_one" xh) (T : Txt K mg) (o1 : Ok P w K mg base "_law_e_pick" 2 ["deck", "many"] (zi7 K)) (o2 : Ok P w K mg base "_law_e_script" 5 ["deck", "boxes", "room", "p"] (znu K)) :
  Ok P w K mg base "_law_e_loose_one" 6 ["deck"] (zn0 K) := by
 refine xx D Xo (fun _ _ _ _ _ _ us hl => (match us, hl with | [_], _ => rfl)) (fun vs H Q E ⟨_, _, _, e, _⟩ => by rw [e]; rfl) fun f cdv A outer sh H vs Q E hr h => ?_;obtain ⟨a, s, ns, rfl, hT, k⟩ := h;have nd := Xo.nd;have r2 := hr.mono (show 2 ≤ 5 by decide);obtain ⟨eL, pL, qL, hbody, hbld⟩ := zjz;rw [hbody];refine ⟨_, ze (ql (zo yn (zl5 hbld (by decide) (by decide)) (zx o1 r2 (zc (pv 0) (zc zh zd))) (fun _ _ => rfl)) (qo rfl (yl (zu (i := 1) nd rfl (Or.inl rfl)) (yl (zu (i := 2) nd rfl (Or.inr rfl)) (yl (zu (i := 3) nd rfl (Or.inr rfl)) vc)))))
  (ze (ya (i := 4) nd rfl (Or.inr rfl) (zx o1 r2 (zc (pv 0) (zc zh zd))))
  (ze (yc (zw W1 (yb ve zh (pv 4)) (pv 2) (zt _)) (zi (ya (i := 4) nd rfl (Or.inr rfl) zh)) zr)
  (ze (ya (i := 5) nd rfl (Or.inr rfl) (wc (own := ["hand"]) (cap := [0, 3, 2, 4]) rfl (yg (zj xh) rfl rfl (by decide +kernel) (by decide +kernel) (by decide +kernel) ⟨⟨_, rfl, .inl rfl, xr rfl⟩, ⟨_, rfl, .inl rfl, xr rfl⟩, ⟨_, rfl, .inl rfl, xr rfl⟩, ⟨_, rfl, .inl rfl, xr rfl⟩, trivial⟩)
   (xu rfl T.range (zc (pv 1) zd))
   (fun _ _ _ _ => zu (i := 0) (by show (["hand", "deck", "boxes", "deeds", "p"] : List Str).Nodup; decide +kernel) rfl (Or.inl rfl)) (fun _ _ _ _ => yq)
   (fun _ _ _ _ => zx o2 hr (zc (pv 1) (zc (pv 2) (zc (yb jm (pv 3) (yb ve zh (pv 4))) (zc (pv 4) zd)))))) (hs := by with_unfolding_all rfl))
  (ze (yc (zw wa (zx o1 r2 (zc (pv 0) (zc zh zd))) zh (zt _))
   (zi (ya (i := 5) nd rfl (Or.inr rfl) (wc (own := ["hand"]) (cap := [5]) rfl (yg (zj xh) rfl rfl (by decide +kernel) (by decide +kernel) (by decide +kernel) ⟨⟨_, rfl, .inl rfl, xr rfl⟩, trivial⟩)
    (xu rfl T.range (zc (pv 1) zd))
    (fun _ _ _ _ => zu (i := 0) (by show (["hand", "scripts"] : List Str).Nodup; decide +kernel) rfl (Or.inl rfl)) (fun _ _ _ _ => yq)
    (fun _ _ _ _ => zo (r := zop K) yn (pv 1) zh (fun _ _ => rfl))) (hs := by with_unfolding_all rfl))) zr)
  (zi (zp (w6 (zc (w6 (zc (pv 3) (zc (yp xa rfl T.tuple xw (zc (pv 5) zd)) zd))) (zc (pv 4) zd))))))))), ?_⟩
 obtain ⟨p0, r0, ha0, _, _⟩ := hT.at';refine fun lb xb H1 s1 nlb hlb hxb => ?_;have t1 := hT.same s1;refine ⟨_, rfl, a, s, ns, 6, rfl, t1, by decide, by decide, fun j H2 j0 j1 b2 t2 => ?_⟩;have hlb2 := b2 _ _ (fun z => by rw [z, ha0] at nlb; cases nlb) hlb;have hxb2 : IsL H2 (crL.map tI) xb := IsL.tups (t1.tups b2) (wx.all.mpr fun t ht => by obtain ⟨g, _, rfl⟩ := bq.mp ht; exact fro_ints g) hxb;have hj : j.toNat < crL.length := by show j.toNat < 6; omega
 obtain ⟨x, hx, ix⟩ := hxb2.get (i := j.toNat) (t := tI crL[j.toNat]) (by rw [ao, ah hj]; rfl);obtain ⟨c, d, bx, ec, c1, c4, d2, d8, bx0, bx2, hcr⟩ := zpg crL[j.toNat] (List.getElem_mem hj);rw [ec] at ix;have ej : j = ((j.toNat : Nat) : Int) := by omega
 refine ⟨lb, xb, j, x, rfl, rfl, SqL.of hlb2, by rw [ej]; exact yo hx, ?_⟩;obtain ⟨am, xm, rfl, ham, v1, q1, rfl, i1, v2, q2, rfl, i2, v3, q3, rfl, i3, hnil⟩ := ix;cases (show q3 = [] from hnil);cases (show v1 = .int c from i1);cases (show v2 = .int d from i2);cases (show v3 = .int bx from i3);refine ⟨am, _, rfl, SqT.of ham, rfl, _, _, rfl, _, _, rfl, _, _, rfl, rfl, ?_⟩;have b02 : But a H H2 := s1.but.trans b2;refine ⟨_, rfl, a, s, ns, 3, rfl, t2, by decide, by decide, fun p3 H3 x3 y3 b3 t3 => ?_⟩;have b03 := b02.trans b3;dsimp only [wz, Xu, Y5, tC, kj];refine jg (t := Vt _ _ _) (fun σ' H' => ∃ p : Int, σ' = [some (.ref a), some (.int c), some (.int d), some (.int bx), some (.int p), none] ∧ 0 ≤ p ∧ p ≤ 2 ∧ 2 * p ≤ d ∧ H' = H3) ?_ (fun fin => ?_);rotate_left
 · refine ⟨_, rfl, _, _, rfl, rfl, V3 (by decide), _, rfl, _, _, rfl, rfl, _, rfl, ?_⟩;refine y0 (fun z => ?_) (fun z => ?_)
   · exact fin _ _ ⟨1, rfl, by decide, by decide, by omega, rfl⟩
   · have z : ¬ (2 * p3 > d) := fun q => z (ai q);exact fin _ _ ⟨p3, rfl, x3, by omega, by omega, rfl⟩
 rintro σ' H' ⟨p, rfl, hp0, hp2, hpd, rfl⟩;refine ⟨_, rfl, c, rfl, by omega, by omega, ?_⟩;refine je (lo := 0) (n := c.toNat) (fun j ys H4 => ∃ ss : List L2.T, IsL H4 ss ys ∧ ss.length = j ∧ (∀ s ∈ ss, ∃ ts, s = L2.T.tup ts ∧ Gds bx ts ∧ ts.length ≤ 30 ∧ xf ts = cgo (2 * p).toNat ∧ Nsk ts ∧ (ts.length : Int) ≤ d) ∧ But a H' H4 ∧ zkw H4 a s) ⟨[], rfl, rfl, (fun c hc => by cases hc), But.refl a H', t3.at'⟩
  (fun j ys H4 hj ⟨ss, h1, h2, _⟩ => by rw [h1.length]; exact zy (by omega)) ?_ ?_
 · rintro j ys H4 hj ⟨ss, h1, h2, h3, h4, h5⟩;refine qz ?_;have t4 := t3.at2 h4 h5;refine ⟨_, rfl, _, rfl, _, rfl, _, rfl, _, _, rfl, rfl, V3 (by decide), _, _, rfl, rfl, _, rfl, a, s, ns, bx, d - 2 * p, p, rfl, t4, ⟨bx0, by omega⟩, ⟨by omega, by omega⟩, ⟨hp0, hp2⟩, zjj d2 d8 hp0 hp2 hpd, fun ts v H5 g gy gk n nd' b5 t5 hv => ?_⟩;refine ⟨ss ++ [.tup ts], IsL.append (IsL.tups (t4.tups b5) (LH.froD h3) h1) (IsL.one hv), by rw [ba, cm, h2], fun q hq => ?_, h4.trans b5, t5.at'⟩;rcases br.mp hq with z | z
   · exact h3 q z
   · rw [ak.mp z]; exact ⟨ts, rfl, g, n, gy, gk, by omega⟩
 rintro ys H4 ⟨ss, h1, h2, h3, h4, h5⟩ l hl;have t4 := t3.at2 h4 h5;have s5 := Same.new hl (.lst ys);have hl5 : upd H4 l (.lst ys) l = some (.lst ys) := zf;have h15 := h1.mono s5;generalize upd H4 l (.lst ys) = H5 at s5 hl5 h15 ⊢;have t5 := t4.same s5;have b5 : But a H H5 := b03.trans (h4.trans s5.but);have hla : l ≠ a := by
  obtain ⟨_, _, ha, _, _⟩ := t4.at';exact fun z => by rw [z, ha] at hl; cases hl
 dsimp only [wz, Xu, Y5, tC, kj];refine jg (t := Vt _ _ _) (fun σ' H' => ∃ (q : Addr) (ys : List V) (ss : List L2.T), σ' = [some (.ref a), some (.int c), some (.int d), some (.int bx), some (.int p), some (.ref q)] ∧ H' q = some (.lst ys) ∧ IsL H' ss ys ∧ ss.length = c.toNat ∧ (∀ s ∈ ss, ∃ ts, s = L2.T.tup ts ∧ Gds bx ts ∧ ts.length ≤ 30 ∧ xf ts = cgo (2 * p).toNat ∧ Nsk ts ∧ (ts.length : Int) ≤ d) ∧ But a H H' ∧ Tape K H' a s ns) ?_ (fun fin => ?_);rotate_left
 · refine ⟨_, rfl, a, s, ns, 3, rfl, t5, by decide, by decide, fun d6 H6 x6 y6 b6 t6 => ⟨rfl, _, rfl, ?_⟩⟩;have hl6 := b6 _ _ hla hl5;have h16 : IsL H6 ss ys := IsL.tups (t5.tups b6) (LH.froD h3) h15;refine y0 (fun _ => ?_) (fun _ => ?_)
   · refine ⟨_, rfl, c, rfl, by omega, by omega, ?_⟩;cases ss with
     | nil => exact absurd h2 (by show (0 : Nat) ≠ _; omega)
     | cons s0 ss' =>
       obtain ⟨v0, ys', rfl, iv0, iy'⟩ := h16;refine je (lo := 0) (n := c.toNat) (fun j zs H7 => H7 = H6 ∧ zs = List.replicate j v0) ⟨rfl, rfl⟩ (fun j zs H7 hj ⟨_, e⟩ => by rw [e, c9]; exact zy (by omega)) ?_ ?_
       · rintro j zs H7 hj ⟨rfl, rfl⟩;refine qz ?_;exact ⟨_, rfl, l, _, _, _, rfl, rfl, SqL.of hl6, (show atI _ ((0 : Nat) : Int) = _ from yo rfl), rfl, by rw [d4]⟩
       · rintro zs H7 ⟨rfl, rfl⟩ q hq;have s8 := Same.new hq (.lst (List.replicate c.toNat v0));have rep : ∀ n : Nat, IsL H7 (List.replicate n s0) (List.replicate n v0) := fun n => by
          induction n with
          | zero => exact rfl
          | succ n ih => exact ⟨v0, _, rfl, iv0, ih⟩
         refine fin _ _ ⟨q, _, List.replicate c.toNat s0, rfl, zf, (rep c.toNat).mono s8, c9, fun z hz => ?_, b5.trans (b6.trans s8.but), t6.same s8⟩;rw [(dl.mp hz).2];exact h3 s0 be
   · exact fin _ _ ⟨l, ys, ss, rfl, hl6, h16, h2, h3, b5.trans b6, t6⟩
 rintro σ' H6 ⟨q, ys, ss, rfl, hq6, h16, hn, hc6, b6, t6⟩;refine ⟨_, rfl, _, rfl, q, ys, rfl, .inl ⟨SqL.of hq6, fun l7 hl7 => ?_⟩⟩;have s7 := Same.new hl7 (.tup ys);have i7 : Is (upd H6 l7 (.tup ys)) (.tup ss) (.ref l7) := Is.newTup hl7 h16;generalize upd H6 l7 (.tup ys) = H7 at s7 i7 ⊢;refine ⟨(by show 2 ≤ sizeLine; decide), fun l8 hl8 => ?_⟩;have s8 := Same.new hl8 (.tup [.int bx, .ref l7]);have i8 : Is (upd H7 l8 (.tup [.int bx, .ref l7])) (.tup [.int bx, .tup ss]) (.ref l8) := Is.newTup hl8 (IsL.two rfl i7);generalize upd H7 l8 (.tup [.int bx, .ref l7]) = H8 at s8 i8 ⊢;refine ⟨_, rfl, (by show 2 ≤ sizeLine; decide), fun l9 hl9 => ?_⟩;have s9 := Same.new hl9 (.tup [.ref l8, .int p]);exact k bx ss p _ _ ⟨bx0, bx2, hp0, hp2, by omega, by omega, d, by rw [show (ss.length : Int) = c by omega]; exact hcr, hc6⟩ (b6.trans (s7.trans (s8.trans s9)).but) (t6.same (s7.trans (s8.trans s9))) (Is.newTup hl9 (IsL.two i8 rfl))
inductive Dd where
 | say (x : Str)
 | act (w : Str) (b n : Int) (r : List T)
noncomputable def Dd.t : Dd → T
 | .say x => .tup [.str "say", .str x]
 | .act w b n r => .tup (.str w :: .int b :: .int n :: r)
noncomputable def Dd.In (bx : Int) : Dd → Prop
 | .say _ => True
 | .act w b _ r => 0 ≤ b ∧ b < bx ∧ (wEq w "skip" = true → ∃ m : Int, 1 ≤ m ∧ r = [.int m])
noncomputable def Dd.NS : Dd → Prop
 | .say _ => True
 | .act w _ _ _ => wEq w "say" = false
theorem jy {t : T} {lo hi : Int} (h : yr t lo hi = true) : ∃ i, t = .int i ∧ lo ≤ i ∧ i ≤ hi := by
 cases t with
 | int i =>
   have h : (decide (lo ≤ i) && decide (i ≤ hi)) = true := h;simp only [bc, decide_eq_true_eq] at h;exact ⟨i, rfl, h.1, h.2⟩
 | _ => cases h
theorem zld {y : Str} (h : wEq x y = true) : x = y := by
 have h := bp h;exact V.str.inj h
theorem zpf {t : T} (h : mLD t bx beh = true) : ∃ d : Dd, t = d.t ∧ d.In bx ∧ d.NS := by
 cases t with
 | tup ts =>
   cases ts with
   | nil => cases h
   | cons x r =>
     cases x with
     | str x =>
       have h : ((decide (1 ≤ r.length) && decide (r.length ≤ 3)) && J4 x r bx beh) = true := h;rw [bc] at h;have h2 := h.2;unfold J4 at h2;split at h2
       · rename_i hx
         have hx := zld hx;subst hx;rw [bc, decide_eq_true_eq] at h2;obtain ⟨hl, hw⟩ := h2
         match r, hl with
         | [y], _ =>
           have hw : zdn y = true := hw;cases y with
           | str y => exact ⟨.say y, rfl, trivial, trivial⟩
           | _ => cases hw
       · rename_i hx
         split at h2
         · cases h2
         · rename_i hl
           match r, hl with
           | [], hl => exact absurd (show (0 : Nat) < 2 by decide) hl
           | [_], hl => exact absurd (show (1 : Nat) < 2 by decide) hl
           | y1 :: y2 :: r, _ =>
             rw [bc, bc] at h2;obtain ⟨a1, a2, a3⟩ := h2;obtain ⟨b, rfl, b0, b1⟩ := jy (show yr y1 0 (bx - 1) = true from a1);obtain ⟨n, rfl, n0, n1⟩ := jy (show yr y2 0 9 = true from a2);refine ⟨.act x b n r, rfl, ⟨b0, by omega, fun hs => ?_⟩, (by show wEq x "say" = false; cases z : wEq x "say" with | true => exact absurd z hx | false => rfl)⟩;rw [if_pos hs, bc, decide_eq_true_eq] at a3;obtain ⟨hl, hm⟩ := a3
             match r, hl with
             | [z], _ =>
               obtain ⟨m, rfl, m0, _⟩ := jy (show yr z 1 beh = true from hm);exact ⟨m, m0, rfl⟩
     | _ => cases h
 | _ => cases h
theorem zcl {α β : Type} {f : α → β} {P : α → Prop} : ∀ {l : List β}, (∀ b ∈ l, ∃ a, b = f a ∧ P a) → ∃ as : List α, l = as.map f ∧ ∀ a ∈ as, P a
 | [], _ => ⟨[], rfl, fun a h => by cases h⟩
 | b :: r, h => by
   obtain ⟨a, rfl, pa⟩ := h b be;obtain ⟨as, e, ps⟩ := zcl (l := r) fun b hb => h b (bn _ hb);refine ⟨a :: as, by rw [e]; rfl, fun x hx => ?_⟩;rcases aa.mp hx with rfl | hx
   · exact pa
   · exact ps x hx
noncomputable def scT (ds : List Dd) : T := .tup (ds.map Dd.t)
noncomputable def hT (bx : Int) (dss : List (List Dd)) : T := .tup [.int bx, .tup (dss.map scT)]
structure HD (bx : Int) (dss : List (List Dd)) : Prop where
 b0 : 0 ≤ bx
 b6 : bx ≤ 6
 n1 : 1 ≤ dss.length
 n4 : dss.length ≤ 4
 few : ∀ ds ∈ dss, ds.length ≤ 30
 each : ∀ ds ∈ dss, ∀ d ∈ ds, d.In bx
 good : Xi (hT bx dss) = true
 wh : Wh (hT bx dss)
 fro : Fro (hT bx dss)
 ns : ∀ ds ∈ dss, ∀ d ∈ ds, d.NS
 lay : ∀ ds ∈ dss, ∀ d ∈ ds, (toD d.t).canLay0 = true
 sk : ∀ ds ∈ dss, ∀ (i : Nat) d, ds[i]? = some d → skM d.t + i + 1 ≤ ds.length
structure WD (p : Int) (dss : List (List Dd)) : Prop where
 p0 : 0 ≤ p
 p2 : p ≤ 2
 says : ∀ ds ∈ dss, xf (ds.map Dd.t) = cgo (2 * p).toNat
 nsk : ∀ ds ∈ dss, Nsk (ds.map Dd.t)
theorem zfx (h : ∀ s ∈ ss, ∃ ts, s = L2.T.tup ts ∧ Gds bx ts ∧ ts.length ≤ 30 ∧ xf ts = cgo (2 * p).toNat ∧ Nsk ts) : ∀ s ∈ ss, Ws s := fun s hs => by
 obtain ⟨ts, rfl, g, _⟩ := h s hs;exact fun us e d hd => by
  cases e;obtain ⟨i, hi⟩ := List.mem_iff_getElem?.mp hd;exact (g i d hi).wd
theorem ziy (h : ∀ s ∈ ss, Ws s) : Wss (.tup ss) := fun us e d hd => by cases e; exact h d hd
theorem ziz : Wss (.int i) := fun us e => by cases e
theorem zm9 (h : ∀ d ∈ ts, Wss d) : Wh (.tup ts) := fun us e d hd => by cases e; exact h d hd
theorem zlc {x : T} (h1 : Wss x) (h2 : Wss y) : Wh (.tup [x, y]) := zm9 fun d hd => by
 simp only [aa, aj, or_false] at hd;rcases hd with rfl | rfl
 · exact h1
 · exact h2
theorem zj1 (L : LH bx p ss) : Xi (.tup [.int bx, .tup ss]) = true ∧ Wh (.tup [.int bx, .tup ss]) := by
 have b0 := L.b0; have b2 := L.b2; have n1 := L.n1; have n4 := L.n4;refine ⟨?_, zlc ziz (ziy (zfx L.each))⟩;show (yr (.int bx) 0 6 && (v5 (.tup ss) 1 4 && ss.all fun s => mLS s bx)) = true;rw [xo (by omega) (by omega)];have e : v5 (.tup ss) 1 4 = true := by
  show (decide ((1 : Int) ≤ (ss.length : Int)) && decide ((ss.length : Int) ≤ 4)) = true;rw [ai (by omega), ai (by omega)]; rfl
 rw [e, bi, bi, cz];intro s hs;obtain ⟨ts, rfl, g, n, gy, gk⟩ := L.each s hs;show (v5 (.tup ts) 0 30 && zhk ts bx) = true;have e2 : v5 (.tup ts) 0 30 = true := by
  show (decide ((0 : Int) ≤ (ts.length : Int)) && decide ((ts.length : Int) ≤ 30)) = true;rw [ai (by omega), ai (by omega)]; rfl
 rw [e2, bi];unfold zhk;rw [cz];intro i hi;have hi := cb.mp hi;rw [aq, ah hi];exact (g i ts[i] (ah hi)).ok bx _ (bz _) (bz _)
theorem zoy (L : LH bx p ss) : ∃ dss, ss = dss.map scT ∧ HD bx dss ∧ WD p dss := by
 have b0 := L.b0; have b2 := L.b2; have n1 := L.n1; have n4 := L.n4;obtain ⟨dss, e, h⟩ := zcl (f := scT) (P := fun ds => ds.length ≤ 30 ∧ (∀ d ∈ ds, d.In bx ∧ d.NS ∧ (toD d.t).canLay0 = true) ∧ (∀ (i : Nat) d, ds[i]? = some d → skM d.t + i + 1 ≤ ds.length) ∧ xf (ds.map Dd.t) = cgo (2 * p).toNat ∧ Nsk (ds.map Dd.t)) (l := ss) fun s hs => by
  obtain ⟨ts, rfl, g, n, gy, gk⟩ := L.each s hs;obtain ⟨ds, e, h⟩ := zcl (f := Dd.t) (P := fun d => d.In bx ∧ d.NS ∧ (toD d.t).canLay0 = true) (l := ts) fun t ht => by
   obtain ⟨i, hi⟩ := List.mem_iff_getElem?.mp ht;obtain ⟨d, rfl, h1, h2⟩ := zpf ((g i t hi).ok bx _ (bz _) (bz _));exact ⟨d, rfl, h1, h2, (g i _ hi).lay⟩
  subst e;refine ⟨ds, rfl, by rw [a7] at n; exact n, h, fun i d e => ?_, gy, gk⟩;have q := (g i d.t (by rw [ao, e]; rfl)).sk;rw [a7] at q;omega
 have g := zj1 L;have f := LH.fro L.each;subst e;rw [a7] at n1 n4;refine ⟨dss, rfl, ⟨b0, by omega, n1, n4, fun ds hd => (h ds hd).1, fun ds hd d hd' => ((h ds hd).2.1 d hd').1, g.1, g.2, by unfold hT Fro wx; exact ⟨by unfold Fro; trivial, by unfold wx; exact ⟨by unfold Fro; exact f, by unfold wx; trivial⟩⟩, fun ds hd d hd' => ((h ds hd).2.1 d hd').2.1, fun ds hd d hd' => ((h ds hd).2.1 d hd').2.2, fun ds hd => (h ds hd).2.2.1⟩, ⟨L.p0, L.p2, fun ds hd => (h ds hd).2.2.2.1, fun ds hd => (h ds hd).2.2.2.2⟩⟩
structure SD (bx : Int) (dss : List (List Dd)) (ps ns : List Int) : Prop where
 lp : ps.length = dss.length
 ln : ns.length = bx.toNat
 p0 : ∀ p ∈ ps, 0 ≤ p
 pl : ∀ k, ps.getD k 0 ≤ ((dss.getD k []).length : Int)
abbrev iEq (x y : Int) : Bool := decide (V.int x = V.int y)
noncomputable def rM : List T → Int
 | .int m :: _ => m
 | _ => 0
noncomputable def cur (dss : List (List Dd)) (ps : List Int) (h : Nat) : Option Dd := (dss.getD h [])[(ps.getD h 0).toNat]?
noncomputable def stops (ns : List Int) : Dd → Bool
 | .say _ => false
 | .act w b n _ => wEq w "same" && !iEq (ns.getD b.toNat 0) n
noncomputable def nP (w : Str) (b n : Int) (ns : List Int) : List Int := if wEq w "put" = true then ns.set b.toNat n else ns
noncomputable def nR (w : Str) (b n : Int) (ns : List Int) : List Int := if wEq w "raise" = true then ns.set b.toNat ((ns.getD b.toNat 0 + n) % 10) else ns
noncomputable def pS (w : Str) (b n : Int) (r : List T) (ns : List Int) : Int := if (wEq w "skip" && iEq (ns.getD b.toNat 0) n) = true then rM r else 0
noncomputable def Kj : Dd → List Int → List Int
 | .say _, ns => ns
 | .act w b n _, ns => nR w b n (nP w b n ns)
noncomputable def qr : Dd → List Int → Int
 | .say _, _ => 0
 | .act w b n r, ns => pS w b n r (nR w b n (nP w b n ns))
noncomputable def yt (dss : List (List Dd)) (ps ns : List Int) (h : Int) : Option (List Int × List Int) :=
 if h < 0 ∨ (dss.length : Int) ≤ h then none
 else match cur dss ps h.toNat with
  | none => none
  | some d => if stops ns d = true then none else some (ps.set h.toNat (ps.getD h.toNat 0 + 1 + qr d ns), Kj d ns)
theorem Yb {dss : List (List Dd)} (c : h < 0 ∨ (dss.length : Int) ≤ h) : yt dss ps ns h = none := if_pos c
theorem zc9 {dss : List (List Dd)} {h : Nat} (c : h < dss.length) : yt dss ps ns (h : Int) = match cur dss ps h with
  | none => none
  | some d => if stops ns d = true then none else some (ps.set h (ps.getD h 0 + 1 + qr d ns), Kj d ns) := by
 unfold yt;rw [if_neg (by omega)];rfl
theorem Wj {dss : List (List Dd)} {h : Nat} (c : h < dss.length) (e : cur dss ps h = none) : yt dss ps ns (h : Int) = none := by rw [zc9 c, e]
theorem X5 {dss : List (List Dd)} {h : Nat} {d : Dd} (c : h < dss.length) (e : cur dss ps h = some d) : yt dss ps ns (h : Int) = if stops ns d = true then none else some (ps.set h (ps.getD h 0 + 1 + qr d ns), Kj d ns) := by rw [zc9 c, e]
theorem ww {dss : List (List Dd)} {q : List Int × List Int} (e : yt dss ps ns h = some q) : ∃ k : Nat, ∃ d, h = (k : Int) ∧ k < dss.length ∧ cur dss ps k = some d ∧ stops ns d = false ∧ q = (ps.set k (ps.getD k 0 + 1 + qr d ns), Kj d ns) := by
 by_cases c : h < 0 ∨ (dss.length : Int) ≤ h
 · rw [Yb c] at e; cases e
 · obtain ⟨k, rfl⟩ := Int.eq_ofNat_of_zero_le (show 0 ≤ h by omega);have hk : k < dss.length := by omega
   refine ⟨k, ?_⟩;cases e1 : cur dss ps k with
   | none => rw [Wj hk e1] at e; cases e
   | some d =>
     rw [X5 hk e1] at e;cases e2 : stops ns d with
     | true => rw [e2] at e; cases e
     | false =>
       rw [e2] at e;exact ⟨d, rfl, hk, rfl, e2, (Option.some.inj e).symm⟩
theorem jq {dss : List (List Dd)} {d : Dd} (h : HD bx dss) (e : cur dss ps k = some d) : d.In bx := by
 unfold cur at e;cases e1 : dss[k]? with
 | none => rw [aq, e1] at e; simp at e
 | some ds =>
   rw [aq, e1] at e;exact h.each ds (bj e1) d (bj e)
theorem zbh {d : Dd} : (Kj d ns).length = ns.length := by
 cases d with
 | say x => rfl
 | act w b n r =>
   show (nR w b n (nP w b n ns)).length = ns.length;unfold nR nP;split <;> split <;> simp
theorem Wc {d : Dd} (h : d.In bx) : 0 ≤ qr d ns := by
 cases d with
 | say x => exact bz 0
 | act w b n r =>
   show 0 ≤ pS w b n r (nR w b n (nP w b n ns));unfold pS;split
   · rename_i c
     rw [bc] at c;obtain ⟨m, hm, rfl⟩ := h.2.2 c.1;show 0 ≤ m;omega
   · exact bz 0
theorem zd6 {d : Dd} (h : d.In bx) : qr d ns ≤ (skM d.t : Int) := by
 cases d with
 | say x => exact bz 0
 | act w b n r =>
   show pS w b n r (nR w b n (nP w b n ns)) ≤ _;unfold pS;split
   · rename_i c
     rw [bc] at c;obtain ⟨m, hm, rfl⟩ := h.2.2 c.1;show m ≤ ((m.toNat : Nat) : Int);omega
   · exact Int.natCast_nonneg _
theorem qy (h : ∀ p ∈ ps, 0 ≤ p) (k : Nat) : 0 ≤ ps.getD k 0 := by
 rw [aq];cases e : ps[k]? with
 | none => exact bz 0
 | some p => exact h p (bj e)
theorem SD.step {dss : List (List Dd)} {qs ms : List Int} (hd : HD bx dss) (sd : SD bx dss ps ns) (e : yt dss ps ns h = some (qs, ms)) : SD bx dss qs ms := by
 obtain ⟨k, d, rfl, hk, e1, e2, e3⟩ := ww e;cases e3;refine ⟨by rw [List.length_set]; exact sd.lp, by rw [zbh]; exact sd.ln, fun p hp => ?_, fun j => ?_⟩;rotate_left
 · by_cases c : j = k
   · subst c;have hkp : j < ps.length := by rw [sd.lp]; exact hk
     have eg : dss.getD j [] = dss[j] := by rw [aq, ah hk]; rfl
     have h1 := qy sd.p0 j;have h2 := zd6 (ns := ns) (jq hd e1);unfold cur at e1;rw [eg] at e1;have h3 := hd.sk _ (List.getElem_mem hk) _ _ e1;rw [eg, aq, List.getElem?_set_self hkp];show ps.getD j 0 + 1 + qr d ns ≤ _;omega
   · rw [aq, List.getElem?_set_ne (ae c), ← aq];exact sd.pl j
 have h1 := qy sd.p0 k;have h2 := Wc (ns := ns) (jq hd e1);rcases List.mem_or_eq_of_mem_set hp with z | z
 · exact sd.p0 p z
 · rw [z]; omega
noncomputable def due (dss : List (List Dd)) (ps ns : List Int) : List Int := ((List.range dss.length).map fun (i : Nat) => (i : Int)).filter fun h => (yt dss ps ns h).isSome
theorem ji {dss : List (List Dd)} : h ∈ due dss ps ns ↔ (yt dss ps ns h).isSome = true := by
 unfold due;rw [dc];refine ⟨fun q => q.2, fun q => ⟨?_, q⟩⟩;obtain ⟨r, hr⟩ := dq.mp q;obtain ⟨k, d, rfl, hk, _⟩ := ww hr;exact bq.mpr ⟨k, cb.mpr hk, rfl⟩
noncomputable def zs (n : Nat) : List Int := List.replicate n 0
theorem SD.first {dss : List (List Dd)} : SD bx dss (zs dss.length) (zs bx.toNat) := ⟨c9, c9, fun p hp => by rw [(dl.mp hp).2]; exact bz 0, fun k => by
 have e : (zs dss.length).getD k 0 = 0 := by
  unfold zs;rw [aq, List.getElem?_replicate];split <;> rfl
 rw [e]; exact Int.natCast_nonneg _⟩
theorem fro_ints : ∀ ns : List Int, wx (iT ns)
 | [] => by unfold iT wx; trivial
 | n :: r => by show wx (T.int n :: iT r); unfold wx; exact ⟨by unfold Fro; trivial, fro_ints r⟩
theorem jp : Fro (tt ps ns) := by
 unfold tt Fro wx;exact ⟨by unfold Fro; exact fro_ints ps, by unfold wx; exact ⟨by unfold Fro; exact fro_ints ns, by unfold wx; trivial⟩⟩
theorem v6 {dss : List (List Dd)} (h : Is H (hT bx dss) v) : ∃ a as ss, v = .ref a ∧ H a = some (.tup [.int bx, .ref as]) ∧ H as = some (.tup ss) ∧ IsL H (dss.map scT) ss ∧ ss.length = dss.length := by
 obtain ⟨a, xs, rfl, ha, v1, r1, rfl, i1, v2, r2, rfl, i2, hn⟩ := h;cases (show r2 = [] from hn);cases (show v1 = .int bx from i1);obtain ⟨as, ss, rfl, has, hl⟩ := i2;exact ⟨a, as, ss, rfl, ha, has, hl, by rw [hl.length, a7]⟩
theorem qk (h : Is H (tt ps ns) v) : ∃ a p q, v = .ref a ∧ H a = some (.tup [.ref p, .ref q]) ∧ H p = some (.tup (ps.map V.int)) ∧ H q = some (.tup (ns.map V.int)) := by
 obtain ⟨a, xs, rfl, ha, v1, r1, rfl, i1, v2, r2, rfl, i2, hn⟩ := h;cases (show r2 = [] from hn);obtain ⟨p, xp, rfl, hp, lp⟩ := i1;obtain ⟨q, xq, rfl, hq, lq⟩ := i2;rw [IsL.ints] at lp lq;subst lp lq;exact ⟨a, p, q, rfl, ha, hp, hq⟩
theorem Ze {p q a : Addr} (hp : H p = some (.tup (ps.map V.int))) (hq : H q = some (.tup (ns.map V.int))) (ha : H a = none) : Is (upd H a (.tup [.ref p, .ref q])) (tt ps ns) (.ref a) :=
 Is.newTup ha (IsL.two ⟨p, _, rfl, hp, IsL.ints.mpr rfl⟩ ⟨q, _, rfl, hq, IsL.ints.mpr rfl⟩)
theorem Wu {dss : List (List Dd)} {ss : List V} (h : IsL H (dss.map scT) ss) (hk : k < dss.length) : ∃ b xs, ss[k]? = some (.ref b) ∧ H b = some (.tup xs) ∧ IsL H ((dss.getD k []).map Dd.t) xs ∧ xs.length = (dss.getD k []).length := by
 obtain ⟨v, e, b, xs, rfl, hb, hl⟩ := h.get (i := k) (t := scT dss[k]) (by rw [ao, ah hk]; rfl);have eg : dss.getD k [] = dss[k] := by rw [aq, ah hk]; rfl
 rw [eg];exact ⟨b, xs, e, hb, hl, by rw [hl.length, a7]⟩
theorem w9 (h : k < ns.length) : (ns.map V.int)[k]? = some (.int (ns.getD k 0)) := by
 rw [ao, aq, ah h]; rfl
theorem jk : (ns.map V.int).set k (.int n) = (ns.set k n).map V.int := by rw [List.map_set]
theorem Vh (h : Is H (Dd.say x).t v) : ∃ a, v = .ref a ∧ H a = some (.tup [.str "say", .str x]) := by
 obtain ⟨a, xs, rfl, ha, v1, r1, rfl, i1, v2, r2, rfl, i2, hn⟩ := h;cases (show r2 = [] from hn);cases (show v1 = .str "say" from i1);cases (show v2 = .str x from i2);exact ⟨a, rfl, ha⟩
theorem Vi {r : List T} (h : Is H (Dd.act x b n r).t v) : ∃ a vs, v = .ref a ∧ H a = some (.tup (.str x :: .int b :: .int n :: vs)) ∧ IsL H r vs := by
 obtain ⟨a, xs, rfl, ha, v1, r1, rfl, i1, v2, r2, rfl, i2, v3, r3, rfl, i3, hn⟩ := h;cases (show v1 = .str x from i1);cases (show v2 = .int b from i2);cases (show v3 = .int n from i3);exact ⟨a, r3, rfl, ha, hn⟩
abbrev Zt : Stmt := top 26
abbrev ko : Stmt := top 27
abbrev kr : Stmt := top 28
abbrev X7 : Stmt := top 30
structure At (H : Hp) (bx : Int) (dss : List (List Dd)) (ps ns : List Int) (vh vs : V) : Prop where
 hd : HD bx dss
 sd : SD bx dss ps ns
 ih : Is H (hT bx dss) vh
 is : Is H (tt ps ns) vs
theorem At.same {dss : List (List Dd)} {vh vs : V} (A : At H bx dss ps ns vh vs) (s : Same H H') : At H' bx dss ps ns vh vs := ⟨A.hd, A.sd, A.ih.mono s, A.is.mono s⟩
theorem At.tups {H H' : Hp} {bx : Int} {dss : List (List Dd)} {ps ns : List Int} {vh vs : V} (A : At H bx dss ps ns vh vs) (s : vt H H') : At H' bx dss ps ns vh vs := ⟨A.hd, A.sd, A.ih.tups s A.hd.fro, A.is.tups s jp⟩
theorem zeg {dss : List (List Dd)} {h : Nat} {d : Dd} (c : h < dss.length) (e : cur dss ps h = some d) : (yt dss ps ns (h : Int)).isSome = !stops ns d := by
 rw [X5 c e];cases stops ns d <;> rfl
theorem at0 {x : V} : atI (x :: r) 0 = some x := (show atI (x :: r) ((0 : Nat) : Int) = _ from yo rfl)
theorem at1 {x y : V} : atI (x :: y :: r) 1 = some y := (show atI (x :: y :: r) ((1 : Nat) : Int) = _ from yo rfl)
theorem at2 {x y z : V} : atI (x :: y :: z :: r) 2 = some z := (show atI (x :: y :: z :: r) ((2 : Nat) : Int) = _ from yo rfl)
theorem at3 {x y z u : V} : atI (x :: y :: z :: u :: r) 3 = some u := (show atI (x :: y :: z :: u :: r) ((3 : Nat) : Int) = _ from yo rfl)
noncomputable def zi9 : Sp := fun vs H Q _ => ∃ bx dss ps ns vh vst, ∃ k : Nat, vs = [vh, vst, .int (k : Int)] ∧ At H bx dss ps ns vh vst ∧ k < dss.length ∧ (cur dss ps k = none → Q .non H) ∧ ∀ d v, cur dss ps k = some d → Is H d.t v → Q v H
noncomputable def zja : Sp := fun vs H Q _ => ∃ bx dss ps ns vh vst, ∃ h : Int, vs = [vh, vst, .int h] ∧ At H bx dss ps ns vh vst ∧ ∀ H', Same H H' → Q (.bl (yt dss ps ns h).isSome) H'
noncomputable def zjc : Sp := fun vs H Q _ => ∃ bx dss ps ns vh vst, vs = [vh, vst] ∧ At H bx dss ps ns vh vst ∧ ∀ l H', Same H H' → H l = none → H' l = some (.lst ((due dss ps ns).map V.int)) → Q (.ref l) H'
noncomputable def Kp : Sp := fun vs H Q _ => ∃ bx dss vh, vs = [vh] ∧ HD bx dss ∧ Is H (hT bx dss) vh ∧ ∀ v H', Same H H' → Is H' (tt (zs dss.length) (zs bx.toNat)) v → Q v H'
theorem Yd : FnScope ["house", "stand", "hand", "script", "place"] ["house", "stand", "hand"] (zj ko) := ⟨rfl, rfl, rfl, by decide +kernel, rfl, by decide +kernel, by decide +kernel⟩
theorem Jt (D : Def K mg "next_deed" ko) (T : Txt K mg) : Ok P w K mg base "next_deed" 1 ["house", "stand", "hand"] zi9 := by
 refine xx D Yd (fun _ _ _ _ _ _ us hl => (match us, hl with | [_, _, _], _ => rfl)) (fun vs H Q E ⟨_, _, _, _, _, _, _, e, _⟩ => by rw [e]; rfl) fun f cdv A outer s H vs Q E hr h => ?_;obtain ⟨bx, dss, ps, ns, vh, vst, k, rfl, A, hk, k1, k2⟩ := h;have nd := Yd.nd;refine ⟨_, ze (ya (i := 3) nd rfl (Or.inl rfl) (zo zl (zo zl (pv 0) (yx T.SCRIPTS) (fun _ _ => rfl)) (pv 2) (fun _ _ => rfl)))
  (ze (ya (i := 4) nd rfl (Or.inl rfl) (zo zl (zo zl (pv 1) (yx T.PLACES) (fun _ _ => rfl)) (pv 2) (fun _ _ => rfl)))
  (zi (zp (zgp (zgl W0 Yn zh (pv 4) (zn zq (by rfl) T.len yd (zc (pv 3) zd))) (zo zl (pv 3) (pv 4) (fun _ _ => rfl)) wk)))), ?_⟩
 obtain ⟨a, as, ss, rfl, ha, has, hl, hn⟩ := v6 A.ih;obtain ⟨c, p, q, rfl, hc, hp, hq⟩ := qk A.is;obtain ⟨b, xs, eb, hb, hxs, hxn⟩ := Wu hl hk;have hkp : k < ps.length := by rw [A.sd.lp]; exact hk
 have h0 := qy A.sd.p0 k;refine ⟨_, rfl, a, _, _, _, rfl, rfl, SqT.of ha, rfl, _, rfl, as, ss, _, _, rfl, rfl, SqT.of has, yo eb, ?_⟩;refine ⟨_, rfl, c, _, _, _, rfl, rfl, SqT.of hc, rfl, _, rfl, p, _, _, _, rfl, rfl, SqT.of hp, yo (w9 hkp), ?_⟩;refine ⟨_, rfl, 0, _, rfl, rfl, _, rfl, ?_⟩;rw [ai h0];refine xi ⟨_, rfl, b, xs, rfl, .inr (SqT.of hb), _, _, rfl, rfl, _, rfl, y0 (fun z => ?_) (fun z => ?_)⟩
 · have z := bp z;have hi : (ps.getD k 0).toNat < (dss.getD k []).length := by omega
   have e1 : cur dss ps k = some ((dss.getD k [])[(ps.getD k 0).toNat]) := ah hi;obtain ⟨v, ev, iv⟩ := hxs.get (i := (ps.getD k 0).toNat) (t := ((dss.getD k [])[(ps.getD k 0).toNat]).t) (by rw [ao, ah hi]; rfl);exact ⟨_, rfl, _, rfl, b, xs, _, v, rfl, rfl, SqT.of hb, by rw [show ps.getD k 0 = (((ps.getD k 0).toNat : Nat) : Int) from by omega]; exact yo ev, k2 _ _ e1 iv⟩
 · have z : ¬ (ps.getD k 0 < (xs.length : Int)) := fun y => z (ai y);exact k1 (by unfold cur; rw [dz]; omega)
theorem Ye : FnScope ["house", "stand", "hand", "deed"] ["house", "stand", "hand"] (zj kr) := ⟨rfl, rfl, rfl, by decide +kernel, rfl, by decide +kernel, by decide +kernel⟩
theorem Ju (D : Def K mg "may_go_on" kr) (T : Txt K mg) (o1 : Ok P w K mg base "is_within" 2 ["thing", "least", "most"] zei) (o2 : Ok P w K mg base "next_deed" 1 ["house", "stand", "hand"] zi9) :
  Ok P w K mg base "may_go_on" 3 ["house", "stand", "hand"] zja := by
 refine xx D Ye (fun _ _ _ _ _ _ us hl => (match us, hl with | [_, _, _], _ => rfl)) (fun vs H Q E ⟨_, _, _, _, _, _, _, e, _⟩ => by rw [e]; rfl) fun f cdv A outer s H vs Q E hr h => ?_;obtain ⟨bx, dss, ps, ns, vh, vst, h, rfl, A, kk⟩ := h;have nd := Ye.nd;have r1 := hr.mono (show 1 ≤ 2 by decide);refine ⟨_, ze (yc (yu (yh (zx o1 hr (zc (pv 2) (zc zh (zc (yb jm (zn zq (by rfl) T.len yd (zc (zo zl (pv 0) (yx T.SCRIPTS) (fun _ _ => rfl)) zd)) zh) zd)))))) (zi (zp xj)) zr)
  (ze (ya (i := 3) nd rfl (Or.inl rfl) (zx o2 r1 (zc (pv 0) (zc (pv 1) (zc (pv 2) zd)))))
  (ze (yc (zw Jp (pv 3) wk (zt _)) (zi (zp xj)) zr)
  (zi (zp (zos (xg ka (zo zl (pv 3) zh (fun _ _ => rfl)) yi (zt _)) (v4 (xg wa (zo zl (zo zl (pv 1) (yx T.NUMBERS) (fun _ _ => rfl)) (zo zl (pv 3) zh (fun _ _ => rfl)) (fun _ _ => rfl)) (zo zl (pv 3) zh (fun _ _ => rfl)) (zt _)))))))), ?_⟩
 obtain ⟨a, as, ss, e0, ha, has, hl, hn⟩ := v6 A.ih;subst e0;refine ⟨_, rfl, _, rfl, a, _, _, _, rfl, rfl, SqT.of ha, rfl, as, ss, rfl, .inr (SqT.of has), _, _, rfl, rfl, .int h, _, 0, _, rfl, rfl, fun H1 s1 => ⟨_, rfl, ?_⟩⟩;by_cases c : h < 0 ∨ (dss.length : Int) ≤ h
 · have e : yr (.int h) 0 ((ss.length : Int) - 1) = false := by
    show (decide (0 ≤ h) && decide (h ≤ (ss.length : Int) - 1)) = false;rw [Bool.and_eq_false_iff, decide_eq_false_iff_not, decide_eq_false_iff_not];omega
   rw [e];have q := kk H1 s1;rw [Yb c] at q;exact xi q
 · obtain ⟨k, rfl⟩ := Int.eq_ofNat_of_zero_le (show 0 ≤ h by omega);have hk : k < dss.length := by omega
   have e : yr (.int (k : Int)) 0 ((ss.length : Int) - 1) = true := xo (by omega) (by omega);rw [e];have A1 := A.same s1;refine ye ⟨_, rfl, _, rfl, _, rfl, bx, dss, ps, ns, _, _, k, rfl, A1, hk, fun e => ?_, fun d v e iv => ?_⟩
   · refine ⟨_, rfl, rfl, _, rfl, y0 (fun _ => ?_) (fun z => absurd (ai rfl) z)⟩;have q := kk H1 s1;rw [Wj hk e] at q;exact q
   · have q := kk H1 s1;rw [zeg hk e] at q;obtain ⟨c, p, q', e1, hc, hp, hq⟩ := qk A1.is;subst e1;cases d with
     | say x =>
       obtain ⟨ad, rfl, had⟩ := Vh iv;refine ⟨_, rfl, rfl, _, rfl, y0 (fun z => absurd (bp z) (fun y => by cases y)) (fun _ => ?_)⟩;refine ⟨_, rfl, ad, _, _, _, rfl, rfl, SqT.of had, rfl, rfl, _, rfl, y0 (fun _ => q) (fun z => absurd ?_ z)⟩;decide +kernel
     | act w b n r =>
       obtain ⟨ad, vs, rfl, had, _⟩ := Vi iv;have hb := jq A.hd e;have hbn : b.toNat < ns.length := by rw [A.sd.ln]; have := hb.1; have := hb.2.1; omega
       have q : Q (.bl (!(wEq w "same" && !iEq (ns.getD b.toNat 0) n))) H1 := q;refine ⟨_, rfl, rfl, _, rfl, y0 (fun z => absurd (bp z) (fun y => by cases y)) (fun _ => ?_)⟩;refine ⟨_, rfl, ad, _, _, _, rfl, rfl, SqT.of had, at0, rfl, _, rfl, y0 (fun z => ?_) (fun z => ?_)⟩
       · have z : wEq w "same" = false := by simpa using z
         rw [z] at q;exact q
       · have z : wEq w "same" = true := by simpa using z
         rw [z, bi, Bool.not_not] at q;exact ⟨_, rfl, c, _, _, _, rfl, rfl, SqT.of hc, rfl, _, rfl, ad, _, _, _, rfl, rfl, SqT.of had, at1, q', _, _, _, rfl, rfl, SqT.of hq, by rw [show b = ((b.toNat : Nat) : Int) from by have := hb.1; omega]; exact yo (w9 hbn), _, rfl, ad, _, _, _, rfl, rfl, SqT.of had, at2, rfl, q⟩
theorem K1 : FnScope ["house"] ["house"] (zj Zt) := ⟨rfl, rfl, rfl, by decide +kernel, rfl, by decide +kernel, by decide +kernel⟩
theorem zoh (n : Nat) : (List.replicate n [V.int 0]).flatten = (zs n).map V.int := by
 induction n with
 | zero => rfl
 | succ n ih => rw [List.replicate_succ, List.flatten_cons, ih]; rfl
theorem zal (D : Def K mg "at_first" Zt) (T : Txt K mg) : Ok P w K mg base "at_first" 1 ["house"] Kp := by
 refine xx D K1 (fun _ _ _ _ _ _ us hl => (match us, hl with | [_], _ => rfl)) (fun vs H Q E ⟨_, _, _, e, _⟩ => by rw [e]; rfl) fun f cdv A outer s H vs Q E hr h => ?_;obtain ⟨bx, dss, vh, rfl, hd, ih, kk⟩ := h;refine ⟨_, zi (zp (w6 (zc (yp xa rfl T.tuple xw (zc (yb zb4 (jl (zc zh zd)) (zn zq (by rfl) T.len yd (zc (zo zl (pv 0) (yx T.SCRIPTS) (fun _ _ => rfl)) zd))) zd))
  (zc (yp xa rfl T.tuple xw (zc (yb zb4 (jl (zc zh zd)) (zo zl (pv 0) (yx T.BOXES) (fun _ _ => rfl))) zd)) zd)))), ?_⟩
 obtain ⟨a, as, ss, e0, ha, has, hl, hn⟩ := v6 ih;subst e0;have n4 := hd.n4;have b0 := hd.b0;have b6 := hd.b6;refine ⟨by show 1 ≤ sizeLine; decide, fun l1 hl1 => ?_⟩;have s1 := Same.new hl1 (.lst [.int 0]);have g1 : upd H l1 (.lst [.int 0]) l1 = some (.lst [.int 0]) := zf;generalize upd H l1 (.lst [.int 0]) = H1 at s1 g1 ⊢;refine ⟨_, rfl, a, _, _, _, rfl, rfl, SqT.of (s1 _ _ ha), rfl, as, ss, rfl, .inr (SqT.of (s1 _ _ has)), l1, _, _, rfl, rfl, g1, by omega, by omega, by show 1 * ((ss.length : Nat) : Int).toNat ≤ sizeLine; exact zy (by omega), fun l2 hl2 => ?_⟩;have e1 : (List.replicate ((ss.length : Nat) : Int).toNat [V.int 0]).flatten = (zs dss.length).map V.int := by rw [bw, hn]; exact zoh _
 rw [e1];have s2 := Same.new hl2 (.lst ((zs dss.length).map V.int));have g2 : upd H1 l2 (.lst ((zs dss.length).map V.int)) l2 = some (.lst ((zs dss.length).map V.int)) := zf;generalize upd H1 l2 (.lst ((zs dss.length).map V.int)) = H2 at s2 g2 ⊢;refine ⟨l2, _, rfl, .inl ⟨SqL.of g2, fun l3 hl3 => ?_⟩⟩;have s3 := Same.new hl3 (.tup ((zs dss.length).map V.int));have g3 : upd H2 l3 (.tup ((zs dss.length).map V.int)) l3 = some (.tup ((zs dss.length).map V.int)) := zf;generalize upd H2 l3 (.tup ((zs dss.length).map V.int)) = H3 at s3 g3 ⊢;refine ⟨by show 1 ≤ sizeLine; decide, fun l4 hl4 => ?_⟩;have s4 := Same.new hl4 (.lst [.int 0]);have g4 : upd H3 l4 (.lst [.int 0]) l4 = some (.lst [.int 0]) := zf;generalize upd H3 l4 (.lst [.int 0]) = H4 at s4 g4 ⊢;have S4 := s1.trans (s2.trans (s3.trans s4));refine ⟨_, rfl, a, _, _, _, rfl, rfl, SqT.of (S4 _ _ ha), rfl, l4, _, _, rfl, rfl, g4, by omega, by omega, by show 1 * bx.toNat ≤ sizeLine; exact zy (by omega), fun l5 hl5 => ?_⟩;rw [zoh];have s5 := Same.new hl5 (.lst ((zs bx.toNat).map V.int));have g5 : upd H4 l5 (.lst ((zs bx.toNat).map V.int)) l5 = some (.lst ((zs bx.toNat).map V.int)) := zf;generalize upd H4 l5 (.lst ((zs bx.toNat).map V.int)) = H5 at s5 g5 ⊢;refine ⟨l5, _, rfl, .inl ⟨SqL.of g5, fun l6 hl6 => ?_⟩⟩;have s6 := Same.new hl6 (.tup ((zs bx.toNat).map V.int));have g6 : upd H5 l6 (.tup ((zs bx.toNat).map V.int)) l6 = some (.tup ((zs bx.toNat).map V.int)) := zf;generalize upd H5 l6 (.tup ((zs bx.toNat).map V.int)) = H6 at s6 g6 ⊢;refine ⟨(by show 2 ≤ sizeLine; decide), fun l7 hl7 => ?_⟩;exact kk _ _ (S4.trans (s5.trans (s6.trans (Same.new hl7 _)))) (Ze (s6 _ _ (s5 _ _ (s4 _ _ g3))) g6 hl7)
theorem zgd : FnScope ["house", "stand"] ["house", "stand"] (zj X7) := ⟨rfl, rfl, rfl, by decide +kernel, rfl, by decide +kernel, by decide +kernel⟩
theorem za7 {dss : List (List Dd)} (i : Nat) : (((List.range (i + 1)).map fun (j : Nat) => (j : Int)).filter fun h => (yt dss ps ns h).isSome) = (((List.range i).map fun (j : Nat) => (j : Int)).filter fun h => (yt dss ps ns h).isSome) ++ if (yt dss ps ns (i : Int)).isSome = true then [(i : Int)] else [] := by
 rw [List.range_succ, al, List.filter_append];congr 1;show List.filter _ [(i : Int)] = _;rw [List.filter_cons];rfl
theorem zg9 (D : Def K mg "going" X7) (T : Txt K mg) (o1 : Ok P w K mg base "may_go_on" 3 ["house", "stand", "hand"] zja) : Ok P w K mg base "going" 4 ["house", "stand"] zjc := by
 refine xx D zgd (fun _ _ _ _ _ _ us hl => (match us, hl with | [_, _], _ => rfl)) (fun vs H Q E ⟨_, _, _, _, _, _, e, _⟩ => by rw [e]; rfl) fun f cdv A outer s H vs Q E hr h => ?_;obtain ⟨bx, dss, ps, ns, vh, vst, rfl, A, kk⟩ := h;refine ⟨_, zi (zp (wc (own := ["hand"]) (cap := [0, 1]) rfl (yg (zj X7) rfl rfl (by decide +kernel) (by decide +kernel) (by decide +kernel) ⟨⟨_, rfl, .inl rfl, xr rfl⟩, ⟨_, rfl, .inl rfl, xr rfl⟩, trivial⟩)
  (xu rfl T.range (zc (zn zq (by rfl) T.len yd (zc (zo zl (pv 0) (yx T.SCRIPTS) (fun _ _ => rfl)) zd)) zd))
  (fun _ _ _ _ => zu (i := 0) (by show (["hand", "house", "stand"] : List Str).Nodup; decide +kernel) rfl (Or.inl rfl))
  (fun _ _ _ _ => Zh (yh (zx o1 hr (zc (pv 1) (zc (pv 2) (zc (pv 0) zd))))))
  (fun _ _ _ _ => pv 0))), ?_⟩
 obtain ⟨a, as, ss, e0, ha, has, hl, hn⟩ := v6 A.ih;subst e0;have n4 := A.hd.n4;refine ⟨_, rfl, a, _, _, _, rfl, rfl, SqT.of ha, rfl, as, ss, rfl, .inr (SqT.of has), _, rfl, by omega, by omega, ?_⟩;refine je (lo := 0) (n := ((ss.length : Nat) : Int).toNat) (fun j ys H' => Same H H' ∧ ys = (((List.range j).map fun (i : Nat) => (i : Int)).filter fun h => (yt dss ps ns h).isSome).map V.int) ⟨Same.refl H, rfl⟩
  (fun j ys H' hj ⟨_, e⟩ => ?_) ?_ ?_
 · rw [e, a7];refine ay (dw _ _) ?_;rw [a7, cq];exact zy (by omega)
 · rintro j ys H' hj ⟨s1, rfl⟩;refine ⟨_, rfl, _, rfl, _, rfl, bx, dss, ps, ns, _, _, _, rfl, A.same s1, fun H2 s2 => ⟨_, rfl, ?_⟩⟩;rw [Int.zero_add];refine y0 (fun z => ?_) (fun z => ?_)
   · refine ⟨_, rfl, s1.trans s2, ?_⟩;rw [za7, if_pos z, al];rfl
   · refine ⟨s1.trans s2, ?_⟩;rw [za7, if_neg z, cw]
 · rintro ys H' ⟨s1, rfl⟩ l hl;have e : ((List.range ((ss.length : Nat) : Int).toNat).map fun (i : Nat) => (i : Int)).filter (fun h => (yt dss ps ns h).isSome) = due dss ps ns := by
    unfold due;rw [bw, hn]
   rw [e];refine kk l _ (s1.trans (Same.new hl _)) ?_ zf;cases z : H l with
   | none => rfl
   | some o => rw [s1 _ _ z] at hl; cases hl
abbrev Jl : Stmt := top 29
abbrev Jh : Stmt := top 61
theorem Same.fresh {p : Addr} {o : HO} (s : Same H H') (h : H p = none) : Same H (upd H' p o) := fun b u e => by
 rw [zk (zm e h)]; exact s b u e
structure Two (H : Hp) (lp ln : Addr) (H' : Hp) (ps ns : List Int) : Prop where
 s : Same H H'
 np : H lp = none
 nn : H ln = none
 ne : lp ≠ ln
 p : H' lp = some (.lst (ps.map V.int))
 n : H' ln = some (.lst (ns.map V.int))
theorem Two.setP {qs : List Int} (t : Two H lp ln H' ps ns) : Two H lp ln (upd H' lp (.lst (qs.map V.int))) qs ns :=
 ⟨Same.fresh t.s t.np, t.np, t.nn, t.ne, zf, by rw [zk (ae t.ne)]; exact t.n⟩
theorem Two.setN {ms : List Int} (t : Two H lp ln H' ps ns) : Two H lp ln (upd H' ln (.lst (ms.map V.int))) ps ms :=
 ⟨Same.fresh t.s t.nn, t.np, t.nn, t.ne, by rw [zk t.ne]; exact t.p, zf⟩
theorem Yr {n : Nat} (h : k < n) : ixN n (k : Int) = some k := by
 unfold ixN;rw [if_pos (by omega), if_pos (by omega), bw]
theorem Kb (h0 : 0 ≤ b) (h : b.toNat < xs.length) : ixN (xs.map V.int).length b = some b.toNat := by
 rw [a7]
 conv => lhs; rw [show b = ((b.toNat : Nat) : Int) from by omega]
 exact Yr h
theorem Vp (h0 : 0 ≤ b) (h : b.toNat < xs.length) : atI (xs.map V.int) b = some (.int (xs.getD b.toNat 0)) := by
 conv => lhs; rw [show b = ((b.toNat : Nat) : Int) from by omega]
 exact yo (w9 h)
theorem Qo {w : Str} : (nP w b n ns).length = ns.length := by unfold nP; split <;> simp
theorem Qn {w : Str} : (nR w b n ns).length = ns.length := by unfold nR; split <;> simp
theorem zbq {x : Int} (h : k < ps.length) : (ps.set k x).getD k 0 = x := by
 rw [aq, List.getElem?_set_self h]; rfl
theorem Xp : (decide (V.str "say" = V.str "put") = false) ∧ (decide (V.str "say" = V.str "raise") = false) ∧ (decide (V.str "say" = V.str "skip") = false) ∧ (decide (V.str "say" = V.str "same") = false) := by decide +kernel
noncomputable def zlu : Sp := fun vs H Q _ => ∃ bx dss ps ns vh vst, ∃ k : Nat, ∃ d, vs = [vh, vst, .int (k : Int)] ∧ At H bx dss ps ns vh vst ∧ k < dss.length ∧ cur dss ps k = some d ∧ ∀ v H', Same H H' → Is H' (tt (ps.set k (ps.getD k 0 + 1 + qr d ns)) (Kj d ns)) v → Q v H'
noncomputable def zda : Sp := fun vs H Q _ => ∃ bx dss ps ns vh vst, ∃ h : Int, vs = [vh, vst, .int h] ∧ At H bx dss ps ns vh vst ∧ (yt dss ps ns h = none → ∀ H', Same H H' → Q .non H') ∧ ∀ qs ms v H', yt dss ps ns h = some (qs, ms) → Same H H' → Is H' (tt qs ms) v → Q v H'
theorem Kw : FnScope ["house", "stand", "hand", "deed", "places", "numbers"] ["house", "stand", "hand"] (zj Jl) := ⟨rfl, rfl, rfl, by decide +kernel, rfl, by decide +kernel, by decide +kernel⟩
theorem zg7 (D : Def K mg "moved" Jl) (T : Txt K mg) (o1 : Ok P w K mg base "next_deed" 1 ["house", "stand", "hand"] zi9) : Ok P w K mg base "moved" 2 ["house", "stand", "hand"] zlu := by
 refine xx D Kw (fun _ _ _ _ _ _ us hl => (match us, hl with | [_, _, _], _ => rfl)) (fun vs H Q E ⟨_, _, _, _, _, _, _, _, e, _⟩ => by rw [e]; rfl) fun f cdv A outer s H vs Q E hr h => ?_;obtain ⟨bx, dss, ps, ns, vh, vst, k, d, rfl, A, hk, hcur, kk⟩ := h;have nd := Kw.nd;have hkp : k < ps.length := by rw [A.sd.lp]; exact hk
 refine ⟨_, ze (ya (i := 3) nd rfl (Or.inl rfl) (zx o1 hr (zc (pv 0) (zc (pv 1) (zc (pv 2) zd)))))
  (ze (ya (i := 4) nd rfl (Or.inl rfl) (yp v7 rfl T.list vd (zc (zo zl (pv 1) (yx T.PLACES) (fun _ _ => rfl)) zd)))
  (ze (ya (i := 5) nd rfl (Or.inl rfl) (yp v7 rfl T.list vd (zc (zo zl (pv 1) (yx T.NUMBERS) (fun _ _ => rfl)) zd)))
  (ze (zdh (pv 4) (pv 2) za2 zh zh1 wt)
  (ze (yc (zw wa (zo zl (pv 3) zh (fun _ _ => rfl)) yi (zt _)) (zi (ql (zo zl (pv 3) zh (fun _ _ => rfl)) (j7 (pv 5) (zo zl (pv 3) zh (fun _ _ => rfl)) wt))) zr)
  (ze (yc (zw wa (zo zl (pv 3) zh (fun _ _ => rfl)) yi (zt _)) (zi (ql (yb jn (yb xt (zo yn (pv 5) (zo zl (pv 3) zh (fun _ _ => rfl)) (fun _ _ => rfl)) (zo zl (pv 3) zh (fun _ _ => rfl))) (yb xt (yx T.MOST_NUMBER) zh)) (j7 (pv 5) (zo zl (pv 3) zh (fun _ _ => rfl)) wt))) zr)
  (ze (yc (PW.pt (Zu (zw wa (zo zl (pv 3) zh (fun _ _ => rfl)) yi (zt _)) (j6 (zw wa (zo yn (pv 5) (zo zl (pv 3) zh (fun _ _ => rfl)) (fun _ _ => rfl)) (zo zl (pv 3) zh (fun _ _ => rfl)) (zt _))))) (zi (zdh (pv 4) (pv 2) za2 (zo zl (pv 3) zh (fun _ _ => rfl)) zh1 wt)) zr)
  (zi (zp (w6 (zc (yp xa rfl T.tuple xw (zc (pv 4) zd)) (zc (yp xa rfl T.tuple xw (zc (pv 5) zd)) zd))))))))))), ?_⟩
 refine ⟨_, rfl, _, rfl, _, rfl, bx, dss, ps, ns, _, _, k, rfl, A, hk, fun e => (by rw [hcur] at e; cases e), fun d' v e iv => ?_⟩;rw [hcur] at e;cases e;obtain ⟨c, p, q, e1, hc, hp, hq⟩ := qk A.is;refine ⟨_, rfl, c, _, _, _, e1, rfl, SqT.of hc, rfl, p, _, rfl, .inr (SqT.of hp), fun lp hlp => ?_⟩;have s1 := Same.new hlp (.lst (ps.map V.int));have g1 : upd H lp (.lst (ps.map V.int)) lp = some (.lst (ps.map V.int)) := zf;generalize hH0 : upd H lp (.lst (ps.map V.int)) = H0 at s1 g1 ⊢;refine ⟨_, rfl, c, _, _, _, e1, rfl, SqT.of (s1 _ _ hc), rfl, q, _, rfl, .inr (SqT.of (s1 _ _ hq)), fun ln hln => ?_⟩;have t0 : Two H lp ln (upd H0 ln (.lst (ns.map V.int))) ps ns := by
  have hn : H ln = none := by
   cases z : H ln with
   | none => rfl
   | some o => rw [s1 _ _ z] at hln; cases hln
  have ne : lp ≠ ln := fun z => by rw [← z, g1] at hln; cases hln
  exact ⟨s1.trans (Same.new hln _), hlp, hn, ne, by rw [zk ne]; exact g1, zf⟩
 generalize upd H0 ln (.lst (ns.map V.int)) = H1 at t0 ⊢;refine ⟨_, rfl, _, rfl, lp, _, _, .int (ps.getD k 0), rfl, rfl, by omega, SqL.of t0.p, (by rw [bw]; exact w9 hkp), _, _, rfl, rfl, lp, _, _, k, rfl, rfl, t0.p, (by rw [a7]; exact Yr hkp), ?_⟩;rw [jk];have t1 : Two H lp ln (upd H1 lp (.lst ((ps.set k (ps.getD k 0 + 1)).map V.int))) (ps.set k (ps.getD k 0 + 1)) ns := t0.setP;generalize upd H1 lp (.lst ((ps.set k (ps.getD k 0 + 1)).map V.int)) = H1 at t1 ⊢;cases d with
 | say x =>
   obtain ⟨ad, rfl, had⟩ := Vh iv;dsimp only [wz, Xu, Y5, tC, kj];have hd1 := t1.s _ _ had;refine ⟨_, rfl, ad, _, _, _, rfl, rfl, SqT.of hd1, at0, rfl, _, rfl, ?_⟩;rw [Xp.1];refine ye ?_;refine ⟨_, rfl, ad, _, _, _, rfl, rfl, SqT.of hd1, at0, rfl, _, rfl, ?_⟩;rw [Xp.2.1];refine ye ?_;refine ⟨_, rfl, ad, _, _, _, rfl, rfl, SqT.of hd1, at0, rfl, _, rfl, ?_⟩;rw [Xp.2.2.1];refine ye (ye ?_);have e0 : ps.getD k 0 + 1 + qr (.say x) ns = ps.getD k 0 + 1 := Int.add_zero _;have t4 := t1;rw [e0] at kk;refine ⟨_, rfl, lp, _, rfl, .inl ⟨SqL.of t4.p, fun l7 hl7 => ?_⟩⟩;have s7 := Same.new hl7 (.tup ((ps.set k (ps.getD k 0 + 1)).map V.int));have g7 : upd H1 l7 (.tup ((ps.set k (ps.getD k 0 + 1)).map V.int)) l7 = some (.tup ((ps.set k (ps.getD k 0 + 1)).map V.int)) := zf;have n7 := s7 _ _ t4.n;generalize upd H1 l7 (.tup ((ps.set k (ps.getD k 0 + 1)).map V.int)) = H7 at s7 g7 n7 ⊢;refine ⟨_, rfl, ln, _, rfl, .inl ⟨SqL.of n7, fun l8 hl8 => ?_⟩⟩;have s8 := Same.new hl8 (.tup ((ns).map V.int));have g8 : upd H7 l8 (.tup ((ns).map V.int)) l8 = some (.tup ((ns).map V.int)) := zf;generalize upd H7 l8 (.tup ((ns).map V.int)) = H8 at s8 g8 ⊢;refine ⟨(by show 2 ≤ sizeLine; decide), fun l9 hl9 => ?_⟩;exact kk _ _ (t4.s.trans (s7.trans (s8.trans (Same.new hl9 _)))) (Ze (s8 _ _ g7) g8 hl9)
 | act w b n r =>
   obtain ⟨ad, vs, rfl, had, ivs⟩ := Vi iv;obtain ⟨b0, b1, hsk⟩ := jq A.hd hcur;have hbn : b.toNat < ns.length := by rw [A.sd.ln]; omega
   dsimp only [wz, Xu, Y5, tC, kj];refine jg (t := Vt _ _ _) (fun σ' H' => σ' = [some vh, some vst, some (.int (k : Int)), some (.ref ad), some (.ref lp), some (.ref ln)] ∧ Two H lp ln H' (ps.set k (ps.getD k 0 + 1)) (nP w b n ns)) ?_ (fun fin => ?_);rotate_left
   · have hd1 := t1.s _ _ had;refine ⟨_, rfl, ad, _, _, _, rfl, rfl, SqT.of hd1, at0, rfl, _, rfl, y0 (fun z => ?_) (fun z => ?_)⟩
     · refine ⟨_, rfl, ad, _, _, _, rfl, rfl, SqT.of hd1, at2, _, rfl, _, rfl, ad, _, _, _, rfl, rfl, SqT.of hd1, at1, ln, _, _, _, rfl, rfl, t1.n, Kb b0 hbn, fin _ _ ⟨rfl, ?_⟩⟩;rw [show nP w b n ns = ns.set b.toNat n from if_pos z, jk];exact t1.setN
     · refine fin _ _ ⟨rfl, ?_⟩;rw [show nP w b n ns = ns from if_neg z];exact t1
   rintro σ' H2 ⟨rfl, t2⟩;have hbn2 : b.toNat < (nP w b n ns).length := by rw [Qo]; exact hbn
   dsimp only [wz, Xu, Y5, tC, kj];refine jg (t := Vt _ _ _) (fun σ' H' => σ' = [some vh, some vst, some (.int (k : Int)), some (.ref ad), some (.ref lp), some (.ref ln)] ∧ Two H lp ln H' (ps.set k (ps.getD k 0 + 1)) (nR w b n (nP w b n ns))) ?_ (fun fin => ?_);rotate_left
   · have hd1 := t2.s _ _ had;refine ⟨_, rfl, ad, _, _, _, rfl, rfl, SqT.of hd1, at0, rfl, _, rfl, y0 (fun z => ?_) (fun z => ?_)⟩
     · refine ⟨_, rfl, _, rfl, ad, _, _, _, rfl, rfl, SqT.of hd1, at1, ln, _, _, _, rfl, rfl, SqL.of t2.n, Vp b0 hbn2, _, rfl, ad, _, _, _, rfl, rfl, SqT.of hd1, at2, _, _, rfl, rfl, _, _, rfl, rfl, _, _, rfl, rfl, (by show (0 : Int) < _; decide), ?_⟩;refine ⟨_, rfl, _, rfl, ad, _, _, _, rfl, rfl, SqT.of hd1, at1, ln, _, _, _, rfl, rfl, t2.n, Kb b0 hbn2, fin _ _ ⟨rfl, ?_⟩⟩;rw [show nR w b n (nP w b n ns) = (nP w b n ns).set b.toNat (((nP w b n ns).getD b.toNat 0 + n) % 10) from if_pos z, jk];exact t2.setN
     · refine fin _ _ ⟨rfl, ?_⟩;rw [show nR w b n (nP w b n ns) = nP w b n ns from if_neg z];exact t2
   rintro σ' H3 ⟨rfl, t3⟩;have hbn3 : b.toNat < (nR w b n (nP w b n ns)).length := by rw [Qn]; exact hbn2
   dsimp only [wz, Xu, Y5, tC, kj];refine jg (t := Vt _ _ _) (fun σ' H' => σ' = [some vh, some vst, some (.int (k : Int)), some (.ref ad), some (.ref lp), some (.ref ln)] ∧ Two H lp ln H' (ps.set k (ps.getD k 0 + 1 + pS w b n r (nR w b n (nP w b n ns)))) (nR w b n (nP w b n ns))) ?_ (fun fin => ?_);rotate_left
   · have hd1 := t3.s _ _ had;have no : (wEq w "skip" && iEq ((nR w b n (nP w b n ns)).getD b.toNat 0) n) = false → Two H lp ln H3 (ps.set k (ps.getD k 0 + 1 + pS w b n r (nR w b n (nP w b n ns)))) (nR w b n (nP w b n ns)) := fun z => by
      unfold pS;rw [z, if_neg (by decide), Int.add_zero];exact t3
     refine ⟨_, rfl, ad, _, _, _, rfl, rfl, SqT.of hd1, at0, rfl, _, rfl, y0 (fun z => ?_) (fun z => ?_)⟩
     · refine ⟨_, rfl, _, rfl, ad, _, _, _, rfl, rfl, SqT.of hd1, at1, ln, _, _, _, rfl, rfl, SqL.of t3.n, Vp b0 hbn3, _, rfl, ad, _, _, _, rfl, rfl, SqT.of hd1, at2, rfl, _, rfl, y0 (fun z2 => ?_) (fun z2 => ?_)⟩
       · obtain ⟨m, hm, er⟩ := hsk z;subst er;obtain ⟨v3, q3, rfl, i3, hnil⟩ := ivs;cases (show q3 = [] from hnil);cases (show v3 = .int m from i3);have hkk : k < (ps.set k (ps.getD k 0 + 1)).length := by rw [List.length_set]; exact hkp
         have eS : pS w b n [.int m] (nR w b n (nP w b n ns)) = m := by
          unfold pS;rw [if_pos (by rw [bc]; exact ⟨z, z2⟩)];rfl
         rw [eS] at fin;refine ⟨_, rfl, _, rfl, lp, _, _, .int ((ps.set k (ps.getD k 0 + 1)).getD k 0), rfl, rfl, by omega, SqL.of t3.p, (by rw [bw]; exact w9 hkk), _, rfl, ad, _, _, _, rfl, rfl, SqT.of hd1, at3, _, _, rfl, rfl, lp, _, _, k, rfl, rfl, t3.p, (by rw [a7]; exact Yr hkk), fin _ _ ⟨rfl, ?_⟩⟩;rw [jk, List.set_set, zbq hkp];exact t3.setP
       · refine fin _ _ ⟨rfl, no ?_⟩;rw [Bool.and_eq_false_iff];exact .inr (by simpa using z2)
     · refine ye (fin _ _ ⟨rfl, no ?_⟩);rw [Bool.and_eq_false_iff];exact .inl (by simpa using z)
   rintro σ' H4 ⟨rfl, t4⟩;refine ⟨_, rfl, lp, _, rfl, .inl ⟨SqL.of t4.p, fun l7 hl7 => ?_⟩⟩;have s7 := Same.new hl7 (.tup ((ps.set k (ps.getD k 0 + 1 + pS w b n r (nR w b n (nP w b n ns)))).map V.int));have g7 : upd H4 l7 (.tup ((ps.set k (ps.getD k 0 + 1 + pS w b n r (nR w b n (nP w b n ns)))).map V.int)) l7 = some (.tup ((ps.set k (ps.getD k 0 + 1 + pS w b n r (nR w b n (nP w b n ns)))).map V.int)) := zf;have n7 := s7 _ _ t4.n;generalize upd H4 l7 (.tup ((ps.set k (ps.getD k 0 + 1 + pS w b n r (nR w b n (nP w b n ns)))).map V.int)) = H7 at s7 g7 n7 ⊢;refine ⟨_, rfl, ln, _, rfl, .inl ⟨SqL.of n7, fun l8 hl8 => ?_⟩⟩;have s8 := Same.new hl8 (.tup ((nR w b n (nP w b n ns)).map V.int));have g8 : upd H7 l8 (.tup ((nR w b n (nP w b n ns)).map V.int)) l8 = some (.tup ((nR w b n (nP w b n ns)).map V.int)) := zf;generalize upd H7 l8 (.tup ((nR w b n (nP w b n ns)).map V.int)) = H8 at s8 g8 ⊢;refine ⟨(by show 2 ≤ sizeLine; decide), fun l9 hl9 => ?_⟩;exact kk _ _ (t4.s.trans (s7.trans (s8.trans (Same.new hl9 _)))) (Ze (s8 _ _ g7) g8 hl9)
theorem zf6 {t1 : TT} {tn : TS} {D : Ends} {c : Bool} (h1 : ∀ Q : Bool → Hp → Prop, Q c H → t1 σ H Q) (h2 : c = true → D.rt .non H) (h3 : c = false → tn D σ H) : Vt t1 (zng (tC .non)) tn D σ H := by
 refine h1 _ ?_;cases c with
 | true => exact xi (h2 rfl)
 | false => exact ye (h3 rfl)
theorem Ku : FnScope ["house", "stand", "hand", "places", "boxes", "deed", "there", "have"] ["house", "stand", "hand"] (zj Jh) := ⟨rfl, rfl, rfl, by decide +kernel, rfl, by decide +kernel, by decide +kernel⟩
theorem zg3 (D : Def K mg "_law_e_step" Jh) (T : Txt K mg) : Ok P w K mg base "_law_e_step" 1 ["house", "stand", "hand"] zda := by
 refine xx D Ku (fun _ _ _ _ _ _ us hl => (match us, hl with | [_, _, _], _ => rfl)) (fun vs H Q E ⟨_, _, _, _, _, _, _, e, _⟩ => by rw [e]; rfl) fun f cdv A outer s H vs Q E hr h => ?_;obtain ⟨bx, dss, ps, ns, vh, vst, h, rfl, A, kn, ks⟩ := h;have nd := Ku.nd;refine ⟨_, ze (ql (pv 1) (qo rfl (yl (zu (i := 3) nd rfl (Or.inl rfl)) (yl (zu (i := 4) nd rfl (Or.inl rfl)) vc))))
  (ze (yc (PW.pt (wj (zw Yn (pv 2) zh (zt _)) (wj (zw zdl (pv 2) (zn zq (by rfl) T.len yd (zc (pv 3) zd)) (zt _)) (wf (zw zdl (zo zl (pv 3) (pv 2) (fun _ _ => rfl)) (zn zq (by rfl) T.len yd (zc (zo zl (zo zl (pv 0) zh (fun _ _ => rfl)) (pv 2) (fun _ _ => rfl)) zd)) (zt _)))))) (zi (zp wk)) zr)
  (ze (ya (i := 5) nd rfl (Or.inl rfl) (zo zl (zo zl (zo zl (pv 0) zh (fun _ _ => rfl)) (pv 2) (fun _ _ => rfl)) (zo zl (pv 3) (pv 2) (fun _ _ => rfl)) (fun _ _ => rfl)))
  (ze (yc (PW.pt (Zu (zw wa (zo zl (pv 5) zh (fun _ _ => rfl)) yi (zt _)) (j6 (zw ka (zo zl (pv 4) (zo zl (pv 5) zh (fun _ _ => rfl)) (fun _ _ => rfl)) (zo zl (pv 5) zh (fun _ _ => rfl)) (zt _))))) (zi (zp wk)) zr)
  (ze (ya (i := 6) nd rfl (Or.inl rfl) (yp v7 rfl T.list vd (zc (pv 3) zd)))
  (ze (ya (i := 7) nd rfl (Or.inl rfl) (yp v7 rfl T.list vd (zc (pv 4) zd)))
  (ze (ql (yb xt (zo yn (pv 6) (pv 2) (fun _ _ => rfl)) zh) (j7 (pv 6) (pv 2) wt))
  (ze (yc (zw wa (zo zl (pv 5) zh (fun _ _ => rfl)) yi (zt _)) (zi (ql (zo zl (pv 5) zh (fun _ _ => rfl)) (j7 (pv 7) (zo zl (pv 5) zh (fun _ _ => rfl)) wt))) zr)
  (ze (yc (zw wa (zo zl (pv 5) zh (fun _ _ => rfl)) yi (zt _)) (zi (ql (yb jn (yb xt (zo yn (pv 7) (zo zl (pv 5) zh (fun _ _ => rfl)) (fun _ _ => rfl)) (zo zl (pv 5) zh (fun _ _ => rfl))) zh) (j7 (pv 7) (zo zl (pv 5) zh (fun _ _ => rfl)) wt))) zr)
  (ze (yc (PW.pt (Zu (zw wa (zo zl (pv 5) zh (fun _ _ => rfl)) yi (zt _)) (j6 (zw wa (zo yn (pv 7) (zo zl (pv 5) zh (fun _ _ => rfl)) (fun _ _ => rfl)) (zo zl (pv 5) zh (fun _ _ => rfl)) (zt _))))) (zi (ql (yb xt (zo yn (pv 6) (pv 2) (fun _ _ => rfl)) (zo zl (pv 5) zh (fun _ _ => rfl))) (j7 (pv 6) (pv 2) wt))) zr)
  (zi (zp (w6 (zc (yp xa rfl T.tuple xw (zc (pv 6) zd)) (zc (yp xa rfl T.tuple xw (zc (pv 7) zd)) zd)))))))))))))), ?_⟩
 obtain ⟨c, p, q, e1, hc, hp, hq⟩ := qk A.is;refine ⟨_, rfl, c, _, e1, SqT.of hc, rfl, _, _, rfl, _, _, rfl, rfl, ?_⟩;obtain ⟨a, as, ss, e0, ha, has, hl, hn⟩ := v6 A.ih;have S := Same.refl H;refine ⟨_, rfl, _, _, rfl, rfl, _, rfl, y0 (fun z => ?_) (fun z => ?_)⟩
 · have z := bp z;exact xi (kn (Yb (.inl z)) H S)
 have z : ¬ h < 0 := fun y => z (ai y);refine ⟨_, rfl, _, rfl, p, _, rfl, .inr (SqT.of hp), _, _, rfl, rfl, _, rfl, y0 (fun z2 => ?_) (fun z2 => ?_)⟩
 · have z2 := bp z2;rw [a7, A.sd.lp] at z2;exact xi (kn (Yb (.inr z2)) H S)
 have z2 : ¬ h ≥ ((ps.map V.int).length : Int) := fun y => z2 (ai y);rw [a7, A.sd.lp] at z2;obtain ⟨k, rfl⟩ := Int.eq_ofNat_of_zero_le (show 0 ≤ h by omega);have hk : k < dss.length := by omega
 have hkp : k < ps.length := by rw [A.sd.lp]; exact hk
 have h0 := qy A.sd.p0 k;obtain ⟨b, xs, eb, hb, hxs, hxn⟩ := Wu hl hk;refine ⟨_, rfl, _, rfl, p, _, _, _, rfl, rfl, SqT.of hp, yo (w9 hkp), _, rfl, a, _, _, _, e0, rfl, SqT.of ha, rfl, _, rfl, as, ss, _, _, rfl, rfl, SqT.of has, yo eb, b, xs, rfl, .inr (SqT.of hb), _, _, rfl, rfl, _, rfl, y0 (fun z3 => ?_) (fun z3 => ?_)⟩
 · have z3 := bp z3;refine kn (Wj hk ?_) H S;unfold cur;rw [dz];omega
 have z3 : ¬ ps.getD k 0 ≥ (xs.length : Int) := fun y => z3 (ai y);have hi : (ps.getD k 0).toNat < (dss.getD k []).length := by omega
 have hcur : cur dss ps k = some ((dss.getD k [])[(ps.getD k 0).toNat]) := ah hi;obtain ⟨v, ev, iv⟩ := hxs.get (i := (ps.getD k 0).toNat) (t := ((dss.getD k [])[(ps.getD k 0).toNat]).t) (by rw [ao, ah hi]; rfl);refine ⟨_, rfl, a, _, _, _, e0, rfl, SqT.of ha, rfl, _, rfl, as, ss, _, _, rfl, rfl, SqT.of has, yo eb, _, rfl, _, rfl, p, _, _, _, rfl, rfl, SqT.of hp, yo (w9 hkp), b, xs, _, v, rfl, rfl, SqT.of hb, (by rw [show ps.getD k 0 = (((ps.getD k 0).toNat : Nat) : Int) from by omega]; exact yo ev), ?_⟩;generalize (dss.getD k [])[(ps.getD k 0).toNat] = d at hcur iv;have ks : ∀ v H', stops ns d = false → Same H H' → Is H' (tt (ps.set k (ps.getD k 0 + 1 + qr d ns)) (Kj d ns)) v → Q v H' := fun v H' e s i => ks _ _ v H' (by rw [X5 hk hcur, e]; rfl) s i;have kn : stops ns d = true → Q .non H := fun e => kn (by rw [X5 hk hcur, e]; rfl) H S;dsimp only [wz, Xu, Y5];refine zf6 (c := stops ns d) ?_ ?_ (fun hgo => ?_);rotate_left
 · exact kn
 rotate_left
 · cases d with
   | say x =>
     obtain ⟨ad, rfl, had⟩ := Vh iv;intro Q' q;refine ⟨_, rfl, ad, _, _, _, rfl, rfl, SqT.of had, at0, rfl, _, rfl, ?_⟩;rw [Xp.2.2.2];exact ye q
   | act w b n r =>
     obtain ⟨ad, vs, rfl, had, ivs⟩ := Vi iv;obtain ⟨b0, b1, hsk⟩ := jq A.hd hcur;have hbn : b.toNat < ns.length := by rw [A.sd.ln]; omega
     intro Q' q;have q : Q' (wEq w "same" && !iEq (ns.getD b.toNat 0) n) H := q;refine ⟨_, rfl, ad, _, _, _, rfl, rfl, SqT.of had, at0, rfl, _, rfl, y0 (fun z => ?_) (fun z => ?_)⟩
     · rw [show wEq w "same" = true from z, bi] at q;exact ⟨_, rfl, _, rfl, ad, _, _, _, rfl, rfl, SqT.of had, at1, _, _, _, _, rfl, rfl, SqT.of hq, Vp b0 hbn, _, rfl, ad, _, _, _, rfl, rfl, SqT.of had, at2, rfl, _, rfl, q⟩
     · rw [show wEq w "same" = false by simpa using z, cg] at q;exact q
 refine ⟨_, rfl, p, _, rfl, .inr (SqT.of hp), fun lp hlp => ?_⟩;have s1 := Same.new hlp (.lst (ps.map V.int));have g1 : upd H lp (.lst (ps.map V.int)) lp = some (.lst (ps.map V.int)) := zf;generalize hH0 : upd H lp (.lst (ps.map V.int)) = H0 at s1 g1 ⊢;refine ⟨_, rfl, q, _, rfl, .inr (SqT.of (s1 _ _ hq)), fun ln hln => ?_⟩;have t0 : Two H lp ln (upd H0 ln (.lst (ns.map V.int))) ps ns := by
  have hn : H ln = none := by
   cases z : H ln with
   | none => rfl
   | some o => rw [s1 _ _ z] at hln; cases hln
  have ne : lp ≠ ln := fun z => by rw [← z, g1] at hln; cases hln
  exact ⟨s1.trans (Same.new hln _), hlp, hn, ne, by rw [zk ne]; exact g1, zf⟩
 generalize upd H0 ln (.lst (ns.map V.int)) = H1 at t0 ⊢;refine ⟨_, rfl, _, rfl, lp, _, _, _, rfl, rfl, SqL.of t0.p, yo (w9 hkp), _, _, rfl, rfl, _, rfl, _, rfl, lp, _, _, k, rfl, rfl, t0.p, (by rw [a7]; exact Yr hkp), ?_⟩;rw [jk];have t1 : Two H lp ln (upd H1 lp (.lst ((ps.set k (ps.getD k 0 + 1)).map V.int))) (ps.set k (ps.getD k 0 + 1)) ns := t0.setP;generalize upd H1 lp (.lst ((ps.set k (ps.getD k 0 + 1)).map V.int)) = H1 at t1 ⊢;cases d with
 | say x =>
   obtain ⟨ad, rfl, had⟩ := Vh iv;dsimp only [wz, Xu, Y5, tC, kj];have hd1 := t1.s _ _ had;refine ⟨_, rfl, ad, _, _, _, rfl, rfl, SqT.of hd1, at0, rfl, _, rfl, ?_⟩;rw [Xp.1];refine ye ?_;refine ⟨_, rfl, ad, _, _, _, rfl, rfl, SqT.of hd1, at0, rfl, _, rfl, ?_⟩;rw [Xp.2.1];refine ye ?_;refine ⟨_, rfl, ad, _, _, _, rfl, rfl, SqT.of hd1, at0, rfl, _, rfl, ?_⟩;rw [Xp.2.2.1];refine ye (ye ?_);have e0 : ps.getD k 0 + 1 + qr (.say x) ns = ps.getD k 0 + 1 := Int.add_zero _;have t4 := t1;rw [e0] at ks;refine ⟨_, rfl, lp, _, rfl, .inl ⟨SqL.of t4.p, fun l7 hl7 => ?_⟩⟩;have s7 := Same.new hl7 (.tup ((ps.set k (ps.getD k 0 + 1)).map V.int));have g7 : upd H1 l7 (.tup ((ps.set k (ps.getD k 0 + 1)).map V.int)) l7 = some (.tup ((ps.set k (ps.getD k 0 + 1)).map V.int)) := zf;have n7 := s7 _ _ t4.n;generalize upd H1 l7 (.tup ((ps.set k (ps.getD k 0 + 1)).map V.int)) = H7 at s7 g7 n7 ⊢;refine ⟨_, rfl, ln, _, rfl, .inl ⟨SqL.of n7, fun l8 hl8 => ?_⟩⟩;have s8 := Same.new hl8 (.tup ((ns).map V.int));have g8 : upd H7 l8 (.tup ((ns).map V.int)) l8 = some (.tup ((ns).map V.int)) := zf;generalize upd H7 l8 (.tup ((ns).map V.int)) = H8 at s8 g8 ⊢;refine ⟨(by show 2 ≤ sizeLine; decide), fun l9 hl9 => ?_⟩;exact ks _ _ hgo (t4.s.trans (s7.trans (s8.trans (Same.new hl9 _)))) (Ze (s8 _ _ g7) g8 hl9)
 | act w b n r =>
   obtain ⟨ad, vs, rfl, had, ivs⟩ := Vi iv;obtain ⟨b0, b1, hsk⟩ := jq A.hd hcur;have hbn : b.toNat < ns.length := by rw [A.sd.ln]; omega
   dsimp only [wz, Xu, Y5, tC, kj];refine jg (t := Vt _ _ _) (fun σ' H' => σ' = [some vh, some vst, some (.int (k : Int)), some (.ref p), some (.ref q), some (.ref ad), some (.ref lp), some (.ref ln)] ∧ Two H lp ln H' (ps.set k (ps.getD k 0 + 1)) (nP w b n ns)) ?_ (fun fin => ?_);rotate_left
   · have hd1 := t1.s _ _ had;refine ⟨_, rfl, ad, _, _, _, rfl, rfl, SqT.of hd1, at0, rfl, _, rfl, y0 (fun z => ?_) (fun z => ?_)⟩
     · refine ⟨_, rfl, ad, _, _, _, rfl, rfl, SqT.of hd1, at2, _, rfl, _, rfl, ad, _, _, _, rfl, rfl, SqT.of hd1, at1, ln, _, _, _, rfl, rfl, t1.n, Kb b0 hbn, fin _ _ ⟨rfl, ?_⟩⟩;rw [show nP w b n ns = ns.set b.toNat n from if_pos z, jk];exact t1.setN
     · refine fin _ _ ⟨rfl, ?_⟩;rw [show nP w b n ns = ns from if_neg z];exact t1
   rintro σ' H2 ⟨rfl, t2⟩;have hbn2 : b.toNat < (nP w b n ns).length := by rw [Qo]; exact hbn
   dsimp only [wz, Xu, Y5, tC, kj];refine jg (t := Vt _ _ _) (fun σ' H' => σ' = [some vh, some vst, some (.int (k : Int)), some (.ref p), some (.ref q), some (.ref ad), some (.ref lp), some (.ref ln)] ∧ Two H lp ln H' (ps.set k (ps.getD k 0 + 1)) (nR w b n (nP w b n ns))) ?_ (fun fin => ?_);rotate_left
   · have hd1 := t2.s _ _ had;refine ⟨_, rfl, ad, _, _, _, rfl, rfl, SqT.of hd1, at0, rfl, _, rfl, y0 (fun z => ?_) (fun z => ?_)⟩
     · refine ⟨_, rfl, _, rfl, ad, _, _, _, rfl, rfl, SqT.of hd1, at1, ln, _, _, _, rfl, rfl, SqL.of t2.n, Vp b0 hbn2, _, rfl, ad, _, _, _, rfl, rfl, SqT.of hd1, at2, _, _, rfl, rfl, _, _, rfl, rfl, (by show (0 : Int) < _; decide), ?_⟩;refine ⟨_, rfl, _, rfl, ad, _, _, _, rfl, rfl, SqT.of hd1, at1, ln, _, _, _, rfl, rfl, t2.n, Kb b0 hbn2, fin _ _ ⟨rfl, ?_⟩⟩;rw [show nR w b n (nP w b n ns) = (nP w b n ns).set b.toNat (((nP w b n ns).getD b.toNat 0 + n) % 10) from if_pos z, jk];exact t2.setN
     · refine fin _ _ ⟨rfl, ?_⟩;rw [show nR w b n (nP w b n ns) = nP w b n ns from if_neg z];exact t2
   rintro σ' H3 ⟨rfl, t3⟩;have hbn3 : b.toNat < (nR w b n (nP w b n ns)).length := by rw [Qn]; exact hbn2
   dsimp only [wz, Xu, Y5, tC, kj];refine jg (t := Vt _ _ _) (fun σ' H' => σ' = [some vh, some vst, some (.int (k : Int)), some (.ref p), some (.ref q), some (.ref ad), some (.ref lp), some (.ref ln)] ∧ Two H lp ln H' (ps.set k (ps.getD k 0 + 1 + pS w b n r (nR w b n (nP w b n ns)))) (nR w b n (nP w b n ns))) ?_ (fun fin => ?_);rotate_left
   · have hd1 := t3.s _ _ had;have no : (wEq w "skip" && iEq ((nR w b n (nP w b n ns)).getD b.toNat 0) n) = false → Two H lp ln H3 (ps.set k (ps.getD k 0 + 1 + pS w b n r (nR w b n (nP w b n ns)))) (nR w b n (nP w b n ns)) := fun z => by
      unfold pS;rw [z, if_neg (by decide), Int.add_zero];exact t3
     refine ⟨_, rfl, ad, _, _, _, rfl, rfl, SqT.of hd1, at0, rfl, _, rfl, y0 (fun z => ?_) (fun z => ?_)⟩
     · refine ⟨_, rfl, _, rfl, ad, _, _, _, rfl, rfl, SqT.of hd1, at1, ln, _, _, _, rfl, rfl, SqL.of t3.n, Vp b0 hbn3, _, rfl, ad, _, _, _, rfl, rfl, SqT.of hd1, at2, rfl, _, rfl, y0 (fun z2 => ?_) (fun z2 => ?_)⟩
       · obtain ⟨m, hm, er⟩ := hsk z;subst er;obtain ⟨v3, q3, rfl, i3, hnil⟩ := ivs;cases (show q3 = [] from hnil);cases (show v3 = .int m from i3);have hkk : k < (ps.set k (ps.getD k 0 + 1)).length := by rw [List.length_set]; exact hkp
         have eS : pS w b n [.int m] (nR w b n (nP w b n ns)) = m := by
          unfold pS;rw [if_pos (by rw [bc]; exact ⟨z, z2⟩)];rfl
         rw [eS] at fin;refine ⟨_, rfl, _, rfl, lp, _, _, _, rfl, rfl, SqL.of t3.p, yo (w9 hkk), _, rfl, ad, _, _, _, rfl, rfl, SqT.of hd1, at3, _, _, rfl, rfl, _, rfl, _, rfl, lp, _, _, k, rfl, rfl, t3.p, (by rw [a7]; exact Yr hkk), fin _ _ ⟨rfl, ?_⟩⟩;rw [jk, List.set_set, zbq hkp];exact t3.setP
       · refine fin _ _ ⟨rfl, no ?_⟩;rw [Bool.and_eq_false_iff];exact .inr (by simpa using z2)
     · refine ye (fin _ _ ⟨rfl, no ?_⟩);rw [Bool.and_eq_false_iff];exact .inl (by simpa using z)
   rintro σ' H4 ⟨rfl, t4⟩;refine ⟨_, rfl, lp, _, rfl, .inl ⟨SqL.of t4.p, fun l7 hl7 => ?_⟩⟩;have s7 := Same.new hl7 (.tup ((ps.set k (ps.getD k 0 + 1 + pS w b n r (nR w b n (nP w b n ns)))).map V.int));have g7 : upd H4 l7 (.tup ((ps.set k (ps.getD k 0 + 1 + pS w b n r (nR w b n (nP w b n ns)))).map V.int)) l7 = some (.tup ((ps.set k (ps.getD k 0 + 1 + pS w b n r (nR w b n (nP w b n ns)))).map V.int)) := zf;have n7 := s7 _ _ t4.n;generalize upd H4 l7 (.tup ((ps.set k (ps.getD k 0 + 1 + pS w b n r (nR w b n (nP w b n ns)))).map V.int)) = H7 at s7 g7 n7 ⊢;refine ⟨_, rfl, ln, _, rfl, .inl ⟨SqL.of n7, fun l8 hl8 => ?_⟩⟩;have s8 := Same.new hl8 (.tup ((nR w b n (nP w b n ns)).map V.int));have g8 : upd H7 l8 (.tup ((nR w b n (nP w b n ns)).map V.int)) l8 = some (.tup ((nR w b n (nP w b n ns)).map V.int)) := zf;generalize upd H7 l8 (.tup ((nR w b n (nP w b n ns)).map V.int)) = H8 at s8 g8 ⊢;refine ⟨(by show 2 ≤ sizeLine; decide), fun l9 hl9 => ?_⟩;exact ks _ _ hgo (t4.s.trans (s7.trans (s8.trans (Same.new hl9 _)))) (Ze (s8 _ _ g7) g8 hl9)
end
end My
namespace L2
open PySem PySem.Spec PyProof.Rows
noncomputable def zoj : V → Option Int → Option Int → Hp → VK → Prop := fun x lo hi H Q => ∃ ts, Is H (.tup ts) x ∧ ∀ v H', Same H H' → Is H' (.tup (Vk ts lo hi)) v → Q v H'
theorem zga {X : Cx} : SlR X zoj := by
 intro pins s σ H x v vl vu lo hi sl Q I rx hs pl pu h;obtain ⟨ts, hi', q⟩ := h;exact zob (S := fun _ => False) pins s σ H x v vl vu lo hi sl Q I rx hs pl pu ⟨ts, hi'.off0, fun b z => z.elim, fun v H' s' i => q v H' s' i.off⟩
theorem zcu {α : Type} (xs : List α) (k : Nat) : Vk xs none (some (k : Int)) = xs.take k := by
 unfold Vk;rw [HT.sIx_none, HT.sIx_nat, List.drop_zero, Nat.sub_zero, ← List.take_take, c8]
theorem zkp {α : Type} (xs : List α) (i m : Nat) : Vk xs (some (i : Int)) (some ((i : Int) + (m : Int))) = (xs.drop i).take m := by
 unfold Vk;rw [show (i : Int) + (m : Int) = ((i + m : Nat) : Int) from by omega, HT.sIx_nat, HT.sIx_nat];by_cases h : i ≤ xs.length
 · rw [Nat.min_eq_left h];have e : min (i + m) xs.length - i = min m (xs.drop i).length := by rw [List.length_drop]; omega
   rw [e, ← List.take_take, c8]
 · rw [List.drop_eq_nil_of_le (show xs.length ≤ min i xs.length by omega), List.drop_eq_nil_of_le (show xs.length ≤ i by omega), List.take_nil, List.take_nil]
end L2
namespace My
open PySem PySem.Spec PyProof.Rows L2
variable {ds : List Dd} {P : Program} {K : PySem.W.Frag} {mg : Str → Option Value}
abbrev km : Stmt := top 62
abbrev Zb : Stmt := top 12
abbrev Ji : Stmt := top 36
abbrev Yj : Stmt := top 37
abbrev Jk : Stmt := top 25
abbrev Jj : Stmt := top 38
theorem zfu (n : Nat) : (zs n).map V.int = List.replicate n (V.int 0) := by unfold zs; rw [List.map_replicate]
theorem Same.none {H H' : Hp} {l : Addr} (s : Same H H') (h : H' l = none) : H l = none := by
 cases z : H l with
 | none => rfl
 | some o => rw [s _ _ z] at h; cases h
noncomputable def zlq : Sp := fun vs H Q _ => ∃ (v : V) (ds : List Dd), vs = [v] ∧ Is H (scT ds) v ∧ (∀ d ∈ ds, d.NS) ∧ ds.length ≤ 1000 ∧ ∀ l H', Same H H' → H l = none → H' l = some (.lst ((xf (ds.map Dd.t)).map V.str)) → Q (.ref l) H'
noncomputable def znw : Sp := fun vs H Q _ => ∃ (v : V) (ds : List Dd) (bx : Int), vs = [v] ∧ Is H (scT ds) v ∧ (∀ d ∈ ds, d.NS) ∧ (∀ d ∈ ds, d.In bx) ∧ ds.length ≤ 30 ∧ Nsk (ds.map Dd.t) ∧ ∀ H', Same H H' → Q (.bl false) H'
theorem Qf {i : Nat} {d : Dd} (h : ds[i]? = some d) : xf ((ds.take (i + 1)).map Dd.t) = xf ((ds.take i).map Dd.t) ++ (Yf d.t).toList := by
 rw [c5, h, al, qt];congr 1
theorem K3 (ts : List T) : (xf ts).length ≤ ts.length := List.length_filterMap_le ..
section
variable {w : World} {base : Heap}
theorem zen : FnScope ["house"] ["house"] (zj km) := ⟨rfl, rfl, rfl, by decide +kernel, rfl, by decide +kernel, by decide +kernel⟩
theorem zev (D : Def K mg "_law_e_start" km) (T : Txt K mg) : Ok P w K mg base "_law_e_start" 1 ["house"] Kp := by
 refine xx D zen (fun _ _ _ _ _ _ us hl => (match us, hl with | [_], _ => rfl)) (fun vs H Q E ⟨_, _, _, e, _⟩ => by rw [e]; rfl) fun f cdv A outer s H vs Q E hr h => ?_;obtain ⟨bx, dss, vh, rfl, hd, ih, kk⟩ := h;refine ⟨_, zi (zp (w6 (zc (yp xa rfl T.tuple xw (zc (wc (own := ["script"]) (cap := []) rfl (yg (zj km) rfl rfl (by decide +kernel) (by decide +kernel) (by decide +kernel) trivial) (qm (zo zl (pv 0) zh (fun _ _ => rfl)))
   (fun _ _ _ _ => zu (i := 0) (by show (["script"] : List Str).Nodup; decide +kernel) rfl (Or.inl rfl)) (fun _ _ _ _ => yq) (fun _ _ _ _ => zh)) zd))
  (zc (yp xa rfl T.tuple xw (zc (wc (own := ["box"]) (cap := []) rfl (yg (zj km) rfl rfl (by decide +kernel) (by decide +kernel) (by decide +kernel) trivial) (xu rfl T.range (zc (zo zl (pv 0) zh (fun _ _ => rfl)) zd))
   (fun _ _ _ _ => zu (i := 0) (by show (["box"] : List Str).Nodup; decide +kernel) rfl (Or.inl rfl)) (fun _ _ _ _ => yq) (fun _ _ _ _ => zh)) zd)) zd)))), ?_⟩
 obtain ⟨a, as, ss, e0, ha, has, hl, hn⟩ := v6 ih;have n4 := hd.n4;have b0 := hd.b0;have b6 := hd.b6;refine ⟨_, rfl, a, _, _, _, e0, rfl, SqT.of ha, rfl, as, rfl, ⟨ss, SqT.of has⟩, ?_⟩;refine qp (xs := ss) (fun i ys H' => Same H H' ∧ ys = List.replicate i (V.int 0)) ⟨Same.refl H, rfl⟩ (fun i ys H' hi ⟨s4, e⟩ => ⟨SqT.of (s4 _ _ has), by rw [e, c9]; exact zy (by omega)⟩) ?_ ?_
 · rintro i z ys H' hx ⟨s4, rfl⟩;refine qz ?_;exact ⟨s4, by rw [d4]⟩
 rintro ys H1 ⟨s1, rfl⟩ l1 hl1;rw [hn];have s2 := Same.new hl1 (.lst (List.replicate dss.length (V.int 0)));have g2 : upd H1 l1 (.lst (List.replicate dss.length (V.int 0))) l1 = some (.lst (List.replicate dss.length (V.int 0))) := zf;generalize upd H1 l1 (.lst (List.replicate dss.length (V.int 0))) = H2 at s2 g2 ⊢;refine ⟨l1, _, rfl, .inl ⟨SqL.of g2, fun l3 hl3 => ?_⟩⟩;have s3 := Same.new hl3 (.tup (List.replicate dss.length (V.int 0)));have g3 : upd H2 l3 (.tup (List.replicate dss.length (V.int 0))) l3 = some (.tup (List.replicate dss.length (V.int 0))) := zf;generalize upd H2 l3 (.tup (List.replicate dss.length (V.int 0))) = H3 at s3 g3 ⊢;have S3 := s1.trans (s2.trans s3);refine ⟨_, rfl, a, _, _, _, e0, rfl, SqT.of (S3 _ _ ha), rfl, _, rfl, by omega, by omega, ?_⟩;refine je (lo := 0) (n := bx.toNat) (fun i ys H' => Same H3 H' ∧ ys = List.replicate i (V.int 0)) ⟨Same.refl H3, rfl⟩ (fun i ys H' hi ⟨s4, e⟩ => by rw [e, c9]; exact zy (by omega)) ?_ ?_
 · rintro i ys H' hx ⟨s4, rfl⟩;refine qz ?_;exact ⟨s4, by rw [d4]⟩
 rintro ys H4 ⟨s4, rfl⟩ l5 hl5;have s5 := Same.new hl5 (.lst (List.replicate bx.toNat (V.int 0)));have g5 : upd H4 l5 (.lst (List.replicate bx.toNat (V.int 0))) l5 = some (.lst (List.replicate bx.toNat (V.int 0))) := zf;generalize upd H4 l5 (.lst (List.replicate bx.toNat (V.int 0))) = H5 at s5 g5 ⊢;refine ⟨l5, _, rfl, .inl ⟨SqL.of g5, fun l6 hl6 => ?_⟩⟩;have s6 := Same.new hl6 (.tup (List.replicate bx.toNat (V.int 0)));have g6 : upd H5 l6 (.tup (List.replicate bx.toNat (V.int 0))) l6 = some (.tup (List.replicate bx.toNat (V.int 0))) := zf;generalize upd H5 l6 (.tup (List.replicate bx.toNat (V.int 0))) = H6 at s6 g6 ⊢;refine ⟨(by show 2 ≤ sizeLine; decide), fun l7 hl7 => ?_⟩;exact kk _ _ (S3.trans (s4.trans (s5.trans (s6.trans (Same.new hl7 _))))) (Ze (by rw [zfu]; exact s6 _ _ (s5 _ _ (s4 _ _ g3))) (by rw [zfu]; exact g6) hl7)
theorem zbs : FnScope ["deeds"] ["deeds"] (zj Zb) := ⟨rfl, rfl, rfl, by decide +kernel, rfl, by decide +kernel, by decide +kernel⟩
theorem zca (D : Def K mg "said_in" Zb) (T : Txt K mg) : Ok P w K mg base "said_in" 1 ["deeds"] zlq := by
 refine xx D zbs (fun _ _ _ _ _ _ us hl => (match us, hl with | [_], _ => rfl)) (fun vs H Q E ⟨_, _, e, _⟩ => by rw [e]; rfl) fun f cdv A outer s H vs Q E hr h => ?_;obtain ⟨v, ds, rfl, iv, hns, hl, kk⟩ := h;refine ⟨_, zi (zp (wc (own := ["deed"]) (cap := []) rfl (yg (zj Zb) rfl rfl (by decide +kernel) (by decide +kernel) (by decide +kernel) trivial) (qm (pv 0))
  (fun _ _ _ _ => zu (i := 0) (by show (["deed"] : List Str).Nodup; decide +kernel) rfl (Or.inl rfl)) (fun _ _ _ _ => Zh (zw wa (zo (r := Vw K) zl (pv 0) zh (fun _ _ => rfl)) yi (zt _))) (fun _ _ _ _ => zo (r := Vw K) zl (pv 0) zh (fun _ _ => rfl)))), ?_⟩
 obtain ⟨a, xs, rfl, ha, hx⟩ := iv;have hxl := hx.length;rw [a7] at hxl;refine ⟨_, rfl, a, rfl, ⟨xs, SqT.of ha⟩, ?_⟩;refine qp (xs := xs) (fun i ys H' => Same H H' ∧ ys = (xf ((ds.take i).map Dd.t)).map V.str) ⟨Same.refl H, rfl⟩ (fun i ys H' hi ⟨s4, e⟩ => ⟨SqT.of (s4 _ _ ha), ?_⟩) ?_ ?_
 · rw [e, a7];refine ay (K3 _) ?_;rw [a7];exact zy (ay (List.length_take_le _ _) (by omega))
 · rintro i z ys H' hz ⟨s4, rfl⟩;have hi : i < ds.length := by rw [← hxl]; exact (bh.mp hz).1
   have ed : ds[i]? = some ds[i] := ah hi;obtain ⟨t, et, it⟩ := hx.get' hz;rw [ao, ed] at et;cases et;have it := it.mono s4;rw [Qf ed];have hn := hns ds[i] (List.getElem_mem hi);generalize ds[i] = d at it hn ⊢;cases d with
   | say x =>
     obtain ⟨ad, rfl, had⟩ := Vh it;refine ⟨_, rfl, ad, _, _, _, rfl, rfl, SqT.of had, at0, rfl, _, rfl, ?_⟩;refine y0 (fun _ => ?_) (fun z => absurd (by decide +kernel) z);exact ⟨_, rfl, ad, _, _, _, rfl, rfl, SqT.of had, at1, s4, by rw [al]; rfl⟩
   | act w b n r =>
     obtain ⟨ad, vs, rfl, had, _⟩ := Vi it;have hn : wEq w "say" = false := hn;refine ⟨_, rfl, ad, _, _, _, rfl, rfl, SqT.of had, at0, rfl, _, rfl, ?_⟩;refine y0 (fun z => absurd z (by rw [show decide (V.str w = V.str "say") = false from hn]; decide)) (fun _ => ⟨s4, ?_⟩);rw [show (Yf (Dd.act w b n r).t).toList = [] from rfl, cw]
 · rintro ys H' ⟨s4, rfl⟩ l hl';rw [hxl, c8];exact kk l _ (s4.trans (Same.new hl' _)) (Same.none s4 hl') zf
theorem Kv : FnScope ["script", "place", "deed"] ["script"] (zj Ji) := ⟨rfl, rfl, rfl, by decide +kernel, rfl, by decide +kernel, by decide +kernel⟩
theorem zg4 (D : Def K mg "skips_a_say" Ji) (T : Txt K mg) (o1 : Ok P w K mg base "said_in" 1 ["deeds"] zlq) : Ok P w K mg base "skips_a_say" 2 ["script"] znw := by
 refine xx D Kv (fun _ _ _ _ _ _ us hl => (match us, hl with | [_], _ => rfl)) (fun vs H Q E ⟨_, _, _, e, _⟩ => by rw [e]; rfl) fun f cdv A outer s H vs Q E hr h => ?_;obtain ⟨v, ds, bx, rfl, iv, hns, hin, hl, hnk, kk⟩ := h;have nd := Kv.nd;refine ⟨_, ze (vy PassesOwn.never rfl (zdi rfl T.enumerate (zc (pv 0) zd)) (qo rfl (yl (zu (i := 1) nd rfl (Or.inl rfl)) (yl (zu (i := 2) nd rfl (Or.inl rfl)) vc)))
   (zi (yc (PW.pt (Zu (zw wa (zo zl (pv 2) zh (fun _ _ => rfl)) yi (zt _)) (j6 (Wx (zx o1 hr (zc (kw zga (pv 0) (Zf (yb xt (pv 1) zh)) (Zf (yb xt (yb xt (pv 1) zh) (zo zl (pv 2) zh (fun _ _ => rfl))))) zd)) (fun _ => rfl))))) (zi jt) zr)))
  (zi (zp xj)), ?_⟩
 have iv0 := iv;obtain ⟨a, xs, rfl, ha, hx⟩ := iv;have hxl := hx.length;rw [a7] at hxl;refine ⟨_, rfl, a, xs, rfl, SqT.of ha, ?_⟩;refine zh8 (K := K) (a := a) (xs := xs) (fun i σ H' => ∃ nv sv, σ = [some (.ref a), nv, sv] ∧ Same H H') ⟨none, none, rfl, Same.refl H⟩ (fun i σ H' _ ⟨_, _, _, s2⟩ => SqT.of (s2 _ _ ha)) ?_ ?_
 · rintro i z σ H' p hz ⟨nv, sv, rfl, s1⟩ hp;have hi : i < ds.length := by rw [← hxl]; exact (bh.mp hz).1
   have ed : ds[i]? = some ds[i] := ah hi;obtain ⟨t, et, it⟩ := hx.get' hz;rw [ao, ed] at et;cases et;have s2 := Same.new hp (.tup [.int i, z]);have gp : upd H' p (.tup [.int i, z]) p = some (.tup [.int i, z]) := zf;generalize upd H' p (.tup [.int i, z]) = H2 at s2 gp ⊢;have s12 := s1.trans s2;have it := it.mono s12;have hk := hnk i ds[i].t (by rw [ao, ed]; rfl);have hD := hin ds[i] (List.getElem_mem hi);refine ⟨p, _, rfl, SqT.of gp, rfl, _, _, rfl, _, _, rfl, rfl, ?_⟩;generalize ds[i] = d at it hk hD ⊢;cases d with
   | say x =>
     obtain ⟨ad, rfl, had⟩ := Vh it;refine ⟨_, rfl, ad, _, _, _, rfl, rfl, SqT.of had, at0, rfl, _, rfl, ?_⟩;rw [Xp.2.2.1];exact ye (ye ⟨_, _, rfl, s12⟩)
   | act w b n r =>
     obtain ⟨ad, vs, rfl, had, ivs⟩ := Vi it;refine ⟨_, rfl, ad, _, _, _, rfl, rfl, SqT.of had, at0, rfl, _, rfl, y0 (fun z => ?_) (fun z => ye ⟨_, _, rfl, s12⟩)⟩;obtain ⟨m, hm, rfl⟩ := hD.2.2 z;obtain ⟨v3, q3, rfl, i3, hnil⟩ := ivs;cases (show q3 = [] from hnil);cases (show v3 = .int m from i3);refine ⟨_, rfl, _, rfl, _, _, rfl, rfl, _, rfl, _, rfl, _, _, rfl, rfl, _, rfl, ad, _, _, _, rfl, rfl, SqT.of had, at3, _, _, rfl, rfl, _, rfl, ds.map Dd.t, iv0.mono s12, fun u H3 s3 iu => ?_⟩;have ec : Vk (ds.map Dd.t) (some ((i : Int) + 1)) (some ((i : Int) + 1 + m)) = ((ds.drop (i + 1)).take m.toNat).map Dd.t := by
      rw [show (i : Int) + 1 = ((i + 1 : Nat) : Int) from by omega, show m = ((m.toNat : Nat) : Int) from by omega, zkp, bw, List.map_take, List.map_drop]
     rw [ec] at iu;refine ⟨u, _, rfl, iu, fun d hd => hns d (List.mem_of_mem_drop (List.mem_of_mem_take hd)), ?_, fun l H4 s4 hn4 hl4 => ?_⟩
     · rw [cx, List.length_drop]; omega
     have e0 : xf (((ds.drop (i + 1)).take m.toNat).map Dd.t) = [] := by
      rw [List.map_take, List.map_drop]; exact hk
     rw [e0] at hl4;refine ⟨_, .inl ⟨_, SqL.of hl4, rfl⟩, ye ⟨_, _, rfl, s12.trans (s3.trans s4)⟩⟩
 · rintro σ H' ⟨nv, sv, rfl, s1⟩;exact kk _ s1
end
end My
namespace L2
open PySem PySem.Spec PyProof.Rows
theorem IsL.strs {H : Hp} : ∀ {xs : List Str}, IsL H (xs.map T.str) (xs.map V.str)
 | [] => rfl
 | x :: r => ⟨_, _, rfl, rfl, IsL.strs⟩
end L2
namespace My
open PySem PySem.Spec PyProof.Rows L2
variable {H : Hp} {b bx h n p : Int} {dss : List (List Dd)} {ds : List Dd} {ns ps us : List Int} {r : List T} {i : Nat} {P : Program} {K : PySem.W.Frag} {w x y : Str} {mg : Str → Option Value}
abbrev Yg : Stmt := top 39
noncomputable def wT (p : Int) : T := .lst ((cgo (2 * p).toNat).map L2.T.str)
theorem zna (h0 : 0 ≤ p) (h2 : p ≤ 2) : (toD (wT p)).canLay0 = true ∧ (toD (wT p)).depth ≤ 20 ∧ PyData.eqv (toD (wT p)) (toD (wT p)) = true ∧ (List.replicate p.toNat [V.str "come", V.str "go"]).flatten = (cgo (2 * p).toNat).map V.str := by
 have : p = 0 ∨ p = 1 ∨ p = 2 := by omega
 rcases this with rfl | rfl | rfl
 · exact ⟨by kernel_rfl, by decide +kernel, by kernel_rfl, by rfl⟩
 · exact ⟨by kernel_rfl, by decide +kernel, by kernel_rfl, by rfl⟩
 · exact ⟨by kernel_rfl, by decide +kernel, by kernel_rfl, by rfl⟩
noncomputable def znz : Sp := fun vs H Q _ => ∃ (vh : V) (bx p : Int) (dss : List (List Dd)), vs = [vh, .int p] ∧ HD bx dss ∧ WD p dss ∧ Is H (hT bx dss) vh ∧ ∀ H', Same H H' → Q (.bl true) H'
noncomputable def zlt : Sp := fun vs H Q _ => ∃ (vh : V) (bx : Int) (dss : List (List Dd)), vs = [vh] ∧ HD bx dss ∧ Is H (hT bx dss) vh ∧ ∀ H', Same H H' → Q .non H'
noncomputable def zi8 : Sp := fun vs H Q _ => ∃ (vh : V) (bx p : Int) (dss : List (List Dd)), vs = [vh, .int p] ∧ HD bx dss ∧ WD p dss ∧ Is H (hT bx dss) vh ∧ ∀ H', Same H H' → Q .non H'
noncomputable def Xv (x : Str) : T := .tup [.str "say", .str x]
noncomputable def isS (x : Str) (d : Dd) : Bool := PyData.eqv (toD d.t) (toD (Xv x))
noncomputable def va (x : Str) (ds : List Dd) (p : Int) : Nat := (ds.take p.toNat).countP (isS x)
noncomputable def tms (x : Str) (dss : List (List Dd)) (ps : List Int) : List Int := (List.range dss.length).map fun k => ((va x (dss.getD k []) (ps.getD k 0) : Nat) : Int)
noncomputable def zlp : Sp := fun vs H Q _ => ∃ bx dss ps ns vh vst x, vs = [vh, vst, .str x] ∧ At H bx dss ps ns vh vst ∧ (toD (Xv x)).canLay0 = true ∧ (toD (Xv x)).depth ≤ 20 ∧ ∀ l H', Same H H' → H' l = some (.lst ((tms x dss ps).map V.int)) → Q (.ref l) H'
noncomputable def zph (K : PySem.W.Frag) : TE := znm zgk (Zo 0) (j9 (znf (j9 (tC (.str "say")) (j9 (Zo 1) zbo))) zbo)
section
variable {w : World} {base : Heap}
theorem Qd : FnScope ["house", "p", "wanted"] ["house", "p"] (zj Yj) := ⟨rfl, rfl, rfl, by decide +kernel, rfl, by decide +kernel, by decide +kernel⟩
theorem zez (D : Def K mg "is_loose_wall" Yj) (T : Txt K mg) (o1 : Ok P w K mg base "is_within" 2 ["thing", "least", "most"] zei) (o2 : Ok P w K mg base "said_in" 1 ["deeds"] zlq) (o3 : Ok P w K mg base "skips_a_say" 2 ["script"] znw) : Ok P w K mg base "is_loose_wall" 3 ["house", "p"] znz := by
 refine xx D Qd (fun _ _ _ _ _ _ us hl => (match us, hl with | [_, _], _ => rfl)) (fun vs H Q E ⟨_, _, _, _, e, _⟩ => by rw [e]; rfl) fun f cdv A outer s H vs Q E hr h => ?_;obtain ⟨vh, bx, p, dss, rfl, hd, hw, ih, kk⟩ := h;have nd := Qd.nd;have r1 := hr.mono (show 1 ≤ 2 by decide);refine ⟨_, ze (yc (yu (yh (zx o1 hr (zc (pv 1) (zc zh (zc (yx T.MOST_PHASES) zd)))))) (zi jt) zr)
  (ze (ya (i := 2) nd rfl (Or.inr rfl) (yb zb4 (jl (zc yi (zc yi zd))) (pv 1)))
  (zi (zp (zn (wg rfl) rfl T.all qc (zc (wc (own := ["script"]) (cap := [2]) rfl (yg (zj Yj) rfl rfl (by decide +kernel) (by decide +kernel) (by decide +kernel) ⟨⟨_, rfl, .inl rfl, xr rfl⟩, trivial⟩) (qm (zo zl (pv 0) (yx T.SCRIPTS) (fun _ _ => rfl)))
   (fun _ _ _ _ => zu (i := 0) (by show (["script", "wanted"] : List Str).Nodup; decide +kernel) rfl (Or.inl rfl)) (fun _ _ _ _ => yq)
   (fun _ _ _ _ => qa (xg (zdm hr.units) (zx o2 r1 (zc (pv 0) zd)) (pv 1) (zt _)) (v4 (Jo (zx o3 hr (zc (pv 0) zd)))))) zd))))), ?_⟩
 have p0 := hw.p0;have p2 := hw.p2;obtain ⟨w1, w2, w3, w4⟩ := zna p0 p2;refine ⟨_, rfl, .int p, _, 0, _, rfl, rfl, fun H1 s1 => ⟨_, rfl, ?_⟩⟩;rw [xo p0 (by omega)];refine ye ⟨by show 2 ≤ sizeLine; decide, fun l1 hl1 => ?_⟩;have s2 := Same.new hl1 (.lst [.str "come", .str "go"]);have g2 : upd H1 l1 (.lst [.str "come", .str "go"]) l1 = some (.lst [.str "come", .str "go"]) := zf;generalize upd H1 l1 (.lst [.str "come", .str "go"]) = H2 at s2 g2 ⊢;refine ⟨_, rfl, l1, _, _, rfl, rfl, g2, by omega, by omega, by show 2 * p.toNat ≤ sizeLine; exact zy (by omega), fun l3 hl3 => ?_⟩;rw [w4];have s3 := Same.new hl3 (.lst ((cgo (2 * p).toNat).map V.str));have g3 : upd H2 l3 (.lst ((cgo (2 * p).toNat).map V.str)) l3 = some (.lst ((cgo (2 * p).toNat).map V.str)) := zf;generalize upd H2 l3 (.lst ((cgo (2 * p).toNat).map V.str)) = H3 at s3 g3 ⊢;have s03 := s1.trans (s2.trans s3);obtain ⟨a, as, ss, e0, ha, has, hl, hn⟩ := v6 (ih.mono s03);have n4 := hd.n4;refine ⟨_, rfl, a, _, _, _, e0, rfl, SqT.of ha, rfl, as, rfl, ⟨ss, SqT.of has⟩, ?_⟩;refine qp (xs := ss) (fun i ys H' => Same H3 H' ∧ ys = (List.replicate i true).map V.bl) ⟨Same.refl H3, rfl⟩ (fun i ys H' hi ⟨s4, e⟩ => ⟨SqT.of (s4 _ _ has), by rw [e, a7, c9]; exact zy (by omega)⟩) ?_ ?_
 · rintro i z ys H' hz ⟨s4, rfl⟩;refine qz ?_;have hi : i < dss.length := by rw [← hn]; exact (bh.mp hz).1
   obtain ⟨t, et, it⟩ := hl.get' hz;rw [ao, ah hi] at et;cases et;have hm := List.getElem_mem hi;have h1 := hd.ns _ hm;have h2 := hd.each _ hm;have h3 := hd.few _ hm;have h4 := hw.says _ hm;have h5 := hw.nsk _ hm;generalize dss[i] = ds at it h1 h2 h3 h4 h5;refine ⟨_, rfl, z, ds, rfl, it.mono s4, h1, by omega, fun l5 H5 s5 n5 g5 => ?_⟩;rw [h4] at g5;have s35 := s4.trans s5;refine ⟨_, rfl, wT p, wT p, ⟨l5, _, rfl, g5, IsL.strs⟩, ⟨l3, _, rfl, s35 _ _ g3, IsL.strs⟩, w1, w1, w2, _, rfl, ?_⟩;rw [show id (PyData.eqv (toD (wT p)) (toD (wT p))) = true from w3];refine xi ⟨_, rfl, z, ds, bx, rfl, it.mono s35, h1, h2, h3, h5, fun H6 s6 => ⟨_, rfl, s35.trans s6, ?_⟩⟩;rw [d4, al];rfl
 · rintro ys H' ⟨s4, rfl⟩ l hl';have s5 := Same.new hl' (.lst ((List.replicate ss.length true).map V.bl));refine ⟨l, _, rfl, SqL.of zf, ?_⟩;have e : (List.replicate ss.length true).all id = true := by simp
   rw [e];exact kk _ (s03.trans (s4.trans s5))
theorem zgc : FnScope ["thing"] ["thing"] (zj Jk) := ⟨rfl, rfl, rfl, by decide +kernel, rfl, by decide +kernel, by decide +kernel⟩
theorem zg6 (D : Def K mg "need_loose" Jk) (T : Txt K mg) (o1 : Ok P w K mg base "is_loose" 5 ["thing"] (Kq Wh Xi)) : Ok P w K mg base "need_loose" 6 ["thing"] zlt := by
 refine xx D zgc (fun _ _ _ _ _ _ us hl => (match us, hl with | [_], _ => rfl)) (fun vs H Q E ⟨_, _, _, e, _⟩ => by rw [e]; rfl) fun f cdv A outer s H vs Q E hr h => ?_;obtain ⟨vh, bx, dss, rfl, hd, ih, kk⟩ := h;refine ⟨_, zi (yc (yu (yh (zx o1 hr (zc (pv 0) zd)))) (zi jt) zr), ?_⟩;refine ⟨_, rfl, _, vh, rfl, ih, hd.wh, fun H1 s1 => ⟨_, rfl, ?_⟩⟩;rw [hd.good];exact ye (kk H1 s1)
theorem zgb : FnScope ["house", "p"] ["house", "p"] (zj Jj) := ⟨rfl, rfl, rfl, by decide +kernel, rfl, by decide +kernel, by decide +kernel⟩
theorem zg5 (D : Def K mg "need_loose_wall" Jj) (T : Txt K mg) (o1 : Ok P w K mg base "need_loose" 6 ["thing"] zlt) (o2 : Ok P w K mg base "is_loose_wall" 3 ["house", "p"] znz) : Ok P w K mg base "need_loose_wall" 7 ["house", "p"] zi8 := by
 refine xx D zgb (fun _ _ _ _ _ _ us hl => (match us, hl with | [_, _], _ => rfl)) (fun vs H Q E ⟨_, _, _, _, e, _⟩ => by rw [e]; rfl) fun f cdv A outer s H vs Q E hr h => ?_;obtain ⟨vh, bx, p, dss, rfl, hd, hw, ih, kk⟩ := h;refine ⟨_, ze (vz (zx o1 hr (zc (pv 0) zd)))
  (zi (yc (yu (yh (zx o2 (hr.mono (show 3 ≤ 6 by decide)) (zc (pv 0) (zc (pv 1) zd))))) (zi jt) zr)), ?_⟩
 refine ⟨_, rfl, vh, bx, dss, rfl, hd, ih, fun H1 s1 => ?_⟩;exact ⟨_, rfl, _, rfl, vh, bx, p, dss, rfl, hd, hw, ih.mono s1, fun H2 s2 => ⟨_, rfl, ye (kk H2 (s1.trans s2))⟩⟩
theorem Kt : FnScope ["house", "stand", "word", "done"] ["house", "stand", "word"] (zj Yg) := ⟨rfl, rfl, rfl, by decide +kernel, rfl, by decide +kernel, by decide +kernel⟩
theorem zg2 (D : Def K mg "times_said" Yg) (T : Txt K mg) : Ok P w K mg base "times_said" 1 ["house", "stand", "word"] zlp := by
 refine xx D Kt (fun _ _ _ _ _ _ us hl => (match us, hl with | [_, _, _], _ => rfl)) (fun vs H Q E ⟨_, _, _, _, _, _, _, e, _⟩ => by rw [e]; rfl) fun f cdv A outer s H vs Q E hr h => ?_;obtain ⟨bx, dss, ps, ns, vh, vst, x, rfl, A, lx, dx, kk⟩ := h;have nd := Kt.nd;refine ⟨_, ze (Qj (i := 3) (own := ["script", "place"]) (cap := []) (g := zh6 K 2 (Yt (wz 0) (Yt (wz 1) zh7))) rfl (yg (zj Yg) rfl rfl (by decide +kernel) (by decide +kernel) (by decide +kernel) trivial)
   (zl3 rfl T.zip (zc (zo zl (pv 0) (yx T.SCRIPTS) (fun _ _ => rfl)) (zc (zo zl (pv 1) (yx T.PLACES) (fun _ _ => rfl)) zd)))
   (fun _ _ _ _ => qo rfl (yl (zu (i := 0) (by show (["script", "place"] : List Str).Nodup; decide +kernel) rfl (Or.inl rfl)) (yl (zu (i := 1) (by show (["script", "place"] : List Str).Nodup; decide +kernel) rfl (Or.inl rfl)) vc))) (fun _ _ _ _ => yq)
   (fun _ _ _ _ => kw zga (pv 0) X9 (Zf (pv 1))) nd rfl rfl (by with_unfolding_all rfl))
  (zi (zp (wc (own := ["deeds"]) (cap := [2]) rfl (yg (zj Yg) rfl rfl (by decide +kernel) (by decide +kernel) (by decide +kernel) ⟨⟨_, rfl, .inl rfl, xr rfl⟩, trivial⟩) (te := zph K) (wn (pv 3))
   (fun _ _ _ _ => zu (i := 0) (by show (["deeds", "word"] : List Str).Nodup; decide +kernel) rfl (Or.inl rfl)) (fun _ _ _ _ => yq)
   (fun _ _ _ _ => zl7 PySem.F.slot_tuple_count PySem.F.type_tuple_count (r := zgk) (ze3 (by exact hr.units)) (pv 0) (zc (w6 (zc yi (zc (pv 1) zd))) zd))))), ?_⟩
 obtain ⟨a, as, ss, e0, ha, has, hl, hn⟩ := v6 A.ih;obtain ⟨c, p, q, e1, hc, hp, hq⟩ := qk A.is;have n4 := A.hd.n4;have lp := A.sd.lp;refine ⟨_, rfl, a, _, _, _, e0, rfl, SqT.of ha, rfl, _, rfl, c, _, _, _, e1, rfl, SqT.of hc, rfl, as, p, ss, _, rfl, has, hp, ?_⟩;refine zme (by rw [a7, hn, lp]) (fun i ys H' => Same H H' ∧ IsL H' ((List.range i).map fun k => scT ((dss.getD k []).take (ps.getD k 0).toNat)) ys) ⟨Same.refl H, rfl⟩ (fun i ys H' hi ⟨s4, h4⟩ => ⟨s4 _ _ has, s4 _ _ hp, by rw [h4.length, a7, cq]; exact zy (by omega)⟩) ?_ ?_
 · rintro i x1 z1 ys H' r hx hz ⟨s1, h1⟩ hr';have hi : i < dss.length := by rw [← hn]; exact (bh.mp hx).1
   have hip : i < ps.length := by omega
   rw [w9 hip] at hz;cases hz;obtain ⟨b, xs, eb, hb, hxs, hxn⟩ := Wu hl hi;rw [eb] at hx;cases hx;have s2 := Same.new hr' (.tup [.ref b, .int (ps.getD i 0)]);have gr : upd H' r (.tup [.ref b, .int (ps.getD i 0)]) r = some (.tup [.ref b, .int (ps.getD i 0)]) := zf;generalize upd H' r (.tup [.ref b, .int (ps.getD i 0)]) = H2 at s2 gr ⊢;have s02 := s1.trans s2;have h0 := qy A.sd.p0 i;refine ⟨r, _, rfl, SqT.of gr, rfl, _, _, rfl, _, _, rfl, rfl, ?_⟩;refine if0 ?_;refine ⟨_, rfl, _, rfl, _, rfl, (dss.getD i []).map Dd.t, ⟨b, xs, rfl, s02 _ _ hb, hxs.mono s02⟩, fun u H3 s3 iu => ?_⟩;rw [show ps.getD i 0 = (((ps.getD i 0).toNat : Nat) : Int) from by omega, zcu, ← List.map_take] at iu;refine ⟨s02.trans s3, ?_⟩;rw [List.range_succ, al];exact IsL.append (h1.mono (s2.trans s3)) (IsL.one iu)
 rintro ys H1 ⟨s1, h1⟩ l1 hl1;have s2 := Same.new hl1 (.lst ys);have g2 : upd H1 l1 (.lst ys) l1 = some (.lst ys) := zf;have h2 := h1.mono s2;generalize upd H1 l1 (.lst ys) = H2 at s2 g2 h2 ⊢;have hyl := h2.length;rw [a7, cq, hn] at hyl;refine ⟨_, rfl, l1, rfl, ⟨ys, SqL.of g2⟩, ?_⟩;refine qx (xs := ys) (fun i zs H' => Same H2 H' ∧ zs = ((List.range i).map fun k => ((va x (dss.getD k []) (ps.getD k 0) : Nat) : Int)).map V.int) ⟨Same.refl H2, rfl⟩ (fun i zs H' hi ⟨s4, e⟩ => ⟨SqL.of (s4 _ _ g2), by rw [e, a7, a7, cq]; exact zy (by omega)⟩) ?_ ?_
 · rintro i z zs H' hz ⟨s3, rfl⟩;refine qz ?_;have hi : i < dss.length := by rw [← hyl]; exact (bh.mp hz).1
   obtain ⟨t, et, it⟩ := h2.get' hz;rw [ao, List.getElem?_range (by omega)] at et;cases et;have it3 := it.mono s3;obtain ⟨b, xs, rfl, hb, hxs⟩ := it3;refine ⟨_, rfl, ⟨b, xs, rfl, hb⟩, _, rfl, by show 2 ≤ sizeLine; decide, fun r hr' => ?_⟩;have s5 := Same.new hr' (.tup [.str "say", .str x]);have i5 : Is (upd H' r (.tup [.str "say", .str x])) (Xv x) (.ref r) := Is.newTup hr' (IsL.two rfl rfl);generalize upd H' r (.tup [.str "say", .str x]) = H5 at s5 i5 ⊢;have hm : dss.getD i [] ∈ dss := by rw [aq, ah hi]; exact List.getElem_mem hi
   refine ⟨_, Xv x, _, rfl, ⟨b, xs, rfl, s5 _ _ hb, hxs.mono s5⟩, i5, fun t ht => ?_, lx, dx, s3.trans s5, ?_⟩
   · obtain ⟨d, hd', rfl⟩ := bq.mp ht;exact A.hd.lay _ hm d (List.mem_of_mem_take hd')
   · rw [List.countP_map, List.range_succ, al, al];rfl
 · rintro zs H' ⟨s3, rfl⟩ l hl';rw [hyl];exact kk l _ ((s1.trans s2).trans (s3.trans (Same.new hl' _))) zf
abbrev Xc : Stmt := top 40
abbrev Zd : Stmt := top 42
abbrev Ww : Stmt := top 43
abbrev Y7 : Stmt := top 45
abbrev Xb : Stmt := top 49
abbrev Xa : Stmt := top 50
theorem Vn : bootBuiltins "min" = some (.builtin "min") := by decide +kernel
theorem zm1 : bootBuiltins "any" = some (.builtin "any") := by decide +kernel
theorem X6 : (toD (Xv "go")).canLay0 = true ∧ (toD (Xv "go")).depth ≤ 20 := ⟨by kernel_rfl, by decide +kernel⟩
theorem Qh : (toD (Xv "come")).canLay0 = true ∧ (toD (Xv "come")).depth ≤ 20 := ⟨by kernel_rfl, by decide +kernel⟩
noncomputable def mEg (dss : List (List Dd)) (ps : List Int) (k : Nat) (d : Dd) : Bool := isS "go" d && (tms "come" dss ps).any fun c => decide (c ≤ (tms "go" dss ps).getD k 0)
noncomputable def wo (dss : List (List Dd)) : List Int := dss.map fun ds => (ds.length : Int)
noncomputable def vb (dss : List (List Dd)) (ps ns : List Int) : Bool := decide (V.int ((due dss ps ns).length : Int) = V.int 0) && !decide (ps = wo dss)
noncomputable def xy (dss : List (List Dd)) : List Int → List Int → List Int → Option (List Int × List Int)
 | ps, ns, [] => some (ps, ns)
 | ps, ns, h :: r => match yt dss ps ns h with
   | none => none
   | some (qs, ms) => xy dss qs ms r
noncomputable def eAt (dss : List (List Dd)) (ps ns : List Int) (h : Int) : Bool := match yt dss ps ns h, cur dss ps h.toNat with
 | some _, some d => mEg dss ps h.toNat d
 | _, _ => false
noncomputable def zcn (bx : Int) (dss : List (List Dd)) (ws : List Int) : Bool := match ws.reverse with
 | [] => false
 | h :: r => match xy dss (zs dss.length) (zs bx.toNat) r.reverse with
   | none => false
   | some (ps, ns) => eAt dss ps ns h
noncomputable def J3 (bx : Int) (dss : List (List Dd)) (ws : List Int) : Bool := match xy dss (zs dss.length) (zs bx.toNat) ws with
 | none => false
 | some (ps, ns) => vb dss ps ns
theorem W8 : zcn bx dss (us ++ [h]) = match xy dss (zs dss.length) (zs bx.toNat) us with
  | none => false
  | some (ps, ns) => eAt dss ps ns h := by
 unfold zcn;rw [List.reverse_append];show (match xy dss (zs dss.length) (zs bx.toNat) us.reverse.reverse with
  | none => false
  | some (ps, ns) => eAt dss ps ns h) = _
 rw [List.reverse_reverse]
theorem Wg : (tms x dss ps).length = dss.length := by unfold tms; rw [a7, cq]
noncomputable def zlv : Sp := fun vs H Q _ => ∃ bx dss ps ns vh vst, ∃ k : Nat, ∃ d, vs = [vh, vst, .int (k : Int)] ∧ At H bx dss ps ns vh vst ∧ k < dss.length ∧ cur dss ps k = some d ∧ ∀ H', Same H H' → Q (.bl (mEg dss ps k d)) H'
noncomputable def zoa : Sp := fun vs H Q _ => ∃ bx dss ps ns vh vst, vs = [vh, vst] ∧ At H bx dss ps ns vh vst ∧ ∀ H', Same H H' → Q (.bl (decide (ps = wo dss))) H'
noncomputable def V8 : Sp := fun vs H Q _ => ∃ bx dss ps ns vh vst, vs = [vh, vst] ∧ At H bx dss ps ns vh vst ∧ ∀ H', Same H H' → Q (.bl (vb dss ps ns)) H'
noncomputable def zls : Sp := fun vs H Q _ => ∃ bx dss vh l, ∃ ws : List Int, vs = [vh, .ref l] ∧ HD bx dss ∧ Is H (hT bx dss) vh ∧ H l = some (.lst (ws.map V.int)) ∧ (xy dss (zs dss.length) (zs bx.toNat) ws = none → ∀ H', Same H H' → Q .non H') ∧
 ∀ ps ns v H', xy dss (zs dss.length) (zs bx.toNat) ws = some (ps, ns) → Same H H' → At H' bx dss ps ns vh v → Q v H'
noncomputable def zn8 : Sp := fun vs H Q _ => ∃ bx p dss vh l, ∃ ws : List Int, vs = [vh, .int p, .ref l] ∧ HD bx dss ∧ WD p dss ∧ Is H (hT bx dss) vh ∧ H l = some (.lst (ws.map V.int)) ∧ ∀ H', Same H H' → Q (.bl (zcn bx dss ws)) H'
noncomputable def zns : Sp := fun vs H Q _ => ∃ bx dss vh l, ∃ ws : List Int, vs = [vh, .ref l] ∧ HD bx dss ∧ Is H (hT bx dss) vh ∧ H l = some (.lst (ws.map V.int)) ∧ ∀ H', Same H H' → Q (.bl (J3 bx dss ws)) H'
theorem Ve (hi : i < dss.length) : dss.getD i [] ∈ dss := by rw [aq, ah hi]; exact List.getElem_mem hi
theorem zkq {k : Nat} {d : Dd} (h : HD bx dss) (hk : k < dss.length) (e : cur dss ps k = some d) : (toD d.t).canLay0 = true := by
 unfold cur at e;exact h.lay _ (Ve hk) d (bj e)
theorem zbw : FnScope ["house", "stand", "hand"] ["house", "stand", "hand"] (zj Xc) := ⟨rfl, rfl, rfl, by decide +kernel, rfl, by decide +kernel, by decide +kernel⟩
theorem zcg (D : Def K mg "is_early_go" Xc) (T : Txt K mg) (o1 : Ok P w K mg base "next_deed" 1 ["house", "stand", "hand"] zi9) (o2 : Ok P w K mg base "times_said" 1 ["house", "stand", "word"] zlp) : Ok P w K mg base "is_early_go" 2 ["house", "stand", "hand"] zlv := by
 refine xx D zbw (fun _ _ _ _ _ _ us hl => (match us, hl with | [_, _, _], _ => rfl)) (fun vs H Q E ⟨_, _, _, _, _, _, _, _, e, _⟩ => by rw [e]; rfl) fun f cdv A outer s H vs Q E hr h => ?_;obtain ⟨bx, dss, ps, ns, vh, vst, k, d, rfl, A, hk, hcur, kk⟩ := h;refine ⟨_, ze (yc (zw (zgx hr.units) (zx o1 hr (zc (pv 0) (zc (pv 1) (zc (pv 2) zd)))) (w6 (zc yi (zc yi zd))) (zt _)) (zi (zp xj)) zr)
  (zi (zp (xg zdl (zo yn (zx o2 hr (zc (pv 0) (zc (pv 1) (zc yi zd)))) (pv 2) (fun _ _ => rfl)) (zn (jw rfl) rfl T.min Vn (zc (zx o2 hr (zc (pv 0) (zc (pv 1) (zc yi zd)))) zd)) (zt _)))), ?_⟩
 have n1 := A.hd.n1;refine ⟨_, rfl, _, rfl, _, rfl, bx, dss, ps, ns, vh, vst, k, rfl, A, hk, fun e => (by rw [hcur] at e; cases e), fun d' v e iv => ?_⟩;rw [hcur] at e;cases e;refine ⟨by show 2 ≤ sizeLine; decide, fun r hr' => ?_⟩;have s1 := Same.new hr' (.tup [.str "say", .str "go"]);have i1 : Is (upd H r (.tup [.str "say", .str "go"])) (Xv "go") (.ref r) := Is.newTup hr' (IsL.two rfl rfl);generalize upd H r (.tup [.str "say", .str "go"]) = H1 at s1 i1 ⊢;refine ⟨d.t, Xv "go", iv.mono s1, i1, zkq A.hd hk hcur, X6.1, X6.2, _, rfl, ?_⟩;have q := kk;unfold mEg isS at q;cases c : PyData.eqv (toD d.t) (toD (Xv "go")) with
 | false =>
   rw [c, cg] at q;exact xi (q H1 s1)
 | true =>
   rw [c, bi] at q;refine ye ⟨_, rfl, _, rfl, bx, dss, ps, ns, vh, vst, "go", rfl, A.same s1, X6.1, X6.2, fun l2 H2 s2 g2 => ?_⟩;have hkl : k < (tms "go" dss ps).length := by rw [Wg]; exact hk
   refine ⟨_, rfl, l2, _, _, _, rfl, rfl, SqL.of g2, yo (w9 hkl), ?_⟩;refine ⟨_, rfl, _, rfl, bx, dss, ps, ns, vh, vst, "come", rfl, A.same (s1.trans s2), Qh.1, Qh.2, fun l3 H3 s3 g3 => ?_⟩;refine ⟨l3, _, rfl, SqL.of g3, fun z => ?_, fun m hm hmin => ⟨_, _, rfl, rfl, ?_⟩⟩
   · have : (tms "come" dss ps).length = 0 := by rw [z]; rfl
     rw [Wg] at this;omega
   · have e : decide (m ≤ (tms "go" dss ps).getD k 0) = (tms "come" dss ps).any fun c => decide (c ≤ (tms "go" dss ps).getD k 0) := by
      rw [Bool.eq_iff_iff, da, decide_eq_true_eq];constructor
      · intro h; exact ⟨m, hm, ai h⟩
      · rintro ⟨c, hc, h⟩;have := hmin c hc;have := bp h;omega
     show Q (.bl (decide (m ≤ (tms "go" dss ps).getD k 0))) H3;rw [e];exact q H3 (s1.trans (s2.trans s3))
theorem zbx : FnScope ["house", "stand"] ["house", "stand"] (zj Zd) := ⟨rfl, rfl, rfl, by decide +kernel, rfl, by decide +kernel, by decide +kernel⟩
theorem zch (D : Def K mg "has_done_all" Zd) (T : Txt K mg) : Ok P w K mg base "has_done_all" 1 ["house", "stand"] zoa := by
 refine xx D zbx (fun _ _ _ _ _ _ us hl => (match us, hl with | [_, _], _ => rfl)) (fun vs H Q E ⟨_, _, _, _, _, _, e, _⟩ => by rw [e]; rfl) fun f cdv A outer s H vs Q E hr h => ?_;obtain ⟨bx, dss, ps, ns, vh, vst, rfl, A, kk⟩ := h;refine ⟨_, zi (zp (xg (zdm hr.units) (yp v7 rfl T.list vd (zc (zo zl (pv 1) (yx T.PLACES) (fun _ _ => rfl)) zd))
  (wc (own := ["script"]) (cap := []) rfl (yg (zj Zd) rfl rfl (by decide +kernel) (by decide +kernel) (by decide +kernel) trivial) (qm (zo zl (pv 0) (yx T.SCRIPTS) (fun _ _ => rfl)))
   (fun _ _ _ _ => zu (i := 0) (by show (["script"] : List Str).Nodup; decide +kernel) rfl (Or.inl rfl)) (fun _ _ _ _ => yq) (fun _ _ _ _ => zn (r := zeo K) zq (by rfl) T.len yd (zc (pv 0) zd))) (zt _))), ?_⟩
 obtain ⟨a, as, ss, e0, ha, has, hl, hn⟩ := v6 A.ih;obtain ⟨c, p, q, e1, hc, hp, hq⟩ := qk A.is;have n4 := A.hd.n4;refine ⟨_, rfl, c, _, _, _, e1, rfl, SqT.of hc, rfl, p, _, rfl, .inr (SqT.of hp), fun l1 hl1 => ?_⟩;have s1 := Same.new hl1 (.lst (ps.map V.int));have g1 : upd H l1 (.lst (ps.map V.int)) l1 = some (.lst (ps.map V.int)) := zf;generalize upd H l1 (.lst (ps.map V.int)) = H1 at s1 g1 ⊢;refine ⟨_, rfl, a, _, _, _, e0, rfl, SqT.of (s1 _ _ ha), rfl, as, rfl, ⟨ss, SqT.of (s1 _ _ has)⟩, ?_⟩;refine qp (xs := ss) (fun i ys H' => Same H1 H' ∧ ys = ((wo dss).take i).map V.int) ⟨Same.refl H1, rfl⟩ (fun i ys H' hi ⟨s4, e⟩ => ⟨SqT.of (s4 _ _ (s1 _ _ has)), ?_⟩) ?_ ?_
 · rw [e, a7];exact zy (ay (List.length_take_le _ _) (by omega))
 · rintro i z ys H' hz ⟨s4, rfl⟩;refine qz ?_;have hi : i < dss.length := by rw [← hn]; exact (bh.mp hz).1
   obtain ⟨b, xs, eb, hb, hxs, hxn⟩ := Wu hl hi;rw [eb] at hz;cases hz;refine ⟨_, rfl, b, xs, rfl, .inr (SqT.of (s4 _ _ (s1 _ _ hb))), s4, ?_⟩;have eg : (wo dss)[i]? = some (xs.length : Int) := by
    unfold wo;rw [ao, ah hi, hxn, aq, ah hi];rfl
   rw [c5, eg, al];rfl
 · rintro ys H' ⟨s4, rfl⟩ l hl';have s5 := Same.new hl' (.lst (((wo dss).take ss.length).map V.int));have g5 : upd H' l (.lst (((wo dss).take ss.length).map V.int)) l = some (.lst (((wo dss).take ss.length).map V.int)) := zf;generalize upd H' l (.lst (((wo dss).take ss.length).map V.int)) = H5 at s5 g5 ⊢;have el : (wo dss).take ss.length = wo dss := by
    rw [hn, List.take_of_length_le];unfold wo;rw [a7];exact a9 _
   rw [el] at g5;refine ⟨.lst (iT ps), .lst (iT (wo dss)), ⟨l1, _, rfl, s5 _ _ (s4 _ _ g1), IsL.ints.mpr rfl⟩, ⟨l, _, rfl, g5, IsL.ints.mpr rfl⟩, jj _, jj _, Qz _, ?_⟩;rw [show id (PyData.eqv (toD (.lst (iT ps))) (toD (.lst (iT (wo dss))))) = decide (ps = wo dss) from zkj _ _];exact kk _ (s1.trans (s4.trans s5))
theorem zem : FnScope ["house", "stand"] ["house", "stand"] (zj Ww) := ⟨rfl, rfl, rfl, by decide +kernel, rfl, by decide +kernel, by decide +kernel⟩
theorem zeu (D : Def K mg "stops" Ww) (T : Txt K mg) (o1 : Ok P w K mg base "going" 4 ["house", "stand"] zjc) (o2 : Ok P w K mg base "has_done_all" 1 ["house", "stand"] zoa) : Ok P w K mg base "stops" 5 ["house", "stand"] V8 := by
 refine xx D zem (fun _ _ _ _ _ _ us hl => (match us, hl with | [_, _], _ => rfl)) (fun vs H Q E ⟨_, _, _, _, _, _, e, _⟩ => by rw [e]; rfl) fun f cdv A outer s H vs Q E hr h => ?_;obtain ⟨bx, dss, ps, ns, vh, vst, rfl, A, kk⟩ := h;refine ⟨_, zi (zp (qa (xg wa (zn zq (by rfl) T.len yd (zc (zx o1 hr (zc (pv 0) (zc (pv 1) zd))) zd)) zh (zt _)) (v4 (Jo (zx o2 (hr.mono (show 1 ≤ 4 by decide)) (zc (pv 0) (zc (pv 1) zd))))))), ?_⟩;refine ⟨_, rfl, _, rfl, bx, dss, ps, ns, vh, vst, rfl, A, fun l H1 s1 hn g1 => ?_⟩;refine ⟨l, _, rfl, .inl (SqL.of g1), rfl, _, rfl, ?_⟩;have q := kk;unfold vb at q;rw [a7];refine y0 (fun z => ?_) (fun z => ?_)
 · rw [z, bi] at q;exact ⟨_, rfl, _, rfl, bx, dss, ps, ns, vh, vst, rfl, A.same s1, fun H2 s2 => ⟨_, rfl, q H2 (s1.trans s2)⟩⟩
 · have z : decide (V.int ((due dss ps ns).length : Int) = V.int 0) = false := by simpa using z
   rw [z, cg] at q;exact q H1 s1
theorem ky : PySem.W.kitOne K (.type "list") (.type "list") = some true := by kernel_rfl
theorem zc6 {l : Addr} {ws : List Int} (h : H l = some (.lst (ws.map V.int))) : TyOf K H (.ref l) (.type "list") := (show Is H (.lst (iT ws)) (.ref l) from ⟨l, _, rfl, h, IsL.ints.mpr rfl⟩).ty
theorem Wm : FnScope ["house", "weaving", "stand", "hand"] ["house", "weaving"] (zj Y7) := ⟨rfl, rfl, rfl, by decide +kernel, rfl, by decide +kernel, by decide +kernel⟩
theorem zb7 (D : Def K mg "stand_by" Y7) (T : Txt K mg) (o1 : Ok P w K mg base "at_first" 1 ["house"] Kp) (o2 : Ok P w K mg base "may_go_on" 3 ["house", "stand", "hand"] zja) (o3 : Ok P w K mg base "moved" 2 ["house", "stand", "hand"] zlu) : Ok P w K mg base "stand_by" 4 ["house", "weaving"] zls := by
 refine xx D Wm (fun _ _ _ _ _ _ us hl => (match us, hl with | [_, _], _ => rfl)) (fun vs H Q E ⟨_, _, _, _, _, e, _⟩ => by rw [e]; rfl) fun f cdv A outer s H vs Q E hr h => ?_;obtain ⟨bx, dss, vh, l, ws, rfl, hd, ih, hl, k1, k2⟩ := h;have nd := Wm.nd;refine ⟨_, ze (yc (yu (yh (wl T.isi T.list vd (pv 1)))) (zi jt) zr)
  (ze (ya (i := 2) nd rfl (Or.inl rfl) (zx o1 (hr.mono (show 1 ≤ 3 by decide)) (zc (pv 0) zd)))
  (ze (vy PassesOwn.never rfl (wn (pv 1)) (zu (i := 3) nd rfl (Or.inl rfl))
   (ze (yc (yu (yh (zx o2 hr (zc (pv 0) (zc (pv 2) (zc (pv 3) zd)))))) (zi (zp wk)) zr)
   (zi (ya (i := 2) nd rfl (Or.inl rfl) (zx o3 (hr.mono (show 2 ≤ 3 by decide)) (zc (pv 0) (zc (pv 2) (zc (pv 3) zd))))))))
  (zi (zp (pv 2))))), ?_⟩
 refine ⟨_, rfl, _, "list", _, _, rfl, zc6 hl, ky, _, rfl, ye ?_⟩;refine ⟨_, rfl, bx, dss, vh, rfl, hd, ih, fun v0 H0 s0 i0 => ?_⟩;refine ⟨_, rfl, l, rfl, ⟨_, SqL.of (s0 _ _ hl)⟩, ?_⟩;refine kz (xs := ws.map V.int) (fun i σ H' => ∃ ps ns v x3, σ = [some vh, some (.ref l), some v, x3] ∧ Same H H' ∧ xy dss (zs dss.length) (zs bx.toNat) ws = xy dss ps ns (ws.drop i) ∧ At H' bx dss ps ns vh v) ⟨_, _, v0, none, rfl, s0, rfl, ⟨hd, SD.first, ih.mono s0, i0⟩⟩ (fun i σ H' _ ⟨_, _, _, _, _, s', _⟩ => SqL.of (s' _ _ hl)) ?_ ?_
 · rintro i x σ H1 hx ⟨ps, ns, v, x3, rfl, s1, er, A1⟩;have hi : i < ws.length := by rw [← a7 (f := V.int)]; exact (bh.mp hx).1
   rw [ao, ah hi] at hx;cases hx;have ed : ws.drop i = ws[i] :: ws.drop (i + 1) := List.drop_eq_getElem_cons hi;rw [ed] at er;generalize ws[i] = h at er;refine ⟨_, rfl, _, rfl, _, rfl, bx, dss, ps, ns, vh, v, h, rfl, A1, fun H2 s2 => ⟨_, rfl, ?_⟩⟩;cases e : yt dss ps ns h with
   | none =>
     refine xi (k1 ?_ H2 (s1.trans s2));rw [er];unfold xy;rw [e]
   | some q =>
     obtain ⟨qs, ms⟩ := q;obtain ⟨k, d, rfl, hk, e1, e2, e3⟩ := ww e;cases e3;have er2 : xy dss (zs dss.length) (zs bx.toNat) ws = xy dss (ps.set k (ps.getD k 0 + 1 + qr d ns)) (Kj d ns) (ws.drop (i + 1)) := by
      rw [er]
      conv => lhs; unfold xy
      rw [e]
     have A2 := A1.same s2;refine ye ⟨_, rfl, _, rfl, _, rfl, bx, dss, ps, ns, vh, v, k, d, rfl, A2, hk, e1, fun u H3 s3 iu => ?_⟩;exact ⟨_, _, u, _, rfl, s1.trans (s2.trans s3), er2, ⟨hd, A1.sd.step hd e, A2.ih.mono s3, iu⟩⟩
 · rintro σ H1 ⟨ps, ns, v, x3, rfl, s1, er, A1⟩;rw [a7, List.drop_length] at er;exact ⟨_, rfl, k2 ps ns v H1 (by rw [er]; rfl) s1 A1⟩
theorem Zn {v : V} (h : Is H (tt ps ns) v) : v ≠ .non := by
 obtain ⟨a, p, q, rfl, _⟩ := qk h;exact fun z => by cases z
theorem Wr : FnScope ["house", "p", "weaving", "stand"] ["house", "p", "weaving"] (zj Xb) := ⟨rfl, rfl, rfl, by decide +kernel, rfl, by decide +kernel, by decide +kernel⟩
theorem zif (us : List V) (h : V) : Vj (us ++ [h]) none (some (-1)) = us := by
 unfold Vj;rw [HT.sIx_none, List.drop_zero, Nat.sub_zero];have e : HT.sIx (us ++ [h]).length (us ++ [h]).length (some (-1)) = us.length := by
  have := HT.clip_eq (-1) (us ++ [h]).length (us ++ [h]).length;rw [if_pos (by decide), ba, cm] at this;rw [ba, cm];omega
 rw [e, List.take_left'];rfl
theorem zce (D : Def K mg "is_early" Xb) (T : Txt K mg) (o1 : Ok P w K mg base "need_loose_wall" 7 ["house", "p"] zi8) (o2 : Ok P w K mg base "stand_by" 4 ["house", "weaving"] zls) (o3 : Ok P w K mg base "may_go_on" 3 ["house", "stand", "hand"] zja) (o4 : Ok P w K mg base "is_early_go" 2 ["house", "stand", "hand"] zlv) : Ok P w K mg base "is_early" 8 ["house", "p", "weaving"] zn8 := by
 refine xx D Wr (fun _ _ _ _ _ _ us hl => (match us, hl with | [_, _, _], _ => rfl)) (fun vs H Q E ⟨_, _, _, _, _, _, e, _⟩ => by rw [e]; rfl) fun f cdv A outer s H vs Q E hr h => ?_;obtain ⟨bx, p, dss, vh, l, ws, rfl, hd, hw, ih, hl, kk⟩ := h;have nd := Wr.nd;refine ⟨_, ze (vz (zx o1 hr (zc (pv 0) (zc (pv 1) zd))))
  (ze (yc (PW.pt (wj (yu (yh (wl T.isi T.list vd (pv 2)))) (wf (zw wa (zn zq (by rfl) T.len yd (zc (pv 2) zd)) zh (zt _))))) (zi (zp xj)) zr)
  (ze (ya (i := 3) nd rfl (Or.inl rfl) (zx o2 (hr.mono (show 4 ≤ 7 by decide)) (zc (pv 0) (zc (kw zdc (pv 2) X9 (Zf (zgo zbk zh))) zd))))
  (ze (yc (PW.pt (wj (zw Jp (pv 3) wk (zt _)) (wf (yu (yh (zx o3 (hr.mono (show 3 ≤ 7 by decide)) (zc (pv 0) (zc (pv 3) (zc (zo yn (pv 2) (zgo zbk zh) (fun _ _ => rfl)) zd))))))))) (zi (zp xj)) zr)
  (zi (zp (zx o4 (hr.mono (show 2 ≤ 7 by decide)) (zc (pv 0) (zc (pv 3) (zc (zo yn (pv 2) (zgo zbk zh) (fun _ _ => rfl)) zd))))))))), ?_⟩
 refine ⟨_, rfl, _, rfl, vh, bx, p, dss, rfl, hd, hw, ih, fun H1 s1 => ?_⟩;have hl1 := s1 _ _ hl;refine ⟨_, rfl, _, "list", _, _, rfl, zc6 hl1, ky, _, rfl, ye ?_⟩;refine ⟨_, rfl, l, _, rfl, .inl (SqL.of hl1), rfl, _, rfl, ?_⟩;rcases List.eq_nil_or_concat ws with rfl | ⟨us, h, e⟩
 · refine y0 (fun _ => kk H1 s1) (fun z => absurd ?_ z);decide +kernel
 · rw [List.concat_eq_append] at e;subst e;refine y0 (fun z => absurd (bp z) (fun y => ?_)) (fun _ => ?_)
   · have y := V.int.inj y;simp at y;omega
   have em : (us ++ [h]).map V.int = us.map V.int ++ [V.int h] := by rw [al]; rfl
   rw [em] at hl1;refine ⟨_, rfl, _, rfl, 1, rfl, _, rfl, l, _, rfl, SqL.of hl1, fun l2 hl2 => ?_⟩;rw [show (-1 : Int) = -1 from rfl, zif];have s2 := Same.new hl2 (.lst (us.map V.int));have g2 : upd H1 l2 (.lst (us.map V.int)) l2 = some (.lst (us.map V.int)) := zf;generalize upd H1 l2 (.lst (us.map V.int)) = H2 at s2 g2 ⊢;have s02 := s1.trans s2;rw [W8] at kk;refine ⟨bx, dss, vh, l2, us, rfl, hd, ih.mono s02, g2, fun e H3 s3 => ?_, fun ps ns v H3 e s3 A3 => ?_⟩
   · rw [e] at kk;refine ⟨_, rfl, rfl, _, rfl, y0 (fun _ => kk H3 (s02.trans s3)) (fun z => absurd (ai rfl) z)⟩
   · rw [e] at kk;have hv := Zn A3.is;refine ⟨_, rfl, rfl, _, rfl, ?_⟩;rw [av hv];refine ye ⟨_, rfl, _, rfl, _, rfl, 1, rfl, l, _, _, _, rfl, rfl, SqL.of (s3 _ _ (s2 _ _ hl1)), zbf _ _, bx, dss, ps, ns, vh, v, h, rfl, A3, fun H4 s4 => ⟨_, rfl, ?_⟩⟩;have kk : ∀ H', Same H H' → Q (.bl (eAt dss ps ns h)) H' := kk;unfold eAt at kk;cases e5 : yt dss ps ns h with
     | none =>
       rw [e5] at kk;exact xi (kk H4 (s02.trans (s3.trans s4)))
     | some q =>
       obtain ⟨k, d, rfl, hk, e1, e2, e3⟩ := ww e5;rw [e5, show cur dss ps ((k : Int)).toNat = some d from e1] at kk;refine ye ⟨_, rfl, _, rfl, _, rfl, 1, rfl, l, _, _, _, rfl, rfl, SqL.of (s4 _ _ (s3 _ _ (s2 _ _ hl1))), zbf _ _, bx, dss, ps, ns, vh, v, k, d, rfl, A3.same s4, hk, e1, fun H5 s5 => ?_⟩;exact kk H5 (s02.trans (s3.trans (s4.trans s5)))
theorem Wp : FnScope ["house", "weaving", "stand"] ["house", "weaving"] (zj Xa) := ⟨rfl, rfl, rfl, by decide +kernel, rfl, by decide +kernel, by decide +kernel⟩
theorem zcc (D : Def K mg "is_stuck" Xa) (T : Txt K mg) (o1 : Ok P w K mg base "need_loose" 6 ["thing"] zlt) (o2 : Ok P w K mg base "stand_by" 4 ["house", "weaving"] zls) (o3 : Ok P w K mg base "stops" 5 ["house", "stand"] V8) : Ok P w K mg base "is_stuck" 7 ["house", "weaving"] zns := by
 refine xx D Wp (fun _ _ _ _ _ _ us hl => (match us, hl with | [_, _], _ => rfl)) (fun vs H Q E ⟨_, _, _, _, _, e, _⟩ => by rw [e]; rfl) fun f cdv A outer s H vs Q E hr h => ?_;obtain ⟨bx, dss, vh, l, ws, rfl, hd, ih, hl, kk⟩ := h;have nd := Wp.nd;refine ⟨_, ze (vz (zx o1 hr (zc (pv 0) zd)))
  (ze (ya (i := 2) nd rfl (Or.inl rfl) (zx o2 (hr.mono (show 4 ≤ 6 by decide)) (zc (pv 0) (zc (pv 1) zd))))
  (zi (zp (qa (xg Ym (pv 2) wk (zt _)) (v4 (zx o3 (hr.mono (show 5 ≤ 6 by decide)) (zc (pv 0) (zc (pv 2) zd)))))))), ?_⟩
 have q := kk;unfold J3 at q;refine ⟨_, rfl, vh, bx, dss, rfl, hd, ih, fun H1 s1 => ?_⟩;refine ⟨_, rfl, _, rfl, bx, dss, vh, l, ws, rfl, hd, ih.mono s1, s1 _ _ hl, fun e H2 s2 => ?_, fun ps ns v H2 e s2 A2 => ?_⟩
 · rw [e] at q;refine ⟨_, rfl, rfl, _, rfl, y0 (fun z => absurd z (by decide +kernel)) (fun z => ?_)⟩;exact q H2 (s1.trans s2)
 · rw [e] at q;have hv := Zn A2.is;refine ⟨_, rfl, rfl, _, rfl, ?_⟩;rw [av hv];exact xi ⟨_, rfl, _, rfl, bx, dss, ps, ns, vh, v, rfl, A2, fun H3 s3 => q H3 (s1.trans (s2.trans s3))⟩
abbrev j3 : Stmt := top 64
theorem qi {dss : List (List Dd)} : ∀ {us vs ps ns : List Int}, xy dss ps ns (us ++ vs) = match xy dss ps ns us with
  | none => none
  | some (qs, ms) => xy dss qs ms vs
 | [], vs, ps, ns => rfl
 | h :: us, vs, ps, ns => by
   have e1 : ∀ r, xy dss ps ns (h :: r) = match yt dss ps ns h with
    | none => none
    | some (qs, ms) => xy dss qs ms r := fun r => rfl
   show xy dss ps ns (h :: (us ++ vs)) = _;rw [e1, e1];cases yt dss ps ns h with
   | none => rfl
   | some q => exact qi (us := us) (vs := vs) (ps := q.1) (ns := q.2)
theorem W7 : xy dss ps ns [h] = yt dss ps ns h := by
 unfold xy;cases yt dss ps ns h with
 | none => rfl
 | some q => rfl
theorem zgf {ws : List Int} (h : xy dss ps ns (ws.take i) = none) : xy dss ps ns ws = none := by
 have e := qi (dss := dss) (us := ws.take i) (vs := ws.drop i) (ps := ps) (ns := ns);rw [List.take_append_drop, h] at e;exact e
theorem zdu {d : Dd} (h : isS x d = true) : d = .say x := by
 cases d with
 | say y =>
   have h : PyData.eqvAll [.str "say", .str y] [.str "say", .str x] = true := h;simp [PyData.eqvAll, PyData.eqv] at h;rw [h]
 | act w b n r =>
   have h : PyData.eqvAll (.str w :: .int b :: .int n :: w5 r) [.str "say", .str x] = true := h;simp [PyData.eqvAll, PyData.eqv] at h
theorem Kc : isS "come" (.say "go") = false := by kernel_rfl
theorem zig {p : Nat} {d : Dd} (h : ds[p]? = some d) : va x ds ((p : Int) + 1) = va x ds (p : Int) + if isS x d = true then 1 else 0 := by
 unfold va;rw [show ((p : Int) + 1).toNat = p + 1 from by omega, bw, c5, h, List.countP_append];show _ + List.countP (isS x) [d] = _;rw [List.countP_cons, List.countP_nil, Nat.zero_add]
theorem zlo (sd : SD bx dss ps ns) (hn : ∀ j, j < dss.length → yt dss ps ns (j : Int) = none) : vb dss ps ns = (List.range dss.length).any fun k => decide (ps.getD k 0 < ((dss.getD k []).length : Int)) := by
 have e : due dss ps ns = [] := by
  rw [List.eq_nil_iff_forall_not_mem];intro h hh;have hh' := ji.mp hh;unfold due at hh;obtain ⟨j, hj, rfl⟩ := bq.mp (dc.mp hh).1;rw [hn j (cb.mp hj)] at hh';cases hh'
 unfold vb;rw [e];show (decide (V.int ((0 : Nat) : Int) = V.int 0) && _) = _;rw [show decide (V.int ((0 : Nat) : Int) = V.int 0) = true from rfl, bi, Bool.eq_iff_iff, da, Bool.not_eq_true', decide_eq_false_iff_not];constructor
 · intro h;apply Classical.byContradiction;intro hne;apply h;refine List.ext_getElem? fun i => ?_;unfold wo;rw [ao];by_cases hi : i < dss.length
   · have hip : i < ps.length := by rw [sd.lp]; exact hi
     have h1 : ¬ ps.getD i 0 < ((dss.getD i []).length : Int) := fun z => hne ⟨i, cb.mpr hi, ai z⟩;have h2 := sd.pl i;rw [aq, ah hip, aq, ah hi] at h1 h2;rw [ah hip, ah hi];show some ps[i] = some ((dss[i].length : Nat) : Int);have h1 : ¬ ps[i] < ((dss[i]).length : Int) := h1;have h2 : ps[i] ≤ ((dss[i]).length : Int) := h2;congr 1;omega
   · rw [dz (by rw [sd.lp]; omega), dz (by omega)];rfl
 · rintro ⟨k, hk, h⟩ z;have hk := cb.mp hk;have h := bp h;have : ps.getD k 0 = ((dss.getD k []).length : Int) := by
    rw [z];unfold wo;rw [aq, ao, ah hk, aq, ah hk];rfl
   omega
theorem zln (e : (yt dss ps ns h).isSome = true) : vb dss ps ns = false := by
 have hm := ji.mpr e;unfold vb;have : decide (V.int ((due dss ps ns).length : Int) = V.int 0) = false := by
  rw [decide_eq_false_iff_not];intro z;have z := V.int.inj z;have := List.length_pos_of_mem hm;omega
 rw [this, cg]
theorem Xn : FnScope ["house", "stand", "hand"] ["house", "stand"] (zj j3) := ⟨rfl, rfl, rfl, by decide +kernel, rfl, by decide +kernel, by decide +kernel⟩
theorem zaf (D : Def K mg "_law_e_stopped" j3) (T : Txt K mg) (o1 : Ok P w K mg base "_law_e_step" 1 ["house", "stand", "hand"] zda) : Ok P w K mg base "_law_e_stopped" 2 ["house", "stand"] V8 := by
 refine xx D Xn (fun _ _ _ _ _ _ us hl => (match us, hl with | [_, _], _ => rfl)) (fun vs H Q E ⟨_, _, _, _, _, _, e, _⟩ => by rw [e]; rfl) fun f cdv A outer s H vs Q E hr h => ?_;obtain ⟨bx, dss, ps, ns, vh, vst, rfl, A, kk⟩ := h;have nd := Xn.nd;refine ⟨_, ze (vy PassesOwn.never rfl (xu rfl T.range (zc (zn zq (by rfl) T.len yd (zc (zo zl (pv 0) zh (fun _ _ => rfl)) zd)) zd)) (zu (i := 2) nd rfl (Or.inl rfl))
   (zi (yc (zw Ym (zx o1 hr (zc (pv 0) (zc (pv 1) (zc (pv 2) zd)))) wk (zt _)) (zi (zp xj)) zr)))
  (zi (zp (zn (zim rfl) rfl T.any zm1 (zc (wc (own := ["hand"]) (cap := [0, 1]) rfl (yg (zj j3) rfl rfl (by decide +kernel) (by decide +kernel) (by decide +kernel) ⟨⟨_, rfl, .inl rfl, xr rfl⟩, ⟨_, rfl, .inl rfl, xr rfl⟩, trivial⟩)
   (xu rfl T.range (zc (zn zq (by rfl) T.len yd (zc (zo zl (pv 0) zh (fun _ _ => rfl)) zd)) zd))
   (fun _ _ _ _ => zu (i := 0) (by show (["hand", "house", "stand"] : List Str).Nodup; decide +kernel) rfl (Or.inl rfl)) (fun _ _ _ _ => yq)
   (fun _ _ _ _ => xg Yn (zo (r := Vw K) zl (zo (r := Vw K) zl (pv 2) zh (fun _ _ => rfl)) (pv 0) (fun _ _ => rfl)) (zn (r := zeo K) zq (by rfl) T.len yd (zc (zo (r := Vw K) zl (zo (r := Vw K) zl (pv 1) zh (fun _ _ => rfl)) (pv 0) (fun _ _ => rfl)) zd)) (zt _))) zd)))), ?_⟩
 obtain ⟨a, as, ss, e0, ha, has, hl, hn⟩ := v6 A.ih;obtain ⟨c, p, q, e1, hc, hp, hq⟩ := qk A.is;have n4 := A.hd.n4;refine ⟨_, rfl, a, _, _, _, e0, rfl, SqT.of ha, rfl, as, ss, rfl, .inr (SqT.of has), _, rfl, by omega, by omega, ?_⟩;refine jc (lo := 0) (n := ((ss.length : Nat) : Int).toNat) (fun i σ H' => Same H H' ∧ (∃ x2, σ = [some vh, some vst, x2]) ∧ ∀ j, j < i → yt dss ps ns (j : Int) = none) ⟨Same.refl H, ⟨_, rfl⟩, fun j z => absurd z (di j)⟩ ?_ ?_
 · rintro i σ H1 hi ⟨s1, ⟨x2, rfl⟩, hno⟩;rw [Int.zero_add];refine ⟨_, rfl, _, rfl, _, rfl, bx, dss, ps, ns, vh, vst, (i : Int), rfl, A.same s1, fun e H2 s2 => ?_, fun qs ms v H2 e s2 iv => ?_⟩
   · refine ⟨rfl, _, rfl, y0 (fun z => absurd z (by decide +kernel)) (fun _ => ⟨s1.trans s2, ⟨_, rfl⟩, fun j hj => ?_⟩)⟩;by_cases c : j = i
     · subst c; exact e
     · exact hno j (by omega)
   · have hv := Zn iv;refine ⟨rfl, _, rfl, ?_⟩;rw [av hv];refine xi ?_;have q := kk H2 (s1.trans s2);rw [zln (h := (i : Int)) (by rw [e]; rfl)] at q;exact q
 rintro σ H1 ⟨s1, ⟨x2, rfl⟩, hno⟩;rw [bw, hn] at hno;rw [zlo A.sd hno] at kk;refine ⟨_, rfl, a, _, _, _, e0, rfl, SqT.of (s1 _ _ ha), rfl, as, ss, rfl, .inr (SqT.of (s1 _ _ has)), _, rfl, by omega, by omega, ?_⟩;refine je (lo := 0) (n := ((ss.length : Nat) : Int).toNat) (fun j ys H' => Same H1 H' ∧ ys = ((List.range j).map fun k => decide (ps.getD k 0 < ((dss.getD k []).length : Int))).map V.bl) ⟨Same.refl H1, rfl⟩
  (fun j ys H' hj ⟨_, e⟩ => by rw [e, a7, a7, cq]; exact zy (by omega)) ?_ ?_
 · rintro j ys H2 hj ⟨s2, rfl⟩;refine qz ?_;rw [Int.zero_add];have hk : j < dss.length := by omega
   have hkp : j < ps.length := by rw [A.sd.lp]; exact hk
   obtain ⟨b, xs, eb, hb, hxs, hxn⟩ := Wu hl hk;have s02 := s1.trans s2;refine ⟨_, rfl, c, _, _, _, e1, rfl, SqT.of (s02 _ _ hc), rfl, _, rfl, p, _, _, _, rfl, rfl, SqT.of (s02 _ _ hp), yo (w9 hkp), ?_⟩;refine ⟨_, rfl, a, _, _, _, e0, rfl, SqT.of (s02 _ _ ha), rfl, _, rfl, as, ss, _, _, rfl, rfl, SqT.of (s02 _ _ has), yo eb, b, xs, rfl, .inr (SqT.of (s02 _ _ hb)), _, _, rfl, rfl, s2, ?_⟩;rw [List.range_succ, al, al, hxn];rfl
 · rintro ys H2 ⟨s2, rfl⟩ l hl';refine ⟨l, _, rfl, SqL.of zf, ?_⟩;rw [List.any_map, bw, hn];exact kk _ (s1.trans (s2.trans (Same.new hl' _)))
theorem zio : bootBuiltins "max" = some (.builtin "max") := by decide +kernel
abbrev Zs : Stmt := top 41
abbrev xz : Stmt := top 51
abbrev jh : Stmt := top 44
noncomputable def mHe (dss : List (List Dd)) (ps : List Int) : Bool := (tms "go" dss ps).any fun g => (tms "come" dss ps).any fun c => decide (c < g)
noncomputable def nx (dss : List (List Dd)) (ps ns : List Int) (h : Int) : List Int × List Int := (yt dss ps ns h).getD ([], [])
noncomputable def stp (dss : List (List Dd)) (ps ns : List Int) (h : Int) : T := .tup [.int h, tt (nx dss ps ns h).1 (nx dss ps ns h).2]
structure SL (bx : Int) (dss : List (List Dd)) (ps ns : List Int) : Prop where
 sd : SD bx dss ps ns
 n9 : ∀ n ∈ ns, 0 ≤ n ∧ n ≤ 9
noncomputable def zjb : Sp := fun vs H Q _ => ∃ bx dss ps ns vh vst, vs = [vh, vst] ∧ At H bx dss ps ns vh vst ∧ ∀ H', Same H H' → Q (.bl (mHe dss ps)) H'
noncomputable def zlr : Sp := fun vs H Q _ => ∃ bx dss ps ns vh vst, vs = [vh, vst] ∧ At H bx dss ps ns vh vst ∧ ∀ l xs H', Same H H' → H l = none → H' l = some (.lst xs) → IsL H' ((due dss ps ns).map (stp dss ps ns)) xs → Q (.ref l) H'
noncomputable def zn1 : Sp := fun vs H Q _ => ∃ bx dss ps ns vh vst, vs = [vh, vst] ∧ At H bx dss ps ns vh vst ∧ SL bx dss ps ns ∧ ∀ H', Same H H' → Q (.bl true) H'
theorem zh3 {g c : Int} (g1 : g ∈ tms "go" dss ps) (g2 : ∀ n ∈ tms "go" dss ps, n ≤ g) (c1 : c ∈ tms "come" dss ps) (c2 : ∀ n ∈ tms "come" dss ps, c ≤ n) : decide (g > c) = mHe dss ps := by
 unfold mHe;rw [Bool.eq_iff_iff, decide_eq_true_eq, da];constructor
 · intro h;refine ⟨g, g1, ?_⟩;rw [da];exact ⟨c, c1, ai h⟩
 · rintro ⟨g', h1, h2⟩;rw [da] at h2;obtain ⟨c', h3, h4⟩ := h2;have h4 := bp h4;have := g2 g' h1;have := c2 c' h3;omega
theorem Jb (h : 1 ≤ dss.length) : tms x dss ps ≠ [] := fun z => by
 have : dss.length = 0 := by
  have := congrArg List.length z;unfold tms at this;rw [a7, cq] at this;exact this
 omega
theorem Jf : FnScope ["house", "stand"] ["house", "stand"] (zj jh) := ⟨rfl, rfl, rfl, by decide +kernel, rfl, by decide +kernel, by decide +kernel⟩
theorem Jr (D : Def K mg "steps_from" jh) (T : Txt K mg) (o1 : Ok P w K mg base "going" 4 ["house", "stand"] zjc) (o2 : Ok P w K mg base "moved" 2 ["house", "stand", "hand"] zlu) : Ok P w K mg base "steps_from" 5 ["house", "stand"] zlr := by
 refine xx D Jf (fun _ _ _ _ _ _ us hl => (match us, hl with | [_, _], _ => rfl)) (fun vs H Q E ⟨_, _, _, _, _, _, e, _⟩ => by rw [e]; rfl) fun f cdv A outer s H vs Q E hr h => ?_;obtain ⟨bx, dss, ps, ns, vh, vst, rfl, A, kk⟩ := h;have r2 := hr.mono (show 2 ≤ 4 by decide);refine ⟨_, zi (zp (wc (own := ["hand"]) (cap := [0, 1]) rfl (yg (zj jh) rfl rfl (by decide +kernel) (by decide +kernel) (by decide +kernel) ⟨⟨_, rfl, .inl rfl, xr rfl⟩, ⟨_, rfl, .inl rfl, xr rfl⟩, trivial⟩) (wn (zx o1 hr (zc (pv 0) (zc (pv 1) zd))))
  (fun _ _ _ _ => zu (i := 0) (by show (["hand", "house", "stand"] : List Str).Nodup; decide +kernel) rfl (Or.inl rfl)) (fun _ _ _ _ => yq)
  (fun _ _ _ _ => Zi (zc (pv 0) (zc (zx o2 r2 (zc (pv 1) (zc (pv 2) (zc (pv 0) zd)))) zd))))), ?_⟩
 refine ⟨_, rfl, _, rfl, bx, dss, ps, ns, vh, vst, rfl, A, fun lg H1 s1 _ g1 => ?_⟩;have n4 := A.hd.n4;have hfew : (due dss ps ns).length ≤ 4 := by
  unfold due;refine ay (dw _ _) ?_;rw [a7, cq];exact n4
 refine ⟨lg, rfl, ⟨_, SqL.of g1⟩, ?_⟩;refine qx (xs := (due dss ps ns).map V.int) (fun i ys H' => Same H1 H' ∧ IsL H' (((due dss ps ns).take i).map (stp dss ps ns)) ys) ⟨Same.refl H1, rfl⟩ (fun i ys H' hi ⟨s2, e⟩ => ⟨SqL.of (s2 _ _ g1), by rw [e.length, a7, cx]; exact zy (by omega)⟩) ?_ ?_
 · rintro i x ys H2 hx ⟨s2, iy⟩;refine qz ?_;rw [ao] at hx;cases eh : (due dss ps ns)[i]? with
   | none => rw [eh] at hx; cases hx
   | some h =>
     rw [eh] at hx;cases hx;have hm := ji.mp (bj eh);obtain ⟨r, hr'⟩ := dq.mp hm;obtain ⟨k, d, ek, hk, ed, _, er⟩ := ww hr';refine ⟨_, rfl, _, rfl, _, rfl, _, rfl, bx, dss, ps, ns, vh, vst, k, d, by rw [ek]; rfl, A.same (s1.trans s2), hk, ed, fun v H3 s3 iv => ?_⟩;refine ⟨by show 2 ≤ 1000; decide, fun p H4 s4 _ g4 => ⟨s2.trans (s3.trans s4), ?_⟩⟩;rw [c5, eh, al];refine IsL.append (iy.mono (s3.trans s4)) (IsL.one ⟨p, _, rfl, g4, IsL.two rfl ?_⟩);have e2 : nx dss ps ns h = (ps.set k (ps.getD k 0 + 1 + qr d ns), Kj d ns) := by unfold nx; rw [hr', er]; rfl
     rw [e2];exact iv.mono s4
 · rintro ys H2 ⟨s2, iy⟩ p hp;rw [a7, c8] at iy;have s3 := Same.new hp (.lst ys);exact kk p ys _ (s1.trans (s2.trans s3)) (Same.none (s1.trans s2) hp) zf (iy.mono s3)
theorem Kz : FnScope ["house", "stand"] ["house", "stand"] (zj Zs) := ⟨rfl, rfl, rfl, by decide +kernel, rfl, by decide +kernel, by decide +kernel⟩
theorem zak (D : Def K mg "has_early" Zs) (T : Txt K mg) (o1 : Ok P w K mg base "times_said" 1 ["house", "stand", "word"] zlp) : Ok P w K mg base "has_early" 2 ["house", "stand"] zjb := by
 refine xx D Kz (fun _ _ _ _ _ _ us hl => (match us, hl with | [_, _], _ => rfl)) (fun vs H Q E ⟨_, _, _, _, _, _, e, _⟩ => by rw [e]; rfl) fun f cdv A outer s H vs Q E hr h => ?_;obtain ⟨bx, dss, ps, ns, vh, vst, rfl, A, kk⟩ := h;refine ⟨_, zi (zp (xg W1 (zn (Q1 rfl) rfl T.max zio (zc (zx o1 hr (zc (pv 0) (zc (pv 1) (zc yi zd)))) zd)) (zn (jw rfl) rfl T.min Vn (zc (zx o1 hr (zc (pv 0) (zc (pv 1) (zc yi zd)))) zd)) (zt _))), ?_⟩;have n1 := A.hd.n1;refine ⟨_, rfl, _, rfl, bx, dss, ps, ns, vh, vst, _, rfl, A, by kernel_rfl, by decide +kernel, fun l1 H1 s1 g1 => ?_⟩;refine ⟨l1, _, rfl, SqL.of g1, Jb n1, fun g hg1 hg2 => ?_⟩;refine ⟨_, rfl, _, rfl, bx, dss, ps, ns, vh, vst, _, rfl, A.same s1, by kernel_rfl, by decide +kernel, fun l2 H2 s2 g2 => ?_⟩;refine ⟨l2, _, rfl, SqL.of g2, Jb n1, fun c hc1 hc2 => ?_⟩;refine ⟨_, _, rfl, rfl, ?_⟩;show Q (.bl (decide (g > c))) H2;rw [zh3 hg1 hg2 hc1 hc2];exact kk H2 (s1.trans s2)
theorem Yc : FnScope ["house", "thing", "first", "lengths"] ["house", "thing"] (zj xz) := ⟨rfl, rfl, rfl, by decide +kernel, rfl, by decide +kernel, by decide +kernel⟩
theorem Js (D : Def K mg "is_stand_like" xz) (T : Txt K mg) (o1 : Ok P w K mg base "at_first" 1 ["house"] Kp) (o2 : Ok P w K mg base "is_tuple_within" 1 ["thing", "least", "most"] zf9) (o3 : Ok P w K mg base "is_within" 2 ["thing", "least", "most"] zei) : Ok P w K mg base "is_stand_like" 3 ["house", "thing"] zn1 := by
 refine xx D Yc (fun _ _ _ _ _ _ us hl => (match us, hl with | [_, _], _ => rfl)) (fun vs H Q E ⟨_, _, _, _, _, _, e, _⟩ => by rw [e]; rfl) fun f cdv A outer s H vs Q E hr h => ?_;obtain ⟨bx, dss, ps, ns, vh, vst, rfl, A, S, kk⟩ := h;have nd := Yc.nd;have r1 := hr.mono (show 1 ≤ 2 by decide);refine ⟨_, ze (ya (i := 2) nd rfl (Or.inl rfl) (zx o1 r1 (zc (pv 0) zd)))
  (ze (yc (PW.pt (wj (yu (yh (zx o2 r1 (zc (pv 1) (zc zh (zc zh zd)))))) (wf (yu (yh (zn (wg rfl) rfl T.all qc (zc (wc (own := ["part"]) (cap := []) (te := tCB (zgj K) (j9 (Zo 0) (j9 (tC (.ty "tuple")) zbo))) rfl (yg (zj xz) rfl rfl (by decide +kernel) (by decide +kernel) (by decide +kernel) trivial) (qm (pv 1))
   (fun _ _ _ _ => zu (i := 0) (by show (["part"] : List Str).Nodup; decide +kernel) rfl (Or.inl rfl)) (fun _ _ _ _ => yq) (fun _ _ _ _ => wl T.isi T.tuple xw (pv 0))) zd))))))) (zi (zp xj)) zr)
  (ze (yc (zw (zjq hr.units) (wc (own := ["part"]) (cap := []) rfl (yg (zj xz) rfl rfl (by decide +kernel) (by decide +kernel) (by decide +kernel) trivial) (qm (pv 1))
    (fun _ _ _ _ => zu (i := 0) (by show (["part"] : List Str).Nodup; decide +kernel) rfl (Or.inl rfl)) (fun _ _ _ _ => yq) (fun _ _ _ _ => zn (r := zeo K) zq (by rfl) T.len yd (zc (pv 0) zd)))
   (wc (own := ["part"]) (cap := []) rfl (yg (zj xz) rfl rfl (by decide +kernel) (by decide +kernel) (by decide +kernel) trivial) (qm (pv 2))
    (fun _ _ _ _ => zu (i := 0) (by show (["part"] : List Str).Nodup; decide +kernel) rfl (Or.inl rfl)) (fun _ _ _ _ => yq) (fun _ _ _ _ => zn (r := zeo K) zq (by rfl) T.len yd (zc (pv 0) zd))) (zt _)) (zi (zp xj)) zr)
  (ze (Qj (i := 3) (own := ["script"]) (cap := []) rfl (yg (zj xz) rfl rfl (by decide +kernel) (by decide +kernel) (by decide +kernel) trivial) (qm (zo zl (pv 0) (yx T.SCRIPTS) (fun _ _ => rfl)))
   (fun _ _ _ _ => zu (i := 0) (by show (["script"] : List Str).Nodup; decide +kernel) rfl (Or.inl rfl)) (fun _ _ _ _ => yq) (fun _ _ _ _ => zn (r := zeo K) zq (by rfl) T.len yd (zc (pv 0) zd)) nd rfl rfl (by with_unfolding_all rfl))
  (ze (yc (yu (yh (zn (wg rfl) rfl T.all qc (zc (wc (own := ["place", "most"]) (cap := []) (g := zh6 K 2 (Yt (wz 0) (Yt (wz 1) zh7))) rfl (yg (zj xz) rfl rfl (by decide +kernel) (by decide +kernel) (by decide +kernel) trivial)
   (zjl rfl T.zip (zc (zo zl (pv 1) (yx T.PLACES) (fun _ _ => rfl)) (zc (pv 3) zd)))
   (fun _ _ _ _ => qo rfl (yl (zu (i := 0) (by show (["place", "most"] : List Str).Nodup; decide +kernel) rfl (Or.inl rfl)) (yl (zu (i := 1) (by show (["place", "most"] : List Str).Nodup; decide +kernel) rfl (Or.inl rfl)) vc))) (fun _ _ _ _ => yq)
   (fun _ _ _ _ => zx o3 hr (zc (pv 0) (zc zh (zc (pv 1) zd))))) zd)))) (zi (zp xj)) zr)
  (zi (zp (zn (wg rfl) rfl T.all qc (zc (wc (own := ["number"]) (cap := []) rfl (yg (zj xz) rfl rfl (by decide +kernel) (by decide +kernel) (by decide +kernel) trivial) (qm (zo zl (pv 1) (yx T.NUMBERS) (fun _ _ => rfl)))
   (fun _ _ _ _ => zu (i := 0) (by show (["number"] : List Str).Nodup; decide +kernel) rfl (Or.inl rfl)) (fun _ _ _ _ => yq) (fun _ _ _ _ => zx o3 hr (zc (pv 0) (zc zh (zc (yx T.MOST_NUMBER) zd))))) zd)))))))), ?_⟩
 obtain ⟨a, as, ss, e0, ha, has, hl, hn⟩ := v6 A.ih;obtain ⟨c, p, q, e1, hc, hp, hq⟩ := qk A.is;have n4 := A.hd.n4;have n1 := A.hd.n1;have b0 := A.hd.b0;have lp := A.sd.lp;have ln := A.sd.ln;subst e0 e1;refine ⟨_, rfl, bx, dss, _, rfl, A.hd, A.ih, fun vf H1 s1 iF => ?_⟩;obtain ⟨cf, pf, qf, ef, hcf, hpf, hqf⟩ := qk iF;subst ef;refine ⟨_, rfl, tt ps ns, _, 2, 2, rfl, A.is.mono s1, fun H2 s2 => ⟨_, rfl, ?_⟩⟩;rw [show v5 (tt ps ns) 2 2 = true from rfl];refine ye ?_;have s12 := s1.trans s2;refine ⟨_, rfl, c, rfl, ⟨_, SqT.of (s12 _ _ hc)⟩, ?_⟩;refine qp (xs := [V.ref p, V.ref q]) (fun i ys H' => Same H2 H' ∧ ys = (List.replicate i true).map V.bl) ⟨Same.refl H2, rfl⟩ (fun i ys H' hi ⟨s', e⟩ => ⟨SqT.of (s' _ _ (s12 _ _ hc)), by rw [e, a7, c9]; exact zy (ay hi (by show 2 ≤ 1000; decide))⟩) ?_ ?_
 · rintro i x ys H' hx ⟨s', rfl⟩;refine qz ?_;have hT : ∃ (g : List Int), Is H' (tI g) x := by
    have s02 := s12.trans s';cases i with
    | zero => cases hx; exact ⟨ps, p, _, rfl, s02 _ _ hp, IsL.ints.mpr rfl⟩
    | succ i =>
      cases i with
      | zero => cases hx; exact ⟨ns, q, _, rfl, s02 _ _ hq, IsL.ints.mpr rfl⟩
      | succ i => simp at hx
   obtain ⟨g, ig⟩ := hT;refine ⟨_, rfl, x, "tuple", _, _, rfl, ig.ty, ju K (tI g), s', ?_⟩;rw [d4, al];rfl
 rintro ys H3 ⟨s3, rfl⟩ l3 hl3;have s4 := Same.new hl3 (.lst ((List.replicate 2 true).map V.bl));refine ⟨l3, _, rfl, SqL.of zf, _, rfl, ?_⟩;show (if (!true) = true then _ else _);refine ye ?_;have s34 := s3.trans s4;generalize hX : upd H3 l3 (.lst ((List.replicate [V.ref p, V.ref q].length true).map V.bl)) = H4;have s24 : Same H2 H4 := by rw [← hX]; exact s34
 clear hX s34 s4;have s04 := s12.trans s24;have two : ∀ (H5 : Hp) (c' p' q' : Addr) (ps' ns' : List Int), H5 c' = some (.tup [.ref p', .ref q']) → H5 p' = some (.tup (ps'.map V.int)) → H5 q' = some (.tup (ns'.map V.int)) → ∀ (i : Nat) (x : V) (H' : Hp), Same H5 H' → ([V.ref p', V.ref q'] : List V)[i]? = some x → ∃ (b : Addr) (g : List Int), x = .ref b ∧ H' b = some (.tup (g.map V.int)) ∧ ([(ps'.length : Int), (ns'.length : Int)] : List Int)[i]? = some (g.length : Int) := by
  intro H5 c' p' q' ps' ns' h1 h2 h3 i x H' s' hx;cases i with
  | zero => cases hx; exact ⟨p', ps', rfl, s' _ _ h2, rfl⟩
  | succ i =>
    cases i with
    | zero => cases hx; exact ⟨q', ns', rfl, s' _ _ h3, rfl⟩
    | succ i => simp at hx
 refine ⟨_, rfl, c, rfl, ⟨_, SqT.of (s04 _ _ hc)⟩, ?_⟩;refine qp (xs := [V.ref p, V.ref q]) (fun i ys H' => Same H4 H' ∧ ys = (([(ps.length : Int), (ns.length : Int)] : List Int).take i).map V.int) ⟨Same.refl H4, rfl⟩ (fun i ys H' hi ⟨s', e⟩ => ⟨SqT.of (s' _ _ (s04 _ _ hc)), by rw [e, a7]; exact zy (ay (List.length_take_le _ _) (ay hi (by show 2 ≤ 1000; decide)))⟩) ?_ ?_
 · rintro i x ys H' hx ⟨s', rfl⟩;refine qz ?_;obtain ⟨b, g, rfl, hb, eg⟩ := two H4 c p q ps ns (s04 _ _ hc) (s04 _ _ hp) (s04 _ _ hq) i x H' s' hx;refine ⟨_, rfl, b, _, rfl, .inr (SqT.of hb), s', ?_⟩;rw [c5, eg, al, a7];rfl
 rintro ys H5 ⟨s5, rfl⟩ l5 hl5;have s6 := Same.new hl5 (.lst ((([(ps.length : Int), (ns.length : Int)] : List Int).take [V.ref p, V.ref q].length).map V.int));have g6 : upd H5 l5 (.lst ((([(ps.length : Int), (ns.length : Int)] : List Int).take [V.ref p, V.ref q].length).map V.int)) l5 = some (.lst (([(ps.length : Int), (ns.length : Int)] : List Int).map V.int)) := zf;generalize upd H5 l5 (.lst ((([(ps.length : Int), (ns.length : Int)] : List Int).take [V.ref p, V.ref q].length).map V.int)) = H6 at s6 g6 ⊢;have s46 := s5.trans s6;have s06 := s04.trans s46;have s16 := s2.trans (s24.trans s46);refine ⟨_, rfl, cf, rfl, ⟨_, SqT.of (s16 _ _ hcf)⟩, ?_⟩;refine qp (xs := [V.ref pf, V.ref qf]) (fun i ys H' => Same H6 H' ∧ ys = (([((zs dss.length).length : Int), ((zs bx.toNat).length : Int)] : List Int).take i).map V.int) ⟨Same.refl H6, rfl⟩ (fun i ys H' hi ⟨s', e⟩ => ⟨SqT.of (s' _ _ (s16 _ _ hcf)), by rw [e, a7]; exact zy (ay (List.length_take_le _ _) (ay hi (by show 2 ≤ 1000; decide)))⟩) ?_ ?_
 · rintro i x ys H' hx ⟨s', rfl⟩;refine qz ?_;obtain ⟨b, g, rfl, hb, eg⟩ := two H6 cf pf qf _ _ (s16 _ _ hcf) (s16 _ _ hpf) (s16 _ _ hqf) i x H' s' hx;refine ⟨_, rfl, b, _, rfl, .inr (SqT.of hb), s', ?_⟩;rw [c5, eg, al, a7];rfl
 rintro ys H7 ⟨s7, rfl⟩ l7 hl7;have s8 := Same.new hl7 (.lst ((([((zs dss.length).length : Int), ((zs bx.toNat).length : Int)] : List Int).take [V.ref pf, V.ref qf].length).map V.int));have g8 : upd H7 l7 (.lst ((([((zs dss.length).length : Int), ((zs bx.toNat).length : Int)] : List Int).take [V.ref pf, V.ref qf].length).map V.int)) l7 = some (.lst (([((zs dss.length).length : Int), ((zs bx.toNat).length : Int)] : List Int).map V.int)) := zf;generalize upd H7 l7 (.lst ((([((zs dss.length).length : Int), ((zs bx.toNat).length : Int)] : List Int).take [V.ref pf, V.ref qf].length).map V.int)) = H8 at s8 g8 ⊢;have eZ : ([((zs dss.length).length : Int), ((zs bx.toNat).length : Int)] : List Int) = [(ps.length : Int), (ns.length : Int)] := by
  unfold zs;rw [c9, c9, lp, ln]
 rw [eZ] at g8;have s68 := s7.trans s8;have s08 := s06.trans s68;refine ⟨.lst (iT [(ps.length : Int), (ns.length : Int)]), .lst (iT [(ps.length : Int), (ns.length : Int)]), ⟨l5, _, rfl, s68 _ _ g6, IsL.ints.mpr rfl⟩, ⟨l7, _, rfl, g8, IsL.ints.mpr rfl⟩, jj _, jj _, Qz _, _, rfl, ?_⟩;rw [SeqAt.eqv_refl _ (jj _)];refine ye ?_;refine ⟨_, rfl, a, _, _, _, rfl, rfl, SqT.of (s08 _ _ ha), rfl, as, rfl, ⟨ss, SqT.of (s08 _ _ has)⟩, ?_⟩;refine qp (xs := ss) (fun i ys H' => Same H8 H' ∧ ys = ((wo dss).take i).map V.int) ⟨Same.refl H8, rfl⟩ (fun i ys H' hi ⟨s4, e⟩ => ⟨SqT.of (s4 _ _ (s08 _ _ has)), ?_⟩) ?_ ?_
 · rw [e, a7];exact zy (ay (List.length_take_le _ _) (by omega))
 · rintro i z ys H' hz ⟨s4, rfl⟩;refine qz ?_;have hi : i < dss.length := by rw [← hn]; exact (bh.mp hz).1
   obtain ⟨b, xs, eb, hb, hxs, hxn⟩ := Wu hl hi;rw [eb] at hz;cases hz;refine ⟨_, rfl, b, xs, rfl, .inr (SqT.of (s4 _ _ (s08 _ _ hb))), s4, ?_⟩;have eg : (wo dss)[i]? = some (xs.length : Int) := by
    unfold wo;rw [ao, ah hi, hxn, aq, ah hi];rfl
   rw [c5, eg, al];rfl
 rintro ys H9 ⟨s9, rfl⟩ l9 hl9;have el : (wo dss).take ss.length = wo dss := by
  rw [hn, List.take_of_length_le];unfold wo;rw [a7];exact a9 _
 rw [el];have s10 := Same.new hl9 (.lst ((wo dss).map V.int));have g10 : upd H9 l9 (.lst ((wo dss).map V.int)) l9 = some (.lst ((wo dss).map V.int)) := zf;generalize upd H9 l9 (.lst ((wo dss).map V.int)) = H10 at s10 g10 ⊢;have s010 := s08.trans (s9.trans s10);have hll : (wo dss).length = dss.length := by unfold wo; rw [a7]
 refine ⟨_, rfl, c, _, _, _, rfl, rfl, SqT.of (s010 _ _ hc), rfl, _, rfl, p, l9, _, _, rfl, s010 _ _ hp, g10, ?_⟩;refine zj5 (by rw [a7, a7, hll, lp]) (fun i ys H' => Same H10 H' ∧ ys = (List.replicate i true).map V.bl) ⟨Same.refl H10, rfl⟩ (fun i ys H' hi ⟨s', e⟩ => ⟨s' _ _ (s010 _ _ hp), s' _ _ g10, by rw [e, a7, c9]; rw [a7] at hi; exact zy (by omega)⟩) ?_ ?_
 · rintro i x1 z1 ys H' r hx hz ⟨s', rfl⟩ hr';have hi : i < ps.length := by have := (bh.mp hx).1; rw [a7] at this; exact this
   have hid : i < dss.length := by omega
   rw [w9 hi] at hx;rw [w9 (show i < (wo dss).length by omega)] at hz;cases hx;cases hz;have sr := Same.new hr' (.tup [.int (ps.getD i 0), .int ((wo dss).getD i 0)]);have gr : upd H' r (.tup [.int (ps.getD i 0), .int ((wo dss).getD i 0)]) r = some (.tup [.int (ps.getD i 0), .int ((wo dss).getD i 0)]) := zf;generalize upd H' r (.tup [.int (ps.getD i 0), .int ((wo dss).getD i 0)]) = H11 at sr gr ⊢;refine ⟨r, _, rfl, SqT.of gr, rfl, _, _, rfl, _, _, rfl, rfl, ?_⟩;refine if0 ?_;refine ⟨_, rfl, _, rfl, .int (ps.getD i 0), _, 0, _, rfl, rfl, fun H12 s12' => ⟨s'.trans (sr.trans s12'), ?_⟩⟩;have eL : (wo dss).getD i 0 = ((dss.getD i []).length : Int) := by
    unfold wo;rw [aq, ao, ah hid, aq, ah hid];rfl
   rw [eL, xo (qy A.sd.p0 i) (A.sd.pl i), d4, al];rfl
 rintro ys H11 ⟨s11, rfl⟩ l11 hl11;have allT : ∀ n : Nat, (List.replicate n true).all id = true := fun n => by
  rw [cz];intro b hb;exact (dl.mp hb).2
 generalize hN : (List.map V.int ps).length = N;have s12' := Same.new hl11 (.lst ((List.replicate N true).map V.bl));refine ⟨l11, _, rfl, SqL.of zf, _, rfl, ?_⟩;rw [allT];refine ye ?_;generalize upd H11 l11 (.lst ((List.replicate N true).map V.bl)) = H12 at s12' ⊢;have s012 := s010.trans (s11.trans s12');refine ⟨_, rfl, c, _, _, _, rfl, rfl, SqT.of (s012 _ _ hc), rfl, q, rfl, ⟨_, SqT.of (s012 _ _ hq)⟩, ?_⟩;refine qp (xs := ns.map V.int) (fun i ys H' => Same H12 H' ∧ ys = (List.replicate i true).map V.bl) ⟨Same.refl H12, rfl⟩ (fun i ys H' hi ⟨s', e⟩ => ⟨SqT.of (s' _ _ (s012 _ _ hq)), by rw [e, a7, c9]; rw [a7] at hi; exact zy (by have := A.hd.b6; omega)⟩) ?_ ?_
 · rintro i x ys H' hx ⟨s', rfl⟩;refine qz ?_;have hi : i < ns.length := by have := (bh.mp hx).1; rw [a7] at this; exact this
   rw [w9 hi] at hx;cases hx;refine ⟨_, rfl, .int (ns.getD i 0), _, 0, _, rfl, rfl, fun H13 s13 => ⟨s'.trans s13, ?_⟩⟩;have h9 := S.n9 (ns.getD i 0) (by rw [aq, ah hi]; exact List.getElem_mem hi);rw [xo h9.1 h9.2, d4, al];rfl
 · rintro ys H13 ⟨s13, rfl⟩ l13 hl13;refine ⟨l13, _, rfl, SqL.of zf, ?_⟩;rw [allT];exact kk _ (s012.trans (s13.trans (Same.new hl13 _)))
abbrev j2 : Stmt := top 63
theorem zh0 : isS x (.say y) = PyData.eqv (toD (.str y)) (toD (.str x)) := by
 show PyData.eqvAll [.str "say", .str y] [.str "say", .str x] = PyData.eqv (.str y) (.str x);simp [PyData.eqvAll, PyData.eqv]
theorem zkc {w : Str} : isS x (.act w b n r) = false := by
 cases h : isS x (.act w b n r) with
 | false => rfl
 | true => have := zdu h; cases this
theorem Yx (x : Str) : ∀ ds : List Dd, ((xf (ds.map Dd.t)).map L2.T.str).countP (fun t => PyData.eqv (toD t) (toD (.str x))) = ds.countP (isS x)
 | [] => rfl
 | d :: ds => by
   have ih := Yx x ds;cases d with
   | say y =>
     have e : xf ((Dd.say y :: ds).map Dd.t) = y :: xf (ds.map Dd.t) := rfl;rw [e, de, List.countP_cons, ih, List.countP_cons, zh0]
   | act w b n r =>
     have e : xf ((Dd.act w b n r :: ds).map Dd.t) = xf (ds.map Dd.t) := rfl;rw [e, ih, List.countP_cons, zkc];simp
theorem zht (h : (toD (Dd.say y).t).canLay0 = true) : (toD (.str y)).canLay0 = true := by
 have h : PyData.canLayAll0 [.str "say", .str y] = true := h;simp only [PyData.canLayAll0, bc] at h;exact h.2.1
theorem K4 (h : ∀ d ∈ ds, (toD d.t).canLay0 = true) : ∀ t ∈ (xf (ds.map Dd.t)).map L2.T.str, (toD t).canLay0 = true := fun t ht => by
 obtain ⟨y, hy, rfl⟩ := bq.mp ht;unfold xf at hy;rw [List.mem_filterMap] at hy;obtain ⟨u, hu, e⟩ := hy;obtain ⟨d, hd, rfl⟩ := bq.mp hu;cases d with
 | say z =>
   cases e;exact zht (h _ hd)
 | act w b n r => cases e
theorem Y4 (h : i < dss.length) : (tms x dss ps)[i]? = some ((va x (dss.getD i []) (ps.getD i 0) : Nat) : Int) := by
 unfold tms;rw [ao, List.getElem?_range h];rfl
theorem Xm : FnScope ["house", "stand", "comes", "goes", "hand", "said"] ["house", "stand"] (zj j2) := ⟨rfl, rfl, rfl, by decide +kernel, rfl, by decide +kernel, by decide +kernel⟩
theorem zae (D : Def K mg "_law_e_too_early" j2) (T : Txt K mg) : Ok P w K mg base "_law_e_too_early" 1 ["house", "stand"] zjb := by
 refine xx D Xm (fun _ _ _ _ _ _ us hl => (match us, hl with | [_, _], _ => rfl)) (fun vs H Q E ⟨_, _, _, _, _, _, e, _⟩ => by rw [e]; rfl) fun f cdv A outer s H vs Q E hr h => ?_;obtain ⟨bx, dss, ps, ns, vh, vst, rfl, A, kk⟩ := h;have nd := Xm.nd;have hun := hr.units;refine ⟨_, ze (ya (i := 2) nd rfl (Or.inl rfl) (qv zd)) (ze (ya (i := 3) nd rfl (Or.inl rfl) (qv zd))
  (ze (vy PassesOwn.never rfl (xu rfl T.range (zc (zn zq (by rfl) T.len yd (zc (zo zl (pv 0) zh (fun _ _ => rfl)) zd)) zd)) (zu (i := 4) nd rfl (Or.inl rfl))
   (ze (Qj (i := 5) (own := ["deed"]) (cap := []) rfl (yg (zj j2) rfl rfl (by decide +kernel) (by decide +kernel) (by decide +kernel) trivial)
    (qm (kw zga (zo zl (zo zl (pv 0) zh (fun _ _ => rfl)) (pv 4) (fun _ _ => rfl)) X9 (Zf (zo zl (zo zl (pv 1) zh (fun _ _ => rfl)) (pv 4) (fun _ _ => rfl)))))
    (fun _ _ _ _ => zu (i := 0) (by show (["deed"] : List Str).Nodup; decide +kernel) rfl (Or.inl rfl)) (fun _ _ _ _ => Zh (zw wa (zo (r := Vw K) zl (pv 0) zh (fun _ _ => rfl)) yi (zt _))) (fun _ _ _ _ => zo (r := Vw K) zl (pv 0) zh (fun _ _ => rfl)) nd rfl rfl (by with_unfolding_all rfl))
   (ze (vz (Xq PySem.F.plainAttrs_list PySem.F.slot_list_append PySem.F.type_list_append jb (pv 2) (zc (Xq PySem.F.plainAttrs_list PySem.F.slot_list_count PySem.F.type_list_count (Qp hun) (pv 5) (zc yi zd)) zd)))
   (zi (vz (Xq PySem.F.plainAttrs_list PySem.F.slot_list_append PySem.F.type_list_append jb (pv 3) (zc (Xq PySem.F.plainAttrs_list PySem.F.slot_list_count PySem.F.type_list_count (Qp hun) (pv 5) (zc yi zd)) zd)))))))
  (zi (zp (xg W1 (zn (Q1 rfl) rfl T.max zio (zc (pv 3) zd)) (zn (jw rfl) rfl T.min Vn (zc (pv 2) zd)) (zt _)))))), ?_⟩
 obtain ⟨a, as, ss, e0, ha, has, hl, hn⟩ := v6 A.ih;obtain ⟨c, p, q, e1, hc, hp, hq⟩ := qk A.is;have n4 := A.hd.n4;have n1 := A.hd.n1;have lp := A.sd.lp;refine ⟨by show 0 ≤ 1000; decide, fun lc H1 s1 hlc gc => ?_⟩;refine ⟨by show 0 ≤ 1000; decide, fun lg H2 s2 hlg gg => ?_⟩;have s02 := s1.trans s2;have ncg : lc ≠ lg := fun z => by rw [← z, gc] at hlg; cases hlg
 have hlcH : H lc = none := hlc;have hlgH : H lg = none := by
  cases y : H lg with
  | none => rfl
  | some o => rw [s1 _ _ y] at hlg; cases hlg
 refine ⟨_, rfl, a, _, _, _, e0, rfl, SqT.of (s02 _ _ ha), rfl, as, ss, rfl, .inr (SqT.of (s02 _ _ has)), _, rfl, by omega, by omega, ?_⟩;refine jc (lo := 0) (n := ((ss.length : Nat) : Int).toNat) (fun i σ H' => ∃ x4 x5, σ = [some vh, some vst, some (.ref lc), some (.ref lg), x4, x5] ∧ Same H H' ∧ H' lc = some (.lst (((tms "come" dss ps).take i).map V.int)) ∧ H' lg = some (.lst (((tms "go" dss ps).take i).map V.int))) ⟨none, none, rfl, s02, s2 _ _ gc, gg⟩ ?_ ?_
 · rintro i σ H3 hi ⟨x4, x5, rfl, s3, gc3, gg3⟩;rw [Int.zero_add];rw [bw] at hi;have hk : i < dss.length := by omega
   have hkp : i < ps.length := by omega
   obtain ⟨b, xs, eb, hb, hxs, hxn⟩ := Wu hl hk;have hm : dss.getD i [] ∈ dss := by rw [aq, ah hk]; exact List.getElem_mem hk
   have h0 := qy A.sd.p0 i;refine ⟨_, rfl, a, _, _, _, e0, rfl, SqT.of (s3 _ _ ha), rfl, _, rfl, as, ss, _, _, rfl, rfl, SqT.of (s3 _ _ has), yo eb, ?_⟩;refine ⟨_, rfl, c, _, _, _, e1, rfl, SqT.of (s3 _ _ hc), rfl, _, rfl, p, _, _, _, rfl, rfl, SqT.of (s3 _ _ hp), yo (w9 hkp), _, rfl, (dss.getD i []).map Dd.t, ⟨b, xs, rfl, s3 _ _ hb, hxs.mono s3⟩, fun u H4 s4 iu => ?_⟩;rw [show ps.getD i 0 = (((ps.getD i 0).toNat : Nat) : Int) from by omega, zcu, ← List.map_take] at iu;generalize hds : (dss.getD i []).take (ps.getD i 0).toNat = ds at iu;have hns : ∀ d ∈ ds, d.NS := fun d hd => by rw [← hds] at hd; exact A.hd.ns _ hm d (List.mem_of_mem_take hd)
   have hlay : ∀ d ∈ ds, (toD d.t).canLay0 = true := fun d hd => by rw [← hds] at hd; exact A.hd.lay _ hm d (List.mem_of_mem_take hd)
   have hdl : ds.length ≤ 30 := by
    rw [← hds];exact ay (List.length_take_le' _ _) (A.hd.few _ hm)
   obtain ⟨au, zs', rfl, hau, hz⟩ := iu;have hzl := hz.length;rw [a7] at hzl;refine ⟨au, rfl, ⟨zs', SqT.of hau⟩, ?_⟩;refine qp (xs := zs') (fun j ys H' => Same H4 H' ∧ ys = (xf ((ds.take j).map Dd.t)).map V.str) ⟨Same.refl H4, rfl⟩ (fun j ys H' hj ⟨s5, e⟩ => ⟨SqT.of (s5 _ _ hau), ?_⟩) ?_ ?_
   · rw [e, a7];refine ay (K3 _) ?_;rw [a7];exact zy (ay (List.length_take_le _ _) (by omega))
   · rintro j z ys H' hz' ⟨s5, rfl⟩;have hj : j < ds.length := by rw [← hzl]; exact (bh.mp hz').1
     have ed : ds[j]? = some ds[j] := ah hj;obtain ⟨t, et, it⟩ := hz.get' hz';rw [ao, ed] at et;cases et;have it := it.mono s5;rw [Qf ed];have hn' := hns ds[j] (List.getElem_mem hj);generalize ds[j] = d at it hn' ⊢;cases d with
     | say x =>
       obtain ⟨ad, rfl, had⟩ := Vh it;refine ⟨_, rfl, ad, _, _, _, rfl, rfl, SqT.of had, at0, rfl, _, rfl, ?_⟩;refine y0 (fun _ => ?_) (fun z => absurd (by decide +kernel) z);exact ⟨_, rfl, ad, _, _, _, rfl, rfl, SqT.of had, at1, s5, by rw [al]; rfl⟩
     | act w b n r =>
       obtain ⟨ad, vs, rfl, had, _⟩ := Vi it;have hn' : wEq w "say" = false := hn';refine ⟨_, rfl, ad, _, _, _, rfl, rfl, SqT.of had, at0, rfl, _, rfl, ?_⟩;refine y0 (fun z => absurd z (by rw [show decide (V.str w = V.str "say") = false from hn']; decide)) (fun _ => ⟨s5, ?_⟩);rw [show (Yf (Dd.act w b n r).t).toList = [] from rfl, cw]
   rintro ys H5 ⟨s5, rfl⟩ ls hls;rw [hzl, c8];have s6 := Same.new hls (.lst ((xf (ds.map Dd.t)).map V.str));have g6 : upd H5 ls (.lst ((xf (ds.map Dd.t)).map V.str)) ls = some (.lst ((xf (ds.map Dd.t)).map V.str)) := zf;generalize upd H5 ls (.lst ((xf (ds.map Dd.t)).map V.str)) = H6 at s6 g6 ⊢;have s36 := s4.trans (s5.trans s6);have gc6 := s36 _ _ gc3;have gg6 := s36 _ _ gg3;have nsc : ls ≠ lc := fun z => by rw [z, (s4.trans s5) _ _ gc3] at hls; cases hls
   have nsg : ls ≠ lg := fun z => by rw [z, (s4.trans s5) _ _ gg3] at hls; cases hls
   have iw : ∀ {H' : Hp}, H' ls = some (.lst ((xf (ds.map Dd.t)).map V.str)) → Is H' (.lst ((xf (ds.map Dd.t)).map L2.T.str)) (.ref ls) := fun h => ⟨ls, _, rfl, h, IsL.strs⟩
   have hcl : ((tms "come" dss ps).take i).length ≤ 4 := ay (List.length_take_le _ _) (by omega);have hgl : ((tms "go" dss ps).take i).length ≤ 4 := ay (List.length_take_le _ _) (by omega);have ec : ∀ x : Str, ds.countP (isS x) = va x (dss.getD i []) (ps.getD i 0) := fun x => by rw [← hds]; rfl
   refine ⟨_, rfl, .inl ⟨rfl, _, SqL.of gc6⟩, _, rfl, .inl ⟨rfl, _, SqL.of g6⟩, _, .str "come", _, rfl, iw g6, rfl, K4 hlay, by kernel_rfl, by decide +kernel, lc, _, _, rfl, rfl, gc6, Y6 (by rw [a7]; omega), ?_⟩;rw [Yx, ec];have gc7 : upd H6 lc (.lst (((tms "come" dss ps).take i).map V.int ++ [.int ((va "come" (dss.getD i []) (ps.getD i 0) : Nat) : Int)])) lc = some (.lst (((tms "come" dss ps).take (i + 1)).map V.int)) := by
    rw [zf, c5, Y4 hk, al];rfl
   have gg7 : upd H6 lc (.lst (((tms "come" dss ps).take i).map V.int ++ [.int ((va "come" (dss.getD i []) (ps.getD i 0) : Nat) : Int)])) lg = some (.lst (((tms "go" dss ps).take i).map V.int)) := by
    rw [zk (ae ncg)]; exact gg6
   have g7 : upd H6 lc (.lst (((tms "come" dss ps).take i).map V.int ++ [.int ((va "come" (dss.getD i []) (ps.getD i 0) : Nat) : Int)])) ls = some (.lst ((xf (ds.map Dd.t)).map V.str)) := by
    rw [zk nsc]; exact g6
   have s7 : Same H (upd H6 lc (.lst (((tms "come" dss ps).take i).map V.int ++ [.int ((va "come" (dss.getD i []) (ps.getD i 0) : Nat) : Int)]))) := fun b' o e => by
    rw [zk (zm e hlcH)]; exact s36 _ _ (s3 _ _ e)
   generalize upd H6 lc (.lst (((tms "come" dss ps).take i).map V.int ++ [.int ((va "come" (dss.getD i []) (ps.getD i 0) : Nat) : Int)])) = H7 at gc7 gg7 g7 s7 ⊢;refine ⟨_, rfl, .inl ⟨rfl, _, SqL.of gg7⟩, _, rfl, .inl ⟨rfl, _, SqL.of g7⟩, _, .str "go", _, rfl, iw g7, rfl, K4 hlay, by kernel_rfl, by decide +kernel, lg, _, _, rfl, rfl, gg7, Y6 (by rw [a7]; omega), ?_⟩;rw [Yx, ec];refine ⟨_, _, rfl, fun b' o e => ?_, ?_, ?_⟩
   · rw [zk (zm e hlgH)]; exact s7 _ _ e
   · rw [zk ncg]; exact gc7
   · rw [zf, c5, Y4 hk, al];rfl
 rintro σ H3 ⟨x4, x5, rfl, s3, gc3, gg3⟩;have et : ∀ x : Str, (tms x dss ps).take ((ss.length : Nat) : Int).toNat = tms x dss ps := fun x => by
  rw [bw, hn, List.take_of_length_le];unfold tms;rw [a7, cq];exact a9 _
 rw [et] at gc3 gg3;refine ⟨_, rfl, lg, _, rfl, SqL.of gg3, Jb n1, fun g hg1 hg2 => ?_⟩;refine ⟨_, rfl, lc, _, rfl, SqL.of gc3, Jb n1, fun c' hc1 hc2 => ?_⟩;refine ⟨_, _, rfl, rfl, ?_⟩;show Q (.bl (decide (g > c'))) H3;rw [zh3 hg1 hg2 hc1 hc2];exact kk H3 s3
abbrev Sn := List Int × List Int
noncomputable def kS (st : Sn) : yz := [st.1, st.2]
noncomputable def tS (st : Sn) : T := tt st.1 st.2
theorem Ka {a b : Sn} (h : kS a = kS b) : a = b := by
 obtain ⟨a1, a2⟩ := a;obtain ⟨b1, b2⟩ := b;unfold kS at h;injection h with h1 h2;injection h2 with h2 _;rw [show a1 = b1 from h1, show a2 = b2 from h2]
theorem Zz {a : Sn} {L : List Sn} : kS a ∈ L.map kS ↔ a ∈ L := by
 rw [bq];constructor
 · rintro ⟨b, hb, e⟩;rw [← Ka e]; exact hb
 · intro h;exact ⟨a, h, rfl⟩
theorem za0 {L : List Sn} : (L.map kS).Nodup ↔ L.Nodup := by
 show (L.map kS).Pairwise (· ≠ ·) ↔ L.Pairwise (· ≠ ·);rw [List.pairwise_map];constructor
 · exact fun h => h.imp fun h z => h (by rw [z])
 · exact fun h => h.imp fun h z => h (Ka z)
theorem Yu (L : List Sn) : wx (L.map tS) := wx.all.mpr fun t ht => by
 obtain ⟨g, _, rfl⟩ := bq.mp ht;exact jp
noncomputable def s00 (bx : Int) (dss : List (List Dd)) : Sn := (zs dss.length, zs bx.toNat)
theorem Ya {α : Type} [DecidableEq α] : ∀ {L M : List α}, L.Nodup → (∀ x ∈ L, x ∈ M) → L.length ≤ M.length
 | [], _, _, _ => bo _
 | a :: L, M, nd, h => by
   rw [c7] at nd;have ha := h a be;have := Ya (L := L) (M := M.erase a) nd.2 fun x hx => (List.mem_erase_of_ne (show x ≠ a from fun z => nd.1 (by rw [← z]; exact hx))).mpr (h x (bn _ hx));rw [List.length_erase_of_mem ha] at this;have : 0 < M.length := List.length_pos_of_mem ha;rw [ck];omega
noncomputable def zf0 : Nat → Nat → List (List Int)
 | 0, _ => [[]]
 | n + 1, m => ((List.range (m + 1)).map fun (i : Nat) => (i : Int)).flatMap fun x => (zf0 n m).map (x :: ·)
theorem W5 : ∀ {n m : Nat} {g : List Int}, g.length = n → (∀ x ∈ g, 0 ≤ x ∧ x ≤ (m : Int)) → g ∈ zf0 n m
 | 0, m, g, h, _ => by
   have : g = [] := ez.mp h;rw [this];exact ak.mpr rfl
 | n + 1, m, [], h, _ => by cases h
 | n + 1, m, x :: g, h, hx => by
   have h1 := W5 (n := n) (m := m) (g := g) (by rw [ck] at h; omega) fun y hy => hx y (bn _ hy);have h2 := hx x be;unfold zf0;rw [List.mem_flatMap];exact ⟨x, bq.mpr ⟨x.toNat, cb.mpr (by omega), by omega⟩, bq.mpr ⟨g, h1, rfl⟩⟩
noncomputable def zm3 (c d b : Nat) : List Sn := (zf0 c d).flatMap fun p => (zf0 b 9).map fun n => (p, n)
theorem zhi {c d b : Nat} {st : Sn} (h1 : st.1.length = c) (h2 : ∀ x ∈ st.1, 0 ≤ x ∧ x ≤ (d : Int)) (h3 : st.2.length = b) (h4 : ∀ x ∈ st.2, 0 ≤ x ∧ x ≤ (9 : Int)) : st ∈ zm3 c d b := by
 unfold zm3;rw [List.mem_flatMap];exact ⟨st.1, W5 h1 h2, bq.mpr ⟨st.2, W5 h3 h4, rfl⟩⟩
noncomputable def zbj : Nat → Nat → Nat → List (List Int)
 | 0, _, _ => [[]]
 | n + 1, a, b => [] :: ((if a = 0 then [] else (zbj n (a - 1) b).map (0 :: ·)) ++ (if b = 0 then [] else (zbj n a (b - 1)).map (1 :: ·)))
theorem W4 : ∀ {n a b : Nat} {ws : List Int}, ws.length ≤ n → (∀ h ∈ ws, h = 0 ∨ h = 1) → ws.count 0 ≤ a → ws.count 1 ≤ b → ws ∈ zbj n a b
 | 0, a, b, ws, h, _, _, _ => by
   have : ws = [] := ez.mp (by omega);rw [this];exact ak.mpr rfl
 | n + 1, a, b, [], _, _, _, _ => be
 | n + 1, a, b, x :: ws, h, hx, h0, h1 => by
   have hl : ws.length ≤ n := by rw [ck] at h; omega
   have ha := fun y hy => hx y (bn x hy);unfold zbj;refine bn _ (br.mpr ?_);rcases hx x be with rfl | rfl
   · left;have e0 : (0 :: ws : List Int).count 0 = ws.count 0 + 1 := List.count_cons_self;have e1 : (0 :: ws : List Int).count 1 = ws.count 1 := List.count_cons_of_ne (by decide);rw [if_neg (by omega)];exact bq.mpr ⟨ws, W4 hl ha (by omega) (by omega), rfl⟩
   · right;have e0 : (1 :: ws : List Int).count 1 = ws.count 1 + 1 := List.count_cons_self;have e1 : (1 :: ws : List Int).count 0 = ws.count 0 := List.count_cons_of_ne (by decide);rw [if_neg (by omega)];exact bq.mpr ⟨ws, W4 hl ha (by omega) (by omega), rfl⟩
theorem zfy : (zbj 10 5 5).length = 923 := by decide +kernel
theorem zi6 {q : Sn} (hd : HD bx dss) (sd : SD bx dss ps ns) (e : yt dss ps ns h = some q) : (0 ≤ h ∧ h < (dss.length : Int)) ∧ ∀ k : Nat, ps.getD k 0 + (if h = (k : Int) then 1 else 0) ≤ q.1.getD k 0 := by
 obtain ⟨k, d, rfl, hk, e1, e2, e3⟩ := ww e;refine ⟨by omega, fun j => ?_⟩;rw [e3];have hkp : k < ps.length := by rw [sd.lp]; exact hk
 have h2 := Wc (ns := ns) (jq hd e1);by_cases c : j = k
 · subst c;rw [if_pos rfl];show _ ≤ (ps.set j _).getD j 0;rw [aq (l := ps.set _ _), List.getElem?_set_self hkp];show _ ≤ ps.getD j 0 + 1 + qr d ns;omega
 · rw [if_neg (by omega)];show _ ≤ (ps.set k _).getD j 0;rw [aq (l := ps.set _ _), List.getElem?_set_ne (ae c), ← aq];omega
theorem zge {bx : Int} {dss : List (List Dd)} (hd : HD bx dss) : ∀ {ws : List Int} {ps ns : List Int} {q : Sn}, SD bx dss ps ns → xy dss ps ns ws = some q → SD bx dss q.1 q.2 ∧ (∀ h ∈ ws, 0 ≤ h ∧ h < (dss.length : Int)) ∧ ∀ k : Nat, ps.getD k 0 + (ws.count (k : Int) : Int) ≤ q.1.getD k 0
 | [], ps, ns, q, sd, e => by
   have e : some (ps, ns) = some q := e;cases e;exact ⟨sd, (fun h hh => by cases hh), fun k => by simp⟩
 | h :: ws, ps, ns, q, sd, e => by
   have e1 : xy dss ps ns (h :: ws) = match yt dss ps ns h with
    | none => none
    | some (qs, ms) => xy dss qs ms ws := rfl
   rw [e1] at e;cases e2 : yt dss ps ns h with
   | none => rw [e2] at e; cases e
   | some r =>
     rw [e2] at e;obtain ⟨u1, u2⟩ := zi6 hd sd e2;obtain ⟨r1, r2, r3⟩ := zge hd (ws := ws) (SD.step hd sd (show yt dss ps ns h = some (r.1, r.2) from e2)) e;refine ⟨r1, fun x hx => ?_, fun k => ?_⟩
     · rcases aa.mp hx with rfl | hx
       · exact u1
       · exact r2 x hx
     · have a1 := u2 k;have a2 := r3 k;rw [List.count_cons];by_cases c : h = (k : Int)
       · rw [if_pos c] at a1;rw [if_pos (by rw [c]; exact beq_self_eq_true _)];omega
       · rw [if_neg c] at a1;rw [if_neg (by simpa using c)];omega
noncomputable def CrD (bx : Int) (dss : List (List Dd)) : Prop := ∃ d : Int, Cr (dss.length : Int) d bx ∧ ∀ ds ∈ dss, (ds.length : Int) ≤ d
noncomputable def Rch (dss : List (List Dd)) (s0 st : Sn) : Prop := ∃ ws, xy dss s0.1 s0.2 ws = some st
theorem SL.place {d : Int} (S : SL bx dss ps ns) (h : ∀ ds ∈ dss, (ds.length : Int) ≤ d) : ∀ x ∈ ps, 0 ≤ x ∧ x ≤ d := fun x hx => by
 obtain ⟨i, hi, rfl⟩ := d0.mp hx;have h1 := S.sd.pl i;have hid : i < dss.length := by rw [← S.sd.lp]; exact hi
 have eg : dss.getD i [] = dss[i] := by rw [aq, ah hid]; rfl
 have ep : ps.getD i 0 = ps[i] := by rw [aq, ah hi]; rfl
 rw [eg, ep] at h1;have := h _ (List.getElem_mem hid);exact ⟨S.sd.p0 _ hx, by omega⟩
theorem Yv {c d b n : Nat} {L : List Sn} (hc : dss.length = c) (hd : ∀ ds ∈ dss, (ds.length : Int) ≤ (d : Int)) (hb : bx.toNat = b) (hn : (zm3 c d b).length ≤ n) (nd : L.Nodup) (h : ∀ st ∈ L, SL bx dss st.1 st.2) : L.length ≤ n :=
 ay (Ya nd fun st hs => zhi (by rw [(h st hs).sd.lp, hc]) ((h st hs).place hd) (by rw [(h st hs).sd.ln, hb]) (h st hs).n9) hn
theorem zdw {s0 : Sn} {L : List Sn} (hd : HD bx dss) (C : CrD bx dss) (S0 : SL bx dss s0.1 s0.2) (nd : L.Nodup) (h : ∀ st ∈ L, SL bx dss st.1 st.2 ∧ Rch dss s0 st) : L.length ≤ 1250 := by
 obtain ⟨d, cr, hl⟩ := C;rcases cr with ⟨c1, rfl, rfl⟩ | ⟨c1, rfl, rfl⟩ | ⟨c1, rfl, rfl⟩ | ⟨c1, rfl, rfl⟩ | ⟨c1, rfl, rfl⟩ | ⟨c1, rfl, rfl⟩
 · exact Yv (c := 2) (d := 6) (b := 1) (by omega) hl rfl (by decide +kernel) nd fun st hs => (h st hs).1
 · have h2 : dss.length = 2 := by omega
   have : L.length ≤ ((zbj 10 5 5).filterMap fun ws => xy dss s0.1 s0.2 ws).length := Ya nd fun st hs => by
    obtain ⟨S, ws, e⟩ := h st hs;obtain ⟨_, w1, w2⟩ := zge hd S0.sd e;have p0 := qy S0.sd.p0;have pl : ∀ k, st.1.getD k 0 ≤ 5 := fun k => by
     have := S.sd.pl k;have h5 : ((dss.getD k []).length : Int) ≤ 5 := by
      by_cases hk : k < dss.length
      · rw [aq, ah hk];exact hl _ (List.getElem_mem hk)
      · rw [aq, dz (by omega)];decide
     omega
    have k0 := w2 0;have k1 := w2 1;have q0 := pl 0;have q1 := pl 1;have r0 := p0 0;have r1 := p0 1;have hb : ∀ h ∈ ws, h = 0 ∨ h = 1 := fun h hh => by have := w1 h hh; omega
    have hlen : ws.length = ws.count 0 + ws.count 1 := by
     clear e w1 w2 k0 k1;induction ws with
     | nil => rfl
     | cons x ws ih =>
       have := ih fun y hy => hb y (bn _ hy);rw [ck, List.count_cons, List.count_cons];rcases hb x be with rfl | rfl
       · simp; omega
       · simp; omega
    have k0 : s0.1.getD 0 0 + (ws.count 0 : Int) ≤ st.1.getD 0 0 := k0;have k1 : s0.1.getD 1 0 + (ws.count 1 : Int) ≤ st.1.getD 1 0 := k1;exact List.mem_filterMap.mpr ⟨ws, W4 (by omega) hb (by omega) (by omega), e⟩
   have h3 := List.length_filterMap_le (fun ws => xy dss s0.1 s0.2 ws) (zbj 10 5 5);rw [zfy] at h3;omega
 · exact Yv (c := 3) (d := 4) (b := 1) (by omega) hl rfl (by decide +kernel) nd fun st hs => (h st hs).1
 · exact Yv (c := 4) (d := 2) (b := 1) (by omega) hl rfl (by decide +kernel) nd fun st hs => (h st hs).1
 · exact Yv (c := 1) (d := 8) (b := 2) (by omega) hl rfl (by decide +kernel) nd fun st hs => (h st hs).1
 · exact Yv (c := 2) (d := 6) (b := 0) (by omega) hl rfl (by decide +kernel) nd fun st hs => (h st hs).1
theorem zp9 {w : Str} {beh : Int} (h : mLD (Dd.act w b n r).t bx beh = true) (hn : wEq w "say" = false) : 0 ≤ n ∧ n ≤ 9 := by
 have h : ((decide (1 ≤ (L2.T.int b :: .int n :: r).length) && decide ((L2.T.int b :: .int n :: r).length ≤ 3)) && J4 w (.int b :: .int n :: r) bx beh) = true := h;rw [bc] at h;have h2 := h.2;unfold J4 at h2;rw [if_neg (by rw [hn]; decide)] at h2;split at h2
 · cases h2
 · rw [bc, bc] at h2;obtain ⟨i, e, h0, h9⟩ := jy (show yr (.int n) 0 9 = true from h2.2.1);cases e;exact ⟨h0, h9⟩
theorem HD.n9 (hd : HD bx dss) (hm : ds ∈ dss) {w : Str} (h : Dd.act w b n r ∈ ds) : 0 ≤ n ∧ n ≤ 9 := by
 have g := hd.good;have g : (yr (.int bx) 0 6 && (v5 (.tup (dss.map scT)) 1 4 && (dss.map scT).all fun s => mLS s bx)) = true := g;rw [bc, bc] at g;have g3 := (cz.mp g.2.2) (scT ds) (bq.mpr ⟨ds, hm, rfl⟩)
 have g3 : (v5 (scT ds) 0 30 && zhk (ds.map Dd.t) bx) = true := g3;rw [bc] at g3;obtain ⟨i, hi, e⟩ := d0.mp h;have g4 := (cz.mp g3.2) i (cb.mpr (by rw [a7]; exact hi));rw [aq, ao, ah hi, e] at g4;exact zp9 g4 (hd.ns ds hm _ h)
theorem SL.step {bx : Int} {dss : List (List Dd)} {ps ns qs ms : List Int} {h : Int} (hd : HD bx dss) (S : SL bx dss ps ns) (e : yt dss ps ns h = some (qs, ms)) : SL bx dss qs ms := by
 refine ⟨S.sd.step hd e, ?_⟩;obtain ⟨k, d, rfl, hk, e1, e2, e3⟩ := ww e;cases e3;have hm : dss.getD k [] ∈ dss := by rw [aq, ah hk]; exact List.getElem_mem hk
 have hmem := bj e1;cases d with
 | say x => exact S.n9
 | act w b n r =>
   have h9 := hd.n9 hm hmem;show ∀ y ∈ nR w b n (nP w b n ns), 0 ≤ y ∧ y ≤ 9;have hP : ∀ y ∈ nP w b n ns, 0 ≤ y ∧ y ≤ 9 := fun y hy => by
    unfold nP at hy;split at hy
    · rcases List.mem_or_eq_of_mem_set hy with z | z
      · exact S.n9 y z
      · rw [z]; exact h9
    · exact S.n9 y hy
   intro y hy;unfold nR at hy;split at hy
   · rcases List.mem_or_eq_of_mem_set hy with z | z
     · exact hP y z
     · rw [z]; omega
   · exact hP y hy
theorem SL.first {bx : Int} {dss : List (List Dd)} : SL bx dss (zs dss.length) (zs bx.toNat) := ⟨SD.first, fun n hn => by unfold zs at hn; rw [(dl.mp hn).2]; decide⟩
theorem zoz (L : LH bx p (dss.map scT)) : CrD bx dss := by
 obtain ⟨d, cr, h⟩ := L.cr;rw [a7] at cr;refine ⟨d, cr, fun ds hd => ?_⟩;obtain ⟨ts, e, _, _, _, _, n⟩ := h (scT ds) (bq.mpr ⟨ds, hd, rfl⟩);cases e;rw [a7] at n;exact n
end
end My
namespace My
noncomputable def wsI (cs : List Int) (i : Nat) : List Int := ((List.range i).filter fun j => decide (cs.getD j 0 > 0)).map fun (j : Nat) => (j : Int)
noncomputable def ws (cs : List Int) : List Int := wsI cs cs.length
end My
namespace My
theorem zc7 : ∀ (l : List Int) (i : Nat) (v : Int), i < l.length → (l.set i v).sum = l.sum - l.getD i 0 + v
 | [], i, v, h => by simp at h
 | a :: l, 0, v, h => by simp; omega
 | a :: l, i + 1, v, h => by
   have := zc7 l i v (by simpa using h);simp only [List.set_cons_succ, List.sum_cons];rw [this];simp;omega
theorem V6 : ∀ {l : List Int} {m : Int}, (∀ x ∈ l, x ≤ m) → l.sum ≤ (l.length : Int) * m
 | [], m, _ => by simp
 | a :: l, m, h => by
   have h1 := h a be;have h2 := V6 fun x hx => h x (bn _ hx);rw [List.sum_cons, ck];have : (((l.length + 1 : Nat) : Int)) * m = (l.length : Int) * m + m := by rw [Int.natCast_add]; simp [Int.add_mul]
   omega
theorem Wi : ∀ {l : List Int}, (∀ x ∈ l, 0 ≤ x) → 0 ≤ l.sum
 | [], _ => by simp
 | a :: l, h => by
   have h1 := h a be;have h2 := Wi fun x hx => h x (bn _ hx);rw [List.sum_cons];omega
structure Falls (L : List Int) (k : Nat) (m : Int) : Prop where
 fall : L.Pairwise (fun a b => b ≤ a)
 each : ∀ x ∈ L, 0 ≤ x ∧ x ≤ m
 sum : L.sum = (k : Int) * m
 m1 : 1 ≤ m
end My
namespace My
section
variable {S A α : Type}
abbrev Eg (S A α : Type) := S × List A × α
inductive Way (nx : S → List (A × S)) (s0 : S) : List A → S → Prop where
 | nil : Way nx s0 [] s0
 | snoc {row : List A} {st : S} {p : A × S} : Way nx s0 row st → p ∈ nx st → Way nx s0 (row ++ [p.1]) p.2
variable {nx : S → List (A × S)} {s0 : S}
noncomputable def yj (R : List (Eg S A α)) : List S := R.map (·.1)
theorem xv {R : List (Eg S A α)} {st : S} : st ∈ yj R ↔ ∃ r ∈ R, r.1 = st := bq
theorem wv {R : List (Eg S A α)} {x : Eg S A α} : yj (R ++ [x]) = yj R ++ [x.1] := by unfold yj; rw [al]; rfl
theorem zgz {R : List (Eg S A α)} (nd : (yj R).Nodup) : ∀ {r r' : Eg S A α}, r ∈ R → r' ∈ R → r.1 = r'.1 → r = r' := by
 induction R with
 | nil => intro r r' h; cases h
 | cons a R ih =>
   intro r r' h h' e;have nd' : (a.1 :: yj R).Nodup := nd;obtain ⟨n1, n2⟩ := c7.mp nd';rcases aa.mp h with rfl | h
   · rcases aa.mp h' with rfl | h'
     · rfl
     · exact absurd (xv (R := R).mpr ⟨r', h', e.symm⟩) n1
   · rcases aa.mp h' with rfl | h'
     · exact absurd (xv (R := R).mpr ⟨r, by assumption, e⟩) n1
     · exact ih n2 h h' e
structure Bg (nx : S → List (A × S)) (s0 : S) (d : Nat) (R : List (Eg S A α)) (N L : List S) (i : Nat) : Prop where
 nd : (yj R).Nodup
 way : ∀ r ∈ R, Way nx s0 r.2.1 r.1
 ord : R.Pairwise fun a b => a.2.1.length ≤ b.2.1.length
 top : ∀ r ∈ R, r.2.1.length ≤ d + 1
 new : ∀ r ∈ R, r.2.1.length = d → r.1 ∈ N
 lat : ∀ r ∈ R, r.2.1.length = d + 1 → r.1 ∈ L
 has : ∀ st ∈ L, ∃ r ∈ R, r.1 = st ∧ r.2.1.length = d + 1
 cl : ∀ r ∈ R, r.2.1.length < d → ∀ p ∈ nx r.1, ∃ r' ∈ R, r'.1 = p.2 ∧ r'.2.1.length ≤ r.2.1.length + 1
 cln : ∀ st ∈ N.take i, ∀ p ∈ nx st, p.2 ∈ yj R
 first : ∃ r ∈ R, r.1 = s0 ∧ r.2.1.length = 0
 nr : ∀ st ∈ N, ∃ r ∈ R, r.1 = st ∧ r.2.1.length = d
theorem Bg.start (a : α) : Bg nx s0 0 [(s0, [], a)] [s0] [] 0 where
 nd := by show [s0].Nodup; simp
 way := fun r hr => by rw [ak.mp hr]; exact .nil
 ord := List.pairwise_singleton _ _
 top := fun r hr => by rw [ak.mp hr]; exact bo _
 new := fun r hr _ => by rw [ak.mp hr]; exact ak.mpr rfl
 lat := fun r hr h => by rw [ak.mp hr] at h; exact absurd h (by show ¬ (0 = 0 + 1); decide)
 has := fun st h => by cases h
 cl := fun r hr h => by exact absurd h (di _)
 cln := fun st h => by cases h
 first := ⟨_, ak.mpr rfl, rfl, rfl⟩
 nr := fun st h => ⟨_, ak.mpr rfl, (ak.mp h).symm, rfl⟩
theorem Bg.level {d : Nat} {R : List (Eg S A α)} {N L : List S} (b : Bg nx s0 d R N L N.length) : Bg nx s0 (d + 1) R L [] 0 where
 nd := b.nd
 way := b.way
 ord := b.ord
 top := fun r hr => Nat.le_succ_of_le (b.top r hr)
 new := fun r hr h => b.lat r hr h
 lat := fun r hr h => by have := b.top r hr; omega
 has := fun st h => by cases h
 cl := fun r hr h p hp => by
  by_cases z : r.2.1.length < d
  · exact b.cl r hr z p hp
  · obtain ⟨r', h1, h2⟩ := xv.mp (b.cln r.1 (by rw [c8]; exact b.new r hr (by omega)) p hp);exact ⟨r', h1, h2, by have := b.top r' h1; omega⟩
 cln := fun st h => by cases h
 first := b.first
 nr := fun st h => b.has st h
theorem Bg.step {d i : Nat} {R : List (Eg S A α)} {N L : List S} (b : Bg nx s0 d R N L i) {r : Eg S A α} {p : A × S} (hr : r ∈ R) (hl : r.2.1.length = d) (hp : p ∈ nx r.1) (hn : p.2 ∉ yj R) (a : α) :
  Bg nx s0 d (R ++ [(p.2, r.2.1 ++ [p.1], a)]) N (L ++ [p.2]) i := by
 have up : ∀ {st}, st ∈ yj R → st ∈ yj (R ++ [(p.2, r.2.1 ++ [p.1], a)]) := fun h => by rw [wv]; exact cu _ h
 have nl : (r.2.1 ++ [p.1]).length = d + 1 := by rw [ba, hl]; rfl
 refine ⟨?_, fun x hx => ?_, ?_, fun x hx => ?_, fun x hx e => ?_, fun x hx e => ?_, fun st h => ?_, fun x hx h g' hg' => ?_, fun st h g' hg' => up (b.cln st h g' hg'), ?_, fun st h => ?_⟩
 · rw [wv];refine List.nodup_append.mpr ⟨b.nd, by simp, fun x hx y hy e => ?_⟩;rw [e, ak.mp hy] at hx;exact hn hx
 · rcases br.mp hx with h | h
   · exact b.way x h
   · rw [ak.mp h];exact .snoc (b.way r hr) hp
 · refine List.pairwise_append.mpr ⟨b.ord, List.pairwise_singleton _ _, fun x hx y hy => ?_⟩;rw [ak.mp hy];show x.2.1.length ≤ (r.2.1 ++ [p.1]).length;rw [nl];exact b.top x hx
 · rcases br.mp hx with h | h
   · exact b.top x h
   · rw [ak.mp h];exact Nat.le_of_eq nl
 · rcases br.mp hx with h | h
   · exact b.new x h e
   · rw [ak.mp h] at e;have e : (r.2.1 ++ [p.1]).length = d := e;omega
 · rcases br.mp hx with h | h
   · exact cu _ (b.lat x h e)
   · rw [ak.mp h];exact ci _ (ak.mpr rfl)
 · rcases br.mp h with h | h
   · obtain ⟨x, h1, h2⟩ := b.has st h;exact ⟨x, cu _ h1, h2⟩
   · exact ⟨_, ci _ (ak.mpr rfl), (ak.mp h).symm, nl⟩
 · rcases br.mp hx with y | y
   · obtain ⟨r', h1, h2⟩ := b.cl x y h g' hg';exact ⟨r', cu _ h1, h2⟩
   · rw [ak.mp y] at h;have h : (r.2.1 ++ [p.1]).length < d := h;omega
 · obtain ⟨x, h1, h2⟩ := b.first;exact ⟨x, cu _ h1, h2⟩
 · obtain ⟨x, h1, h2⟩ := b.nr st h;exact ⟨x, cu _ h1, h2⟩
theorem Bg.done {d i : Nat} {R : List (Eg S A α)} {N L : List S} {st : S} (b : Bg nx s0 d R N L i) (hi : N[i]? = some st) (h : ∀ p ∈ nx st, p.2 ∈ yj R) : Bg nx s0 d R N L (i + 1) :=
 ⟨b.nd, b.way, b.ord, b.top, b.new, b.lat, b.has, b.cl, fun x hx g hg => by
  rw [c5, hi] at hx;rcases br.mp hx with y | y
  · exact b.cln x y g hg
  · have y : x ∈ [st] := y;rw [ak.mp y] at hg;exact h g hg, b.first, b.nr⟩
structure Bh (nx : S → List (A × S)) (s0 : S) (R : List (Eg S A α)) : Prop where
 nd : (yj R).Nodup
 way : ∀ r ∈ R, Way nx s0 r.2.1 r.1
 ord : R.Pairwise fun a b => a.2.1.length ≤ b.2.1.length
 all : ∀ row st, Way nx s0 row st → ∃ r ∈ R, r.1 = st ∧ r.2.1.length ≤ row.length
theorem Bg.end' {d : Nat} {R : List (Eg S A α)} (b : Bg nx s0 d R [] [] 0) : Bh nx s0 R := by
 refine ⟨b.nd, b.way, b.ord, fun row st w => ?_⟩;induction w with
 | nil =>
   obtain ⟨r, h1, h2, h3⟩ := b.first;exact ⟨r, h1, h2, by omega⟩
 | @snoc row st p w hp ih =>
   obtain ⟨r, h1, h2, h3⟩ := ih;have hlt : r.2.1.length < d := by
    have e1 := b.top r h1;have e2 : r.2.1.length ≠ d := fun e => by have := b.new r h1 e; cases this
    have e3 : r.2.1.length ≠ d + 1 := fun e => by have := b.lat r h1 e; cases this
    omega
   obtain ⟨r', h4, h5, h6⟩ := b.cl r h1 hlt p (by rw [h2]; exact hp);exact ⟨r', h4, h5, by rw [ba]; show r'.2.1.length ≤ row.length + 1; omega⟩
end
end My
namespace My
open PySem PySem.Spec PyProof.Rows L2
variable {mg : Str → Option Value}
abbrev Yh : Stmt := top 32
abbrev k8 : Stmt := top 48
noncomputable def Jc : Expr := match xn k8 with
 | _ :: .Assign _ (.Call _ (_ :: l :: _) _ _) _ :: _ => l
 | _ => .Constant .none 0 ⟨0, 0, 0, 0⟩
noncomputable def zhq : Arguments := match Jc with | .Lambda a _ _ _ => a | _ => qe k8
noncomputable def zhp : Expr := match Jc with | .Lambda _ b _ _ => b | e => e
noncomputable def zdr : Scope := match Jc with | .Lambda _ _ s _ => s | _ => zj k8
noncomputable def zar : Pos := match Jc with | .Lambda _ _ _ p => p | _ => ⟨0, 0, 0, 0⟩
noncomputable def kx : Str := (("tried_loose" : Str) ++ ".<locals>.") ++ "<lambda>"
theorem zox : LamScope zdr "stand" "house" := ⟨rfl, rfl, rfl, by decide +kernel, rfl, rfl, by decide +kernel⟩
noncomputable def LO (mg : Str → Option Value) (c c' : Addr) (ctv : Value) : Obj := PySem.W.kla_obj "<lambda>" kx zhq zhp zdr [("house", c)] ((mg "__name__").getD .none) c' ctv
noncomputable def zea (mg : Str → Option Value) (H : Hp) (f c : Addr) (vh : V) : Prop := ∃ c' ctv oc occ uk, H f = some (kno (LO mg c c' ctv)) ∧ H c' = some (kno occ) ∧ Vr occ kx ∧ H c = some (kno oc) ∧ oc.data = .cell (some uk) ∧ yw vh uk
theorem zea.same {H H' : Hp} {f c : Addr} {vh : V} (h : zea mg H f c vh) (s : Same H H') : zea mg H' f c vh := by
 obtain ⟨c', ctv, oc, occ, uk, h1, h2, h3, h4, h5⟩ := h;exact ⟨c', ctv, oc, occ, uk, s _ _ h1, s _ _ h2, h3, s _ _ h4, h5⟩
abbrev Eh := Eg Sn Int Addr
noncomputable def nxL (dss : List (List Dd)) (st : Sn) : List (Int × Sn) := (due dss st.1 st.2).map fun h => (h, nx dss st.1 st.2 h)
variable {c l tb : Addr} {H H' : Hp} {bx h p : Int} {dss : List (List Dd)} {R : List Eh} {ps row : List Int} {L : List Sn} {i k : Nat} {o : Obj} {P : Program} {K : PySem.W.Frag} {st : Sn} {w : World}
theorem qw {p : Int × Sn} : p ∈ nxL dss st ↔ yt dss st.1 st.2 p.1 = some p.2 := by
 unfold nxL;rw [bq];constructor
 · rintro ⟨h, hm, rfl⟩;obtain ⟨q, hq⟩ := dq.mp (ji.mp hm);show yt dss st.1 st.2 h = some (nx dss st.1 st.2 h);unfold nx;rw [hq];rfl
 · intro e;refine ⟨p.1, ji.mpr (by rw [e]; rfl), ?_⟩;unfold nx;rw [e];rfl
theorem Z5 {s0 : Sn} (w : Way (nxL dss) s0 row st) : xy dss s0.1 s0.2 row = some st := by
 induction w with
 | nil => rfl
 | snoc w hp ih =>
   rw [qi, ih];show xy dss _ _ [_] = _;rw [W7];exact qw.mp hp
theorem zdf {dss : List (List Dd)} {s0 : Sn} : ∀ (n : Nat) (row : List Int) (st : Sn), row.length = n → xy dss s0.1 s0.2 row = some st → Way (nxL dss) s0 row st
 | 0, row, st, hl, h => by
   rw [ez.mp hl] at h ⊢;cases h;exact .nil
 | n + 1, row, st, hl, h => by
   obtain ⟨r1, g, rfl⟩ : ∃ r1 g, row = r1 ++ [g] := ⟨row.dropLast, row.getLast (fun z => by rw [z] at hl; cases hl), (List.dropLast_concat_getLast _).symm⟩
   rw [ba] at hl;have hl : r1.length + 1 = n + 1 := hl;rw [qi] at h;cases e : xy dss s0.1 s0.2 r1 with
   | none => rw [e] at h; cases h
   | some q =>
     rw [e] at h;have h : xy dss q.1 q.2 [g] = some st := h;rw [W7] at h;exact Way.snoc (p := (g, st)) (zdf n r1 q (by omega) e) (qw.mpr h)
theorem wr (hd : HD bx dss) (w : Way (nxL dss) (s00 bx dss) row st) : SL bx dss st.1 st.2 ∧ Rch dss (s00 bx dss) st := by
 refine ⟨?_, row, Z5 w⟩;induction w with
 | nil => exact SL.first
 | snoc w hp ih => exact SL.step hd ih (qw.mp hp)
theorem zi1 (hd : HD bx dss) (w : Way (nxL dss) (s00 bx dss) row st) : ((row.length : Nat) : Int) ≤ st.1.sum := by
 induction w with
 | nil =>
   show (0 : Int) ≤ (zs dss.length).sum;exact Wi fun x hx => by rw [(dl.mp hx).2]; exact bz 0
 | @snoc row st p w hp ih =>
   have e := qw.mp hp;have S := (wr hd w).1;obtain ⟨k, d, ek, hk, ed, _, er⟩ := ww e;rw [er];show (((row ++ [p.1]).length : Nat) : Int) ≤ (st.1.set k (st.1.getD k 0 + 1 + qr d st.2)).sum;rw [zc7 _ _ _ (by rw [S.sd.lp]; exact hk), ba];have := Wc (ns := st.2) (jq hd ed);show ((row.length + 1 : Nat) : Int) ≤ _;omega
theorem X3 (hd : HD bx dss) (w : Way (nxL dss) (s00 bx dss) row st) : row.length ≤ 120 := by
 have h1 := zi1 hd w;have S := (wr hd w).1;have h2 : ∀ x ∈ st.1, x ≤ 30 := fun x hx => by
  obtain ⟨j, hj, rfl⟩ := d0.mp hx;have := S.sd.pl j;rw [aq, ah hj] at this;have h3 : ((dss.getD j []).length : Int) ≤ 30 := by
   have := hd.few (dss.getD j []) (Ve (by rw [← S.sd.lp]; exact hj));omega
  have this : st.1[j] ≤ ((dss.getD j []).length : Int) := this;omega
 have h3 := V6 h2;have n4 := hd.n4;rw [S.sd.lp] at h3;have : ((dss.length : Nat) : Int) * 30 ≤ 120 := by omega
 omega
noncomputable def kvG (R : List Eh) : List (yz × V) := R.map fun r => (kS r.1, V.ref r.2.2)
structure RNt (P : Program) (w : World) (H : Hp) (d : Addr) (R : List Eh) : Prop where
 n : NAt P w H d (kvG R)
 rows : ∀ r ∈ R, H r.2.2 = some (.lst (r.2.1.map V.int))
section
variable {d : Addr}
theorem RNt.same (r : RNt P w H d R) (s : Same H H') : RNt P w H' d R := ⟨r.n.same s, fun x hx => s _ _ (r.rows x hx)⟩
theorem zhx (R : List Eh) : (kvG R).map (·.1) = (yj R).map kS := by unfold kvG yj; rw [cv, cv]; rfl
theorem Yp (R : List Eh) : (kvG R).length = R.length := by unfold kvG; rw [a7]
theorem zka (h : st ∈ yj R) : ∃ r ∈ R, r.1 = st ∧ jf (kvG R) (kS st) = some (.ref r.2.2) := by
 induction R with
 | nil => cases h
 | cons a R ih =>
   by_cases e : a.1 = st
   · exact ⟨a, be, e, Z6 (p := (kS a.1, V.ref a.2.2)) (by show kS a.1 = kS st; rw [e])⟩
   · have h2 : st ∈ yj R := by
      rcases aa.mp (show st ∈ a.1 :: yj R from h) with z | z
      · exact absurd z.symm e
      · exact z
     obtain ⟨r, h3, h4, h5⟩ := ih h2;exact ⟨r, bn _ h3, h4, (Z7 (p := (kS a.1, V.ref a.2.2)) (fun z => e (Ka z))).trans h5⟩
theorem zay (R : List Eh) (st : Sn) : (jf (kvG R) (kS st)).isSome = decide (st ∈ yj R) := by
 rw [X4, zhx];by_cases c : st ∈ yj R
 · rw [ai c, ai (Zz.mpr c)]
 · rw [av c, av (fun z => c (Zz.mp z))]
theorem zj9 (h : st ∉ yj R) (row : List Int) (a : Addr) : Zv (kvG R) (kS st) (.ref a) = kvG (R ++ [(st, row, a)]) := by
 have hv : jf (kvG R) (kS st) = none := by
  cases z : jf (kvG R) (kS st) with
  | none => rfl
  | some v =>
    have := zay R st;rw [z, av h] at this;cases this
 rw [K6 _ hv];unfold kvG;rw [al];rfl
end
theorem zdx (hd : HD bx dss) (C : CrD bx dss) (nd : (yj R).Nodup) (way : ∀ r ∈ R, Way (nxL dss) (s00 bx dss) r.2.1 r.1) : R.length ≤ 1250 := by
 have := zdw (s0 := s00 bx dss) hd C SL.first nd fun st hst => by
  obtain ⟨r, hr, rfl⟩ := xv.mp hst;exact wr hd (way r hr)
 unfold yj at this
 rwa [a7] at this
structure InN (P : Program) (w : World) (Hz H2 : Hp) (d fa : Addr) (bx : Int) (dss : List (List Dd)) (dep : Nat) (H' : Hp) (R : List Eh) (N L : List Sn) (i : Nat) : Prop where
 b : jr d fa H2 H'
 r : RNt P w H' d R
 bf : Bg (nxL dss) (s00 bx dss) dep R N L i
 f : ∃ ys, H' fa = some (.lst ys) ∧ L2.IsL H' (L.map tS) ys
 len : L.length ≤ R.length
 nf : ∀ r ∈ R, r.2.2 ≠ fa
 fh : ∀ r ∈ R, Hz r.2.2 = none
theorem InN.same {P : Program} {w : World} {Hz H2 H' H'' : Hp} {d f : Addr} {bx : Int} {dss : List (List Dd)} {dep i : Nat} {R : List Eh} {N L : List Sn} (x : InN P w Hz H2 d f bx dss dep H' R N L i) (s : Same H' H'') : InN P w Hz H2 d f bx dss dep H'' R N L i := by
 obtain ⟨ys, e, il⟩ := x.f;exact ⟨x.b.trans s.but2, x.r.same s, x.bf, ⟨ys, s _ _ e, il.mono s⟩, x.len, x.nf, x.fh⟩
theorem za9 (h : H c = some (kno o)) : vt H (del H c) := fun b xs e => by rw [vn (fun z => by rw [z, h] at e; cases e)]; exact e
theorem zfs (h : H c = some (kno o)) (s : Same (del H c) H') : Same H (upd H' c (kno o)) := fun b u e => by
 by_cases z : b = c
 · rw [z] at e ⊢;rw [h] at e;cases e;exact zf
 · rw [zk z];exact s b u (by rw [vn z]; exact e)
theorem Xk {xs : List V} {x : V} (h : L2.IsL H (L.map tS) xs) (e : xs[i]? = some x) : ∃ st, L[i]? = some st ∧ Is H (tS st) x := by
 obtain ⟨t, ht, it⟩ := h.get' e;rw [ao] at ht;cases eg : L[i]? with
 | none => rw [eg] at ht; cases ht
 | some g => rw [eg] at ht; cases ht; exact ⟨g, rfl, it⟩
noncomputable def zny (P : Program) (w : World) (mg : Str → Option Value) : Sp := fun vs H Q _ => ∃ bx dss v vh f c, vs = [v, .ref f, .int 3000] ∧ HD bx dss ∧ CrD bx dss ∧ Is H (tS (s00 bx dss)) v ∧ Is H (hT bx dss) vh ∧ zea mg H f c vh ∧
 ∀ d R H', Same H H' → H d = none → RNt P w H' d R → (∀ r ∈ R, H r.2.2 = none) → Bh (nxL dss) (s00 bx dss) R → Q (.ref d) H'
section
variable {base : Heap}
theorem Qa : FnScope ["first", "steps", "most", "rows", "newest", "later", "stand", "step", "stand_behind"] ["first", "steps", "most"] (zj Yh) := ⟨rfl, rfl, rfl, by decide +kernel, rfl, by decide +kernel, by decide +kernel⟩
theorem zew (D : Def K mg "rows_to_all" Yh) (T : Txt K mg) (o1 : Ok P w K mg base "steps_from" 5 ["house", "stand"] zlr) : Ok P w K mg base "rows_to_all" 7 ["first", "steps", "most"] (zny P w mg) := by
 refine xx D Qa (fun _ _ _ _ _ _ us hl => (match us, hl with | [_, _, _], _ => rfl)) (fun vs H Q E ⟨_, _, _, _, _, _, e, _⟩ => by rw [e]; rfl) fun f cdv A outer s H vs Q E hr h => ?_;obtain ⟨bx, dss, v, vh, fl, c, rfl, hd, C, hv, hh, hL, q⟩ := h;have nd := Qa.nd;have hun := hr.units;have hu3 : A.units + 3 + 3 < cLine := by
  have : (A.deeper (envOfC "rows_to_all" (zj Yh) s.heap.objs.size f cdv)).units = A.units + 3 := rfl;omega
 refine ⟨_, ze (ya (i := 3) nd rfl (Or.inl rfl) (Ql hu3 (pv 0) (qv zd)))
  (ze (ya (i := 4) nd rfl (Or.inl rfl) (qv (zc (pv 0) zd)))
  (ze (K8 PassesOwn.never (PW.pt (Zu (Wx (pv 4) (fun _ => rfl)) (j6 (zw W0 (zn jx rfl T.len yd (zc (pv 3) zd)) (pv 2) (zt _)))))
   (ze (ya (i := 5) nd rfl (Or.inl rfl) (qv zd))
   (ze (vy PassesOwn.never rfl (wn (pv 4)) (zu (i := 6) nd rfl (Or.inl rfl))
    (zi (vy PassesOwn.never rfl (wn (zgr (i := 1) (qual := kx) (params := zhq) (body := zhp) (pm := (mg "__name__").getD .none) zox hr rfl (Or.inl rfl) (fun _ _ _ _ => rfl) (fun _ _ _ _ _ => zx o1 (hr.deeper _) (zc (pv 1) (zc (pv 0) zd))) (zc (pv 6) zd))) (qo rfl (yl (zu (i := 7) nd rfl (Or.inl rfl)) (yl (zu (i := 8) nd rfl (Or.inl rfl)) vc)))
     (zi (yc (zb1 (Xe hu3 (pv 8) (pv 3)))
      (ze (zdg hu3 (pv 3) (pv 8) (yb Jq (zdj hu3 (pv 3) (pv 6) (fun _ _ => rfl)) (jl (zc (pv 7) zd))) rfl)
      (zi (vz (Xq PySem.F.plainAttrs_list PySem.F.slot_list_append PySem.F.type_list_append jb (pv 5) (zc (pv 8) zd))))) zr)))))
   (zi (ya (i := 4) nd rfl (Or.inl rfl) (pv 5))))))
  (zi (zp (pv 3))))), ?_⟩
 obtain ⟨bv, zv, rfl, hbv, izv⟩ := id hv;refine fun d o0 hd0 hN0 => ⟨_, rfl, by show 0 ≤ 1000; decide, fun r0 H0 s0 hr0 g0 => ⟨bv, kS (s00 bx dss), rfl, (hv.mono (Same.new hd0 _)).mono s0, hN0.same s0, fun o1' hN1 => ?_⟩⟩
 have nr0 : r0 ≠ d := (hN0.same s0).ne g0;have s1 : Same H (upd H0 d o1') := fun b o e => by rw [zk (zm e hd0)]; exact s0 b o (by rw [zk (zm e hd0)]; exact e)
 have hR1 : RNt P w (upd H0 d o1') d [(s00 bx dss, [], r0)] := ⟨hN1, fun r hr => by
  rw [ak.mp hr];show upd H0 d o1' r0 = some (.lst []);rw [zk nr0];exact g0⟩
 generalize upd H0 d o1' = H1 at s1 hR1 ⊢;refine ⟨_, rfl, by show 1 ≤ 1000; decide, fun nw H2 s2 hnw g2 => ?_⟩;have s12 := s1.trans s2;refine ⟨fun n σ H' => ∃ nw N R dep x5 x6 x7 x8, σ = [some (.ref bv), some (.ref fl), some (.int 3000), some (.ref d), some (.ref nw), x5, x6, x7, x8] ∧ Same H H' ∧ RNt P w H' d R ∧ Bg (nxL dss) (s00 bx dss) dep R N [] 0 ∧ (∃ ys, H' nw = some (.lst ys) ∧ L2.IsL H' (N.map tS) ys) ∧ n + dep = 121 ∧ N.length ≤ 1250 ∧ (∀ r ∈ R, H r.2.2 = none),
  ⟨121, nw, [s00 bx dss], [(s00 bx dss, [], r0)], 0, none, none, none, none, rfl, s12, hR1.same s2, Bg.start r0, ⟨_, g2, IsL.one (hv.mono s12)⟩, rfl, by show 1 ≤ 1250; decide, fun r hr => (by rw [ak.mp hr]; exact Same.none (Same.new hd0 _) hr0)⟩, ?_⟩
 rintro n σ H2 ⟨nw, N, R, dep, x5, x6, x7, x8, rfl, s2, hR, bf, iN, hn, hfew, hfz⟩;obtain ⟨xs, hl, ixs⟩ := iN;have hxl := ixs.length;rw [a7] at hxl;refine ⟨_, rfl, _, .inl ⟨_, SqL.of hl, rfl⟩, ?_⟩;cases hN : N with
 | nil =>
   rw [hN] at hxl bf;have hx0 : xs = [] := ez.mp hxl;subst hx0;refine ye (ye ?_);exact ⟨_, rfl, q d R H2 s2 hd0 hR hfz bf.end'⟩
 | cons g0 N0 =>
   have hxe : (!xs.isEmpty) = true := by
    cases xs with
    | nil => rw [hN] at hxl; cases hxl
    | cons _ _ => rfl
   rw [hxe];have hRl := zdx hd C bf.nd bf.way;refine xi ⟨_, rfl, d, kvG R, rfl, hR.n, _, rfl, _, _, rfl, rfl, _, rfl, ?_⟩;rw [ai (show (((kvG R).length : Nat) : Int) ≤ 3000 by rw [Yp]; omega)];refine xi ?_;have hdep : dep ≤ 120 := by
    obtain ⟨r, hr, e1, e2⟩ := bf.nr g0 (by rw [hN]; exact be);have := X3 hd (bf.way r hr);omega
   refine ⟨fun σ' H' => ∃ n', n' < n ∧ ∃ nw N R dep x5 x6 x7 x8, σ' = [some (.ref bv), some (.ref fl), some (.int 3000), some (.ref d), some (.ref nw), x5, x6, x7, x8] ∧ Same H H' ∧ RNt P w H' d R ∧ Bg (nxL dss) (s00 bx dss) dep R N [] 0 ∧ (∃ ys, H' nw = some (.lst ys) ∧ L2.IsL H' (N.map tS) ys) ∧ n' + dep = 121 ∧ N.length ≤ 1250 ∧ (∀ r ∈ R, H r.2.2 = none), fun σ' H' h => h, ?_⟩;refine ⟨by show 0 ≤ 1000; decide, fun fr H4 s4 hfr g4 => ?_⟩;have s04 := s2.trans s4;have hR4 := hR.same s4;have hl4 := s4 _ _ hl;have hi4 := ixs.mono s4;have hfrH : H fr = none := Same.none s2 hfr;obtain ⟨xs4, hd4, _⟩ := id hR4.n;have nfd : fr ≠ d := hR4.n.ne g4;have nld : nw ≠ d := hR4.n.ne hl4;have nlf : nw ≠ fr := fun y => by rw [← y, hl] at hfr; cases hfr
   have HS : ∀ {H' : Hp}, jr d fr H4 H' → Same H H' := fun b c o e => b c o (zm e hd0) (zm e hfrH) (s04 _ _ e);have TP : ∀ {H' : Hp}, jr d fr H4 H' → vt H4 H' := fun b c xs e => b c _ (ke e hd4 (fun z => by cases z)) (ke e g4 (fun z => by cases z)) e;have I4 : InN P w H H4 d fr bx dss dep H4 R N [] 0 := ⟨jr.refl _ _ _, hR4, bf, ⟨[], g4, rfl⟩, bo _, fun r hr z => (by
    have h1 := hR.rows r hr;rw [z, hfr] at h1;cases h1), hfz⟩
   refine ⟨_, rfl, nw, rfl, ⟨_, SqL.of hl4⟩, ?_⟩;refine kz (xs := xs) (fun i σ H' => ∃ R L x6 x7 x8, σ = [some (.ref bv), some (.ref fl), some (.int 3000), some (.ref d), some (.ref nw), some (.ref fr), x6, x7, x8] ∧ InN P w H H4 d fr bx dss dep H' R N L i) ⟨R, [], _, _, _, rfl, I4⟩ (fun i σ H' _ ⟨_, _, _, _, _, _, x⟩ => SqL.of (x.b _ _ nld nlf hl4)) ?_ ?_;rotate_left
   · rintro σ H5 ⟨R', L, y6, y7, y8, rfl, I5⟩;have hRl5 := zdx hd C I5.bf.nd I5.bf.way;have := I5.len;have bf5 := I5.bf;rw [hxl] at bf5;exact ⟨_, rfl, n - 1, by omega, fr, L, R', dep + 1, _, _, _, _, rfl, HS I5.b, I5.r, bf5.level, I5.f, by omega, by omega, I5.fh⟩
   rintro i x σ H5 hx5 ⟨R', L, y6, y7, y8, rfl, I5⟩;obtain ⟨st, eg, ig4⟩ := Xk hi4 hx5;have hgN := bj eg;have ig := ig4.tups (TP I5.b) jp;obtain ⟨r, hr5, er, lr⟩ := I5.bf.nr st hgN;have Sst : SL bx dss st.1 st.2 := by rw [← er]; exact (wr hd (I5.bf.way r hr5)).1
   have hh5 := hh.mono (HS I5.b);obtain ⟨c', ctv, oc, occ, uk, L1, L2, L3, L4, L5, L6⟩ := hL.same (HS I5.b);refine ⟨_, rfl, _, rfl, x, c, c', ctv, oc, occ, vh, uk, rfl, L1, L2, L3, L4, L5, L6, ?_⟩;refine ⟨_, rfl, _, rfl, bx, dss, st.1, st.2, vh, x, rfl, (show At H5 bx dss st.1 st.2 vh x from ⟨hd, Sst.sd, hh5, ig⟩).tups (za9 L4), fun lg ys H' s' hlg g' i' nc' => ?_⟩;have s6 := zfs L4 s';have nlc : lg ≠ c := fun z => by rw [z, nc'] at g'; cases g'
   have hlg5 : H5 lg = none := by rw [← hlg, vn nlc]
   have g6 : upd H' c (kno oc) lg = some (.lst ys) := by rw [zk nlc]; exact g'
   have i6 := i'.mono (Same.new nc' (kno oc));generalize upd H' c (kno oc) = H6 at s6 g6 i6 ⊢;clear s' hlg g' i' nc' nlc;have I6 := I5.same s6;have ig6 := ig.mono s6;obtain ⟨ag, zag, rfl, hag, _⟩ := id ig6;have hyl := i6.length;rw [a7] at hyl;obtain ⟨xs6, hd6, _⟩ := id I6.r.n;obtain ⟨yf6, gf6, _⟩ := id I6.f;have nlg : lg ≠ d ∧ lg ≠ fr := by
    obtain ⟨yf5, gf5, _⟩ := I5.f;obtain ⟨xs5, hd5, _⟩ := id I5.r.n;exact ⟨fun y => (by rw [y, hd5] at hlg5; cases hlg5), fun y => (by rw [y, gf5] at hlg5; cases hlg5)⟩
   refine ⟨lg, rfl, ⟨_, SqL.of g6⟩, ?_⟩;refine kz (xs := ys) (fun j σ H' => ∃ R L x7 x8, σ = [some (.ref bv), some (.ref fl), some (.int 3000), some (.ref d), some (.ref nw), some (.ref fr), some (.ref ag), x7, x8] ∧ jr d fr H6 H' ∧ InN P w H H4 d fr bx dss dep H' R N L i ∧ ∀ p ∈ (nxL dss st).take j, p.2 ∈ yj R) ⟨R', L, _, _, rfl, jr.refl _ _ _, I6, fun g' h => (by cases h)⟩ (fun j σ H' _ ⟨_, _, _, _, _, b, _⟩ => SqL.of (b _ _ nlg.1 nlg.2 g6)) ?_ ?_;rotate_left
   · rintro σ H8 ⟨R8, L8, z7, z8, rfl, b8, I8, hcl⟩;have e : ys.length = (nxL dss st).length := by unfold nxL; rw [a7]; exact hyl
     rw [e, c8] at hcl;exact ⟨R8, L8, _, _, _, rfl, I8.b, I8.r, I8.bf.done eg hcl, I8.f, I8.len, I8.nf, I8.fh⟩
   rintro j x σ H8 hx ⟨R8, L8, z7, z8, rfl, b8, I8, hcl⟩;have tp8 : vt H6 H8 := fun c xs e => b8 c _ (ke e hd6 (fun z => by cases z)) (ke e gf6 (fun z => by cases z)) e;obtain ⟨t, ht, it⟩ := i6.get' hx;rw [ao] at ht;cases eh : (due dss st.1 st.2)[j]? with
   | none => rw [eh] at ht; cases ht
   | some h =>
   rw [eh] at ht;cases ht;have hpN : (nxL dss st)[j]? = some (h, nx dss st.1 st.2 h) := by unfold nxL; rw [ao, eh]; rfl
   have hpm := bj hpN;obtain ⟨ap, zs', rfl, hap, vg, r1, rfl, ivg, vm, r2, rfl, ivm, hnil⟩ := it;cases (show r2 = [] from hnil);cases (show vg = .int h from ivg);have hap8 := tp8 _ _ hap;have ivm8 : Is H8 (tS (nx dss st.1 st.2 h)) vm := ivm.tups tp8 jp;have igx : Is H8 (tS st) (.ref ag) := ig6.tups tp8 jp;refine ⟨ap, _, rfl, SqT.of hap8, rfl, _, _, rfl, _, _, rfl, rfl, ?_⟩;obtain ⟨au, zau, rfl, hau, _⟩ := id ivm8;refine ⟨_, rfl, _, rfl, d, au, kvG R8, kS (nx dss st.1 st.2 h), rfl, rfl, I8.r.n, ivm8, _, rfl, ?_⟩;rw [zay];have step1 : ∀ {K2 : List Sn}, (∀ q, q ∈ yj R8 → q ∈ K2) → nx dss st.1 st.2 h ∈ K2 → ∀ p ∈ (nxL dss st).take (j + 1), p.2 ∈ K2 := fun h1 h2 g2 hg2 => by
    rw [c5, hpN] at hg2;rcases br.mp hg2 with y | y
    · exact h1 _ (hcl g2 y)
    · have y : g2 ∈ [(h, nx dss st.1 st.2 h)] := y;rw [ak.mp y];exact h2
   by_cases z : nx dss st.1 st.2 h ∈ yj R8
   · rw [ai z];exact ye ⟨R8, L8, _, _, rfl, b8, I8, step1 (fun _ h => h) z⟩
   rw [av z];refine xi ?_;have hgk : st ∈ yj R8 := by
    obtain ⟨r, h1, h2, _⟩ := I8.bf.nr st hgN;exact xv.mpr ⟨r, h1, h2⟩
   obtain ⟨r8, hr8, er8, hget⟩ := zka hgk;have lr8 : r8.2.1.length = dep := by
    obtain ⟨r, h1, h2, h3⟩ := I8.bf.nr st hgN;rw [zgz I8.bf.nd hr8 h1 (er8.trans h2.symm)];exact h3
   have hrow8 := I8.r.rows r8 hr8;have hRl8 := zdx hd C I8.bf.nd I8.bf.way;refine ⟨_, rfl, _, rfl, d, ag, kvG R8, kS st, _, rfl, rfl, I8.r.n, igx, hget, _, rfl, (by show 1 ≤ sizeLine; decide), fun p9 hp9 => ?_⟩;have s9 := Same.new hp9 (.lst [V.int h]);have g9 : upd H8 p9 (.lst [V.int h]) p9 = some (.lst [V.int h]) := zf;generalize upd H8 p9 (.lst [V.int h]) = H9 at s9 g9 ⊢;refine ⟨r8.2.2, p9, _, _, rfl, rfl, s9 _ _ hrow8, g9, zy (by rw [a7, lr8]; show dep + 1 ≤ 1000; omega), fun pr hpr => ?_⟩;have s10 := Same.new hpr (.lst (r8.2.1.map V.int ++ [V.int h]));have g10 : upd H9 pr (.lst (r8.2.1.map V.int ++ [V.int h])) pr = some (.lst ((r8.2.1 ++ [h]).map V.int)) := by rw [zf, al]; rfl
   generalize upd H9 pr (.lst (r8.2.1.map V.int ++ [V.int h])) = H10 at s10 g10 ⊢;have s810 := s9.trans s10;have I10 := I8.same s810;have b10 := b8.trans (Same.but2 (d := d) (f := fr) s810);have iu := ivm8.mono s810;obtain ⟨yf, gf, if10⟩ := I10.f;refine ⟨_, rfl, _, rfl, d, au, kvG R8, kS (nx dss st.1 st.2 h), rfl, rfl, I10.r.n, iu, Vo (by rw [Yp]; omega), fun o' hN' => ?_⟩;rw [zj9 z (r8.2.1 ++ [h]) pr] at hN';have npd : pr ≠ d := I10.r.n.ne g10;have tpd : vt H10 (upd H10 d o') := I10.r.n.tups;have hR11 : RNt P w (upd H10 d o') d (R8 ++ [(nx dss st.1 st.2 h, r8.2.1 ++ [h], pr)]) := ⟨hN', fun r hr => by
    rcases br.mp hr with y | y
    · have := I10.r.rows r y;rw [zk (I10.r.n.ne this)];exact this
    · rw [ak.mp y];show upd H10 d o' pr = _;rw [zk npd];exact g10⟩
   have gf11 : upd H10 d o' fr = some (.lst yf) := by rw [zk nfd]; exact gf
   have b11 : jr d fr H10 (upd H10 d o') := jr.updD;have iu11 := iu.tups tpd jp;have if11 := if10.tups tpd (Yu L8);generalize upd H10 d o' = H11 at hR11 gf11 b11 iu11 if11 ⊢;have hfl := if11.length;rw [a7] at hfl;have hl8 := I8.len;refine ⟨_, rfl, .inl ⟨rfl, _, SqL.of gf11⟩, _, rfl, fr, yf, _, rfl, rfl, gf11, Vo (by omega), ?_⟩;have tpf : vt H11 (upd H11 fr (.lst (yf ++ [.ref au]))) := vt.upd gf11 (fun zs z => by cases z);have b12 : jr d fr H11 (upd H11 fr (.lst (yf ++ [.ref au]))) := jr.updF;have gf12 : upd H11 fr (.lst (yf ++ [.ref au])) fr = some (.lst (yf ++ [.ref au])) := zf;have nf12 : ∀ r ∈ R8 ++ [(nx dss st.1 st.2 h, r8.2.1 ++ [h], pr)], r.2.2 ≠ fr := fun r hr => by
    rcases br.mp hr with y | y
    · exact I8.nf r y
    · rw [ak.mp y];intro e;have e : pr = fr := e;obtain ⟨yf8, gf8, _⟩ := I8.f;rw [e, s9 _ _ gf8] at hpr;cases hpr
   have hR12 : RNt P w (upd H11 fr (.lst (yf ++ [.ref au]))) d (R8 ++ [(nx dss st.1 st.2 h, r8.2.1 ++ [h], pr)]) := ⟨hR11.n.by tpf (by rw [zk (ae nfd)]), fun r hr => by
    rw [zk (nf12 r hr)];exact hR11.rows r hr⟩
   have iu12 := iu11.tups tpf jp;have if12 := if11.tups tpf (Yu L8);generalize upd H11 fr (.lst (yf ++ [.ref au])) = H12 at b12 gf12 hR12 iu12 if12 ⊢;have fh12 : ∀ r ∈ R8 ++ [(nx dss st.1 st.2 h, r8.2.1 ++ [h], pr)], H r.2.2 = none := fun r hr => by
    rcases br.mp hr with y | y
    · exact I8.fh r y
    · rw [ak.mp y];exact Same.none ((HS I8.b).trans s9) hpr
   have bf12 := I8.bf.step (r := r8) (p := (h, nx dss st.1 st.2 h)) hr8 lr8 (by rw [er8]; exact hpm) z pr;refine ⟨R8 ++ [(nx dss st.1 st.2 h, r8.2.1 ++ [h], pr)], L8 ++ [nx dss st.1 st.2 h], _, _, rfl, b10.trans (b11.trans b12), ⟨I10.b.trans (b11.trans b12), hR12, bf12, ⟨_, gf12, ?_⟩, ?_, nf12, fh12⟩, step1 (fun q hq => ?_) ?_⟩
   · rw [al];exact IsL.append if12 (IsL.one iu12)
   · rw [ba, ba, cm, cm];omega
   · rw [wv];exact cu _ hq
   · rw [wv];exact ci _ (ak.mpr rfl)
abbrev Yk : Stmt := top 46
abbrev Wv : Stmt := top 47
noncomputable def eaL (dss : List (List Dd)) (st : Sn) : List Int := (due dss st.1 st.2).filter fun h => eAt dss st.1 st.2 h
noncomputable def zn7 (P : Program) (w : World) : Sp := fun vs H Q _ => ∃ bx dss vh d R, vs = [vh, .ref d] ∧ HD bx dss ∧ Is H (hT bx dss) vh ∧ RNt P w H d R ∧ (∀ r ∈ R, SL bx dss r.1.1 r.1.2 ∧ r.2.1.length ≤ 120) ∧ ((∀ r ∈ R, eaL dss r.1 = []) → ∀ H', Same H H' → Q .non H') ∧
 ∀ (i : Nat) (r : Eh) (h : Int) we, R[i]? = some r → (∀ r' ∈ R.take i, eaL dss r'.1 = []) → eaL dss r.1 = h :: we → ∀ l H', Same H H' → H l = none → H' l = some (.lst ((r.2.1 ++ [h]).map V.int)) → Q (.ref l) H'
noncomputable def znr (P : Program) (w : World) : Sp := fun vs H Q _ => ∃ bx dss vh d R, vs = [vh, .ref d] ∧ HD bx dss ∧ Is H (hT bx dss) vh ∧ RNt P w H d R ∧ (∀ r ∈ R, SL bx dss r.1.1 r.1.2 ∧ r.2.1.length ≤ 120) ∧ ((∀ r ∈ R, vb dss r.1.1 r.1.2 = false) → ∀ H', Same H H' → Q .non H') ∧
 ∀ (i : Nat) (r : Eh), R[i]? = some r → (∀ r' ∈ R.take i, vb dss r'.1.1 r'.1.2 = false) → vb dss r.1.1 r.1.2 = true → ∀ H', Same H H' → Q (.ref r.2.2) H'
theorem Qe : FnScope ["house", "rows", "stand", "row", "early"] ["house", "rows"] (zj Yk) := ⟨rfl, rfl, rfl, by decide +kernel, rfl, by decide +kernel, by decide +kernel⟩
theorem ze0 (D : Def K mg "early_weaving" Yk) (T : Txt K mg) (o1 : Ok P w K mg base "going" 4 ["house", "stand"] zjc) (o2 : Ok P w K mg base "is_early_go" 2 ["house", "stand", "hand"] zlv) : Ok P w K mg base "early_weaving" 5 ["house", "rows"] (zn7 P w) := by
 refine xx D Qe (fun _ _ _ _ _ _ us hl => (match us, hl with | [_, _], _ => rfl)) (fun vs H Q E ⟨_, _, _, _, _, e, _⟩ => by rw [e]; rfl) fun f cdv A outer s H vs Q E hr h => ?_;obtain ⟨bx, dss, vh, d, R, rfl, hd, hh, hR, hS, q0, q1⟩ := h;have nd := Qe.nd;have r2 := hr.mono (show 2 ≤ 4 by decide);refine ⟨_, ze (X8 (vy PassesOwn.never rfl (Qk (pv 1)) (qo rfl (yl (zu (i := 2) nd rfl (Or.inr rfl)) (yl (zu (i := 3) nd rfl (Or.inl rfl)) vc)))
   (ze (Qj (i := 4) (own := ["hand"]) (cap := [0, 2]) rfl (yg (zj Yk) rfl rfl (by decide +kernel) (by decide +kernel) (by decide +kernel) ⟨⟨_, rfl, .inl rfl, xr rfl⟩, ⟨_, rfl, .inl rfl, xr rfl⟩, trivial⟩) (wn (zx o1 hr (zc (pv 0) (zc (pv 2) zd))))
    (fun _ _ _ _ => zu (i := 0) (by show (["hand", "house", "stand"] : List Str).Nodup; decide +kernel) rfl (Or.inl rfl)) (fun _ _ _ _ => Zh (yh (zx o2 r2 (zc (pv 1) (zc (pv 2) (zc (pv 0) zd)))))) (fun _ _ _ _ => pv 0) nd rfl rfl (by with_unfolding_all rfl))
   (zi (yc (Wx (pv 4) (fun _ => rfl)) (zi (zp (yb Jq (pv 3) (kw zdc (pv 4) X9 (Zf zh))))) zr)))))
  (zi (zp wk)), ?_⟩
 refine ⟨d, kvG R, hR.n, fun o u hu hF0 => ?_⟩;have sF : ∀ {H' : Hp}, Same (upd H d (.frz o u)) H' → H' d = some (.frz o u) ∧ Same H (upd H' d u) := fun {H'} s' => by
  refine ⟨s' _ _ zf, fun b x e => ?_⟩;by_cases z : b = d
  · rw [z] at e ⊢;rw [hu] at e;cases e;exact zf
  · rw [zk z];exact s' _ _ (by rw [zk z]; exact e)
 obtain ⟨xs0, hd0, _⟩ := id hR.n;have tpF : vt H (upd H d (.frz o u)) := vt.upd hd0 (fun zs z => by cases z);have hhF := hh.tups tpF hd.fro;have rowF : ∀ r ∈ R, upd H d (.frz o u) r.2.2 = some (.lst (r.2.1.map V.int)) := fun r hr => by
  have := hR.rows r hr;rw [zk (hR.n.ne this)];exact this
 refine ⟨_, rfl, d, o, kvG R, rfl, hF0, ?_⟩;refine Vf (fun i σ H' => ∃ x2 x3 x4, σ = [some vh, some (.ref d), x2, x3, x4] ∧ Same (upd H d (.frz o u)) H' ∧ ∀ r' ∈ R.take i, eaL dss r'.1 = []) ⟨_, _, _, rfl, Same.refl _, fun r h => (by cases h)⟩ (fun i σ H' _ ⟨_, _, _, _, s', _⟩ => hF0.same s') ?_ ?_;rotate_left
 · rintro σ H6 ⟨x2, x3, x4, rfl, s6, hno⟩;rw [Yp, c8] at hno;obtain ⟨h1, h2⟩ := sF s6;exact ⟨h1, q0 hno _ h2⟩
 rintro i kv σ H6 hkv ⟨x2, x3, x4, rfl, s6, hno⟩ p b hp hb;unfold kvG at hkv;rw [ao] at hkv;cases er : R[i]? with
 | none => rw [er] at hkv; cases hkv
 | some r =>
 rw [er] at hkv;cases hkv;have hr := bj er;obtain ⟨Sr, hrl⟩ := hS r hr;have s7 := Same.new hp (.tup [.ref b, .ref r.2.2]);have g7 : upd H6 p (.tup [.ref b, .ref r.2.2]) p = some (.tup [.ref b, .ref r.2.2]) := zf;generalize upd H6 p (.tup [.ref b, .ref r.2.2]) = H7 at s7 g7 ⊢;have s07 := s6.trans s7;refine ⟨p, _, rfl, SqT.of g7, rfl, _, _, rfl, _, _, rfl, rfl, ?_⟩;have A7 : At H7 bx dss r.1.1 r.1.2 vh (.ref b) := ⟨hd, Sr.sd, hhF.mono s07, (show Is H6 (tS r.1) (.ref b) from hb).mono s7⟩
 refine ⟨_, rfl, _, rfl, bx, dss, r.1.1, r.1.2, vh, .ref b, rfl, A7, fun lg H8 s8 hlg g8 => ?_⟩;have n4 := hd.n4;have hfew : (due dss r.1.1 r.1.2).length ≤ 4 := by
  unfold due;refine ay (dw _ _) ?_;rw [a7, cq];exact n4
 refine ⟨lg, rfl, ⟨_, SqL.of g8⟩, ?_⟩;refine qx (xs := (due dss r.1.1 r.1.2).map V.int) (fun j ys H' => Same H8 H' ∧ ys = (((due dss r.1.1 r.1.2).take j).filter fun h => eAt dss r.1.1 r.1.2 h).map V.int) ⟨Same.refl H8, rfl⟩ (fun j ys H' hj ⟨s9, e⟩ => ⟨SqL.of (s9 _ _ g8), by rw [e, a7]; have := dw (fun h => eAt dss r.1.1 r.1.2 h) ((due dss r.1.1 r.1.2).take j); rw [cx] at this; exact zy (by omega)⟩) ?_ ?_
 · rintro j x ys H9 hx ⟨s9, rfl⟩;rw [ao] at hx;cases eh : (due dss r.1.1 r.1.2)[j]? with
   | none => rw [eh] at hx; cases hx
   | some h =>
   rw [eh] at hx;cases hx;obtain ⟨q', hq'⟩ := dq.mp (ji.mp (bj eh));obtain ⟨k, dd, ek, hk, ed, _, _⟩ := ww hq';refine ⟨_, rfl, _, rfl, _, rfl, bx, dss, r.1.1, r.1.2, vh, .ref b, k, dd, by rw [ek]; rfl, (A7.same s8).same s9, hk, ed, fun H10 s10 => ⟨_, rfl, ?_⟩⟩;have ee : eAt dss r.1.1 r.1.2 h = mEg dss r.1.1 k dd := by
    unfold eAt;rw [hq', ek, bw, ed]
   rw [c5, eh, List.filter_append, al];refine y0 (fun z => ?_) (fun z => ?_)
   · refine ⟨_, rfl, s9.trans s10, ?_⟩;have : ([h].filter fun h => eAt dss r.1.1 r.1.2 h) = [h] := by simp [ee, z]
     show _ = _ ++ ([h].filter fun h => eAt dss r.1.1 r.1.2 h).map V.int;rw [this];rfl
   · refine ⟨s9.trans s10, ?_⟩;have : ([h].filter fun h => eAt dss r.1.1 r.1.2 h) = [] := by simp [ee, z]
     show _ = _ ++ ([h].filter fun h => eAt dss r.1.1 r.1.2 h).map V.int;rw [this, List.map_nil, cw]
 rintro ys H9 ⟨s9, rfl⟩ le hle;rw [a7, c8, show ((due dss r.1.1 r.1.2).filter fun h => eAt dss r.1.1 r.1.2 h) = eaL dss r.1 from rfl];have s10 := Same.new hle (.lst ((eaL dss r.1).map V.int));have g10 : upd H9 le (.lst ((eaL dss r.1).map V.int)) le = some (.lst ((eaL dss r.1).map V.int)) := zf;generalize upd H9 le (.lst ((eaL dss r.1).map V.int)) = H10 at s10 g10 ⊢;have s710 := s8.trans (s9.trans s10);have s010 := s07.trans s710;refine ⟨_, rfl, _, .inl ⟨_, SqL.of g10, rfl⟩, ?_⟩;cases ee : eaL dss r.1 with
 | nil =>
   refine ye ⟨_, _, _, rfl, s010, fun r' hr' => ?_⟩;rw [c5, er] at hr';rcases br.mp hr' with y | y
   · exact hno r' y
   · have y : r' ∈ [r] := y;rw [ak.mp y];exact ee
 | cons h we =>
   rw [ee] at g10;refine xi ⟨_, rfl, _, rfl, 1, rfl, le, _, rfl, SqL.of g10, fun p11 hp11 => ?_⟩;have ecut : Vj ((h :: we).map V.int) none (some 1) = [V.int h] := (zcu ((h :: we).map V.int) 1).trans rfl;rw [ecut];have s11 := Same.new hp11 (.lst [V.int h]);have g11 : upd H10 p11 (.lst [V.int h]) p11 = some (.lst [V.int h]) := zf;generalize upd H10 p11 (.lst [V.int h]) = H11 at s11 g11 ⊢;have s011 := s010.trans s11;refine ⟨r.2.2, p11, _, _, rfl, rfl, s011 _ _ (rowF r hr), g11, zy (by rw [a7]; show r.2.1.length + 1 ≤ 1000; omega), fun l hl => ?_⟩;have s12 := Same.new hl (.lst (r.2.1.map V.int ++ [V.int h]));have g12 : upd H11 l (.lst (r.2.1.map V.int ++ [V.int h])) l = some (.lst ((r.2.1 ++ [h]).map V.int)) := by rw [zf, al]; rfl
   generalize upd H11 l (.lst (r.2.1.map V.int ++ [V.int h])) = H12 at s12 g12 ⊢;obtain ⟨h1, h2⟩ := sF (s011.trans s12);have nld : l ≠ d := fun z => by rw [z, (sF s011).1] at hl; cases hl
   refine ⟨h1, q1 i r h we er hno ee l _ h2 ?_ (by rw [zk nld]; exact g12)⟩;cases z : H l with
   | none => rfl
   | some x => rw [s011 l x (by rw [zk nld]; exact z)] at hl; cases hl
theorem V9 : FnScope ["house", "rows", "stand", "row"] ["house", "rows"] (zj Wv) := ⟨rfl, rfl, rfl, by decide +kernel, rfl, by decide +kernel, by decide +kernel⟩
theorem zet (D : Def K mg "stuck_weaving" Wv) (T : Txt K mg) (o1 : Ok P w K mg base "stops" 5 ["house", "stand"] V8) : Ok P w K mg base "stuck_weaving" 6 ["house", "rows"] (znr P w) := by
 refine xx D V9 (fun _ _ _ _ _ _ us hl => (match us, hl with | [_, _], _ => rfl)) (fun vs H Q E ⟨_, _, _, _, _, e, _⟩ => by rw [e]; rfl) fun f cdv A outer s H vs Q E hr h => ?_;obtain ⟨bx, dss, vh, d, R, rfl, hd, hh, hR, hS, q0, q1⟩ := h;have nd := V9.nd;refine ⟨_, ze (X8 (vy PassesOwn.never rfl (Qk (pv 1)) (qo rfl (yl (zu (i := 2) nd rfl (Or.inl rfl)) (yl (zu (i := 3) nd rfl (Or.inl rfl)) vc)))
   (zi (yc (yh (zx o1 hr (zc (pv 0) (zc (pv 2) zd)))) (zi (zp (pv 3))) zr))))
  (zi (zp wk)), ?_⟩
 refine ⟨d, kvG R, hR.n, fun o u hu hF0 => ?_⟩;have sF : ∀ {H' : Hp}, Same (upd H d (.frz o u)) H' → H' d = some (.frz o u) ∧ Same H (upd H' d u) := fun {H'} s' => by
  refine ⟨s' _ _ zf, fun b x e => ?_⟩;by_cases z : b = d
  · rw [z] at e ⊢;rw [hu] at e;cases e;exact zf
  · rw [zk z];exact s' _ _ (by rw [zk z]; exact e)
 obtain ⟨xs0, hd0, _⟩ := id hR.n;have tpF : vt H (upd H d (.frz o u)) := vt.upd hd0 (fun zs z => by cases z);have hhF := hh.tups tpF hd.fro;refine ⟨_, rfl, d, o, kvG R, rfl, hF0, ?_⟩;refine Vf (fun i σ H' => ∃ x2 x3, σ = [some vh, some (.ref d), x2, x3] ∧ Same (upd H d (.frz o u)) H' ∧ ∀ r' ∈ R.take i, vb dss r'.1.1 r'.1.2 = false) ⟨_, _, rfl, Same.refl _, fun r h => (by cases h)⟩ (fun i σ H' _ ⟨_, _, _, s', _⟩ => hF0.same s') ?_ ?_;rotate_left
 · rintro σ H6 ⟨x2, x3, rfl, s6, hno⟩;rw [Yp, c8] at hno;obtain ⟨h1, h2⟩ := sF s6;exact ⟨h1, q0 hno _ h2⟩
 rintro i kv σ H6 hkv ⟨x2, x3, rfl, s6, hno⟩ p b hp hb;unfold kvG at hkv;rw [ao] at hkv;cases er : R[i]? with
 | none => rw [er] at hkv; cases hkv
 | some r =>
 rw [er] at hkv;cases hkv;have hr := bj er;obtain ⟨Sr, hrl⟩ := hS r hr;have s7 := Same.new hp (.tup [.ref b, .ref r.2.2]);have g7 : upd H6 p (.tup [.ref b, .ref r.2.2]) p = some (.tup [.ref b, .ref r.2.2]) := zf;generalize upd H6 p (.tup [.ref b, .ref r.2.2]) = H7 at s7 g7 ⊢;have s07 := s6.trans s7;refine ⟨p, _, rfl, SqT.of g7, rfl, _, _, rfl, _, _, rfl, rfl, ?_⟩;have A7 : At H7 bx dss r.1.1 r.1.2 vh (.ref b) := ⟨hd, Sr.sd, hhF.mono s07, (show Is H6 (tS r.1) (.ref b) from hb).mono s7⟩
 refine ⟨_, rfl, _, rfl, bx, dss, r.1.1, r.1.2, vh, .ref b, rfl, A7, fun H8 s8 => ⟨_, rfl, ?_⟩⟩;have s08 := s07.trans s8;refine y0 (fun z => ?_) (fun z => ?_)
 · obtain ⟨h1, h2⟩ := sF s08;exact ⟨_, rfl, h1, q1 i r er hno z _ h2⟩
 · refine ⟨_, _, rfl, s08, fun r' hr' => ?_⟩;rw [c5, er] at hr';rcases br.mp hr' with y | y
   · exact hno r' y
   · have y : r' ∈ [r] := y;rw [ak.mp y];simpa using z
theorem Ks : FnScope ["house", "p", "rows", "early", "stuck"] ["house", "p"] (zj k8) := ⟨rfl, rfl, rfl, by decide +kernel, rfl, by decide +kernel, by decide +kernel⟩
noncomputable def zpl (K : PySem.W.Frag) (mg : Str → Option Value) (x : Str) (st : Stmt) (c : Addr) : Prop := ∃ f fd, Fun K x x st f fd ∧ mg x = some (.ref f) ∧ fd.code = .ref c
theorem zov {x : Str} {st : Stmt} {N ps : List Str} {sp : Sp} (D : zpl K mg x st c) (S : FnScope N ps (zj st))
  (hb : ∀ (kV doc pm : Value) (an : Option Addr) (cdv ct : Value) (us : List Value), us.length = ps.length → bindArgs (PySem.W.fnOf x x (qe st) (xn st) (zj st) .none kV doc pm an cdv ct) ⟨us, []⟩ = pure (ps.zip us))
  (len : ∀ vs H Q E, sp vs H Q E → vs.length = ps.length)
  (hbody : ∀ (f : Addr) (A : Around) (outer : List Env) (s : Shared) (H : Hp) (vs : List V) (Q : VK) (E : XK), Room k (A.deeper (envOfC x (zj st) s.heap.objs.size f (.ref c))) → sp vs H Q E →
   ∃ t, PSs (zba CX0 P w K mg base N x (zj st) f (.ref c) A outer s H E).nox (xn st) t ∧ t { nx := fun _ H' => Q .non H', rt := Q } (start N vs) H) : Ok P w K mg base x (k + 1) ps sp := by
 obtain ⟨f, fd, F, hm, hcode⟩ := D;refine ⟨f, fd, ?_, F.binds hb, F.kp, hm⟩;obtain ⟨oc, od, kV, doc, pm, an, cdv, ct, osl, rfl, lk, hcd⟩ := F.ex;have e : cdv = .ref c := hcode;subst e;refine zk8 lk hcd S len fun A outer s H vs Q E hr hsp => ?_;obtain ⟨t, h, q⟩ := hbody f A outer s H vs Q E hr hsp;exact ⟨t, h.nox, q⟩
noncomputable def Bt (tb : Addr) (H H' : Hp) : Prop := ∀ b o, b ≠ tb → H b = some o → H' b = some o
noncomputable def ziv (tb : Addr) (H : Hp) : Prop := ∃ ps, H tb = some (.tbl ps)
theorem zky {pos : Pos} {qual : Str} (h : k7 tb pos qual H) : ziv tb H := let ⟨ps, h, _⟩ := h; ⟨ps, h⟩
theorem Bt.tups (b : Bt tb H H') (t : ziv tb H) : vt H H' := fun c xs e => b c _ (fun z => by obtain ⟨ps, h⟩ := t; rw [z, h] at e; cases e) e
abbrev k6 (bx : Int) (dss : List (List Dd)) (row : List Int) (st : Sn) : Prop := Way (nxL dss) (s00 bx dss) row st
noncomputable def NoE (bx : Int) (dss : List (List Dd)) : Prop := ∀ row st h, k6 bx dss row st → eAt dss st.1 st.2 h = false
noncomputable def NoS (bx : Int) (dss : List (List Dd)) : Prop := ∀ row st, k6 bx dss row st → vb dss st.1 st.2 = false
noncomputable def zd8 (bx : Int) (dss : List (List Dd)) (H0 H' : Hp) (a : Addr) : Prop :=
 (∃ l row h st, H' a = some (.tup [.str "early", .ref l]) ∧ H0 l = none ∧ H' l = some (.lst ((row ++ [h]).map V.int)) ∧ k6 bx dss row st ∧ eAt dss st.1 st.2 h = true ∧ ∀ row' st' h', k6 bx dss row' st' → eAt dss st'.1 st'.2 h' = true → row.length ≤ row'.length) ∨
 (∃ l row st, H' a = some (.tup [.str "stuck", .ref l]) ∧ H0 l = none ∧ H' l = some (.lst (row.map V.int)) ∧ k6 bx dss row st ∧ vb dss st.1 st.2 = true ∧ NoE bx dss ∧ ∀ row' st', k6 bx dss row' st' → vb dss st'.1 st'.2 = true → row.length ≤ row'.length) ∨
 (∃ l, ∃ L : List Sn, ∃ ys, H' a = some (.tup [.str "holds", .ref l]) ∧ H0 l = none ∧ H' l = some (.lst ys) ∧ L2.IsL H' (L.map tS) ys ∧ L.length ≤ 1250 ∧ L.Nodup ∧ (∀ st, st ∈ L ↔ ∃ row, k6 bx dss row st) ∧ NoE bx dss ∧ NoS bx dss)
noncomputable def znq (tb : Addr) : Sp := fun vs H Q _ => ∃ bx dss vh p, vs = [vh, .int p] ∧ HD bx dss ∧ WD p dss ∧ CrD bx dss ∧ Is H (hT bx dss) vh ∧ k7 tb zar kx H ∧
 ∀ a H', Bt tb H H' → k7 tb zar kx H' → zd8 bx dss H H' a → Q (.ref a) H'
theorem zdz (e : eAt dss st.1 st.2 h = true) : h ∈ due dss st.1 st.2 := by
 refine ji.mpr ?_;unfold eAt at e;cases z : yt dss st.1 st.2 h with
 | none => rw [z] at e; cases e
 | some q => rfl
theorem zmb (B : Bh (nxL dss) (s00 bx dss) R) (h : ∀ r ∈ R, eaL dss r.1 = []) : NoE bx dss := fun row st hh w => by
 obtain ⟨r, hr, e, _⟩ := B.all row st w;cases z : eAt dss st.1 st.2 hh with
 | false => rfl
 | true =>
   have : hh ∈ eaL dss st := dc.mpr ⟨zdz z, z⟩;rw [← e, h r hr] at this;cases this
theorem zci (bd : Bh (nxL dss) (s00 bx dss) R) {r : Eh} (er : R[i]? = some r) {f : Sn → Bool} (hno : ∀ r' ∈ R.take i, f r'.1 = false) {row' : List Int} {st' : Sn} (wy : k6 bx dss row' st') (e' : f st' = true) : r.2.1.length ≤ row'.length := by
 obtain ⟨r', hr', er', hle⟩ := bd.all row' st' wy;have hi : i < R.length := (bh.mp er).1;have eR : R[i] = r := (bh.mp er).2;obtain ⟨j, hj, ej⟩ := d0.mp hr';have hij : i ≤ j := by
  by_cases y : i ≤ j
  · exact y
  · exfalso;have hm' : r' ∈ R.take i := by rw [← ej]; exact List.mem_take_iff_getElem.mpr ⟨j, by omega, rfl⟩
    have h1 := hno r' hm';rw [er', e'] at h1;cases h1
 have h2 : r.2.1.length ≤ r'.2.1.length := by
  rcases Nat.lt_or_eq_of_le hij with y | y
  · have := eu.mp bd.ord i j hi hj y;rw [eR, ej] at this;exact this
  · subst y;rw [← ej, eR];exact a9 _
 omega
theorem RNt.del {H : Hp} {d c : Addr} {o : Obj} {R : List Eh} (r : RNt P w H d R) (h : H c = some (kno o)) : RNt P w (del H c) d R := by
 obtain ⟨xs, e, _⟩ := id r.n;refine ⟨r.n.by (za9 h) ?_, fun x hx => ?_⟩
 · rw [vn (fun z => by rw [← z, e] at h; cases h)]
 · have := r.rows x hx;rw [vn (fun z => by rw [z, h] at this; cases this)];exact this
theorem zg1 (B : Y2 mg base) (CH : PySem.W.CodeHd base c tb) (D : zpl K mg "tried_loose" k8 c) (T : Txt K mg) (o1 : Ok P w K mg base "need_loose_wall" 7 ["house", "p"] zi8) (o2 : Ok P w K mg base "rows_to_all" 7 ["first", "steps", "most"] (zny P w mg)) (o3 : Ok P w K mg base "at_first" 1 ["house"] Kp)
  (o4 : Ok P w K mg base "early_weaving" 5 ["house", "rows"] (zn7 P w)) (o5 : Ok P w K mg base "stuck_weaving" 6 ["house", "rows"] (znr P w)) : Ok P w K mg base "tried_loose" 8 ["house", "p"] (znq tb) := by
 refine zov D Ks (fun _ _ _ _ _ _ us hl => (match us, hl with | [_, _], _ => rfl)) (fun vs H Q E ⟨_, _, _, _, e, _⟩ => by rw [e]; rfl) fun f A outer s H vs Q E hr h => ?_;obtain ⟨bx, dss, vh, p, rfl, hd, hw, C, hh, hT, q⟩ := h;obtain ⟨f2, fd2, F2, hb2, hk2, hm2⟩ := o2;have nd := Ks.nd;refine ⟨_, ze (vz (zx o1 hr (zc (pv 0) (zc (pv 1) zd))))
  (ze (ya (i := 2) nd rfl (Or.inl rfl) (zgs (c := s.heap.objs.size + 1) (i := 0) F2 hr hm2 hk2 hb2 rfl rfl rfl rfl (zc (zx o3 (hr.mono (show 1 ≤ 7 by decide)) (zc (pv 0) zd)) (zc (zl6 (clos := [("house", s.heap.objs.size + 1)]) B CH rfl rfl rfl) (zc (yx T.MOST_STANDS) zd)))))
  (ze (yc (zw W1 (zn jx rfl T.len yd (zc (pv 2) zd)) (yx T.MOST_STANDS) (zt _)) (zi jt) zr)
  (ze (ya (i := 3) nd rfl (Or.inl rfl) (zx o4 (hr.mono (show 5 ≤ 7 by decide)) (zc (pv 0) (zc (pv 2) zd))))
  (ze (yc (zw Ym (pv 3) wk (zt _)) (zi (zp (Zi (zc yi (zc (pv 3) zd))))) zr)
  (ze (ya (i := 4) nd rfl (Or.inl rfl) (zx o5 (hr.mono (show 6 ≤ 7 by decide)) (zc (pv 0) (zc (pv 2) zd))))
  (ze (yc (zw Ym (pv 4) wk (zt _)) (zi (zp (Zi (zc yi (zc (pv 4) zd))))) zr)
  (zi (zp (Zi (zc yi (zc (yp (Vm rfl) rfl T.list vd (zc (pv 2) zd)) zd))))))))))), ?_⟩
 refine ⟨_, rfl, _, rfl, vh, bx, p, dss, rfl, hd, hw, hh, fun H1 s1 => ?_⟩;have hh1 := hh.mono s1;refine ⟨_, rfl, bx, dss, vh, rfl, hd, hh1, fun v2 H2 s2 iv2 => ?_⟩;have hT2 := (hT.same s1).same s2;refine ⟨hT2, fun fl c' occ ctv H3 b3 hT3 hc' ho hfl0 hfl => ?_⟩;have b3 : Bt tb H2 H3 := b3;have tp3 := b3.tups (zky hT2);refine ⟨vh, rfl, fun oc uk hoc ruk hcn => ?_⟩;have s34 := Same.new hcn (kno oc);have hh3 := (hh1.mono s2).tups tp3 hd.fro;have iv3 := (show Is H2 (tS (s00 bx dss)) v2 from iv2).tups tp3 jp;refine ⟨bx, dss, v2, vh, fl, s.heap.objs.size + 1, rfl, hd, C, iv3.mono s34, hh3.mono s34, ⟨c', ctv, oc, occ, uk, s34 _ _ hfl, s34 _ _ hc', ho, zf, hoc, ruk⟩, fun d R H4 s4 hd0 hR hfz bd hcK => ?_⟩;have fr0 : ∀ l, H3 l = none → H l = none := fun l h => by
  cases e : H l with
  | none => rfl
  | some o =>
    by_cases n : l = tb
    · obtain ⟨ps2, h2, _⟩ := hT3;rw [n, h2] at h;cases h
    · rw [b3 l o n (s2 _ _ (s1 _ _ e))] at h;cases h
 have hfz : ∀ r ∈ R, H r.2.2 = none := fun r hr => fr0 _ (Same.none s34 (hfz r hr));have hR5 := hR.del hcK;have s35 : Same H3 (del H4 (s.heap.objs.size + 1)) := fun b o e => by
  rw [vn (zm e hcn)];exact s4 _ _ (s34 _ _ e)
 generalize del H4 (s.heap.objs.size + 1) = H5 at hR5 s35 ⊢;clear hR hcK s4 hd0 s34;have b5 : Bt tb H H5 := fun b o n e => s35 _ _ (b3 b o n (s2 _ _ (s1 _ _ e)));have hT5 := hT3.same s35;have hh5 := hh3.mono s35;have hRl := zdx hd C bd.nd bd.way;have hSL : ∀ r ∈ R, SL bx dss r.1.1 r.1.2 ∧ r.2.1.length ≤ 120 := fun r hr => ⟨(wr hd (bd.way r hr)).1, X3 hd (bd.way r hr)⟩
 refine ⟨_, rfl, d, kvG R, rfl, hR5.n, _, _, rfl, rfl, _, rfl, ?_⟩;rw [av (show ¬ (((kvG R).length : Nat) : Int) > 3000 by rw [Yp]; omega)];refine ye ?_;refine ⟨_, rfl, _, rfl, bx, dss, vh, d, R, rfl, hd, hh5, hR5, hSL, fun hno H6 s6 => ?_, fun i r h we er hno ee l H6 s6 hl g6 => ?_⟩
 · have hNoE := zmb bd hno;refine ⟨_, rfl, rfl, _, rfl, ye ?_⟩;refine ⟨_, rfl, _, rfl, bx, dss, vh, d, R, rfl, hd, hh5.mono s6, hR5.same s6, hSL, fun hnos H7 s7 => ?_, fun i r er hnos es H7 s7 => ?_⟩
   · refine ⟨_, rfl, rfl, _, rfl, ye ?_⟩;have s67 := s6.trans s7;refine ⟨_, rfl, d, kvG R, rfl, hR5.n.same s67, fun ys l H8 s8 hl g8 i8 => ?_⟩;refine ⟨by show 2 ≤ 1000; decide, fun a H9 s9 ha g9 => ?_⟩;have s69 := s67.trans (s8.trans s9);refine q a H9 (fun b o n e => s69 _ _ (b5 b o n e)) (hT5.same s69) (.inr (.inr ⟨l, yj R, ys, g9, fr0 l (Same.none (s35.trans s67) hl), s9 _ _ g8, ?_, ?_, bd.nd, fun st => ⟨fun h => ?_, fun ⟨row, wy⟩ => ?_⟩, hNoE, fun row st wy => ?_⟩))
     · have e : ((kvG R).map fun kv => tN kv.1) = (yj R).map tS := by unfold kvG yj; rw [cv, cv]; rfl
       rw [e] at i8;exact i8.mono s9
     · unfold yj; rw [a7]; exact hRl
     · obtain ⟨r, hr, rfl⟩ := xv.mp h;exact ⟨r.2.1, bd.way r hr⟩
     · obtain ⟨r, hr, e, _⟩ := bd.all row st wy;exact xv.mpr ⟨r, hr, e⟩
     · obtain ⟨r, hr, e, _⟩ := bd.all row st wy;rw [← e];exact hnos r hr
   · refine ⟨_, rfl, rfl, _, rfl, xi ?_⟩;have hr := bj er;refine ⟨_, rfl, by show 2 ≤ 1000; decide, fun a H9 s9 ha g9 => ?_⟩;have s69 := s6.trans (s7.trans s9);exact q a H9 (fun b o n e => s69 _ _ (b5 b o n e)) (hT5.same s69) (.inr (.inl ⟨r.2.2, r.2.1, r.1, g9, hfz r hr, s69 _ _ (hR5.rows r hr), bd.way r hr, es, hNoE, fun row' st' wy e' => zci bd er (f := fun st => vb dss st.1 st.2) hnos wy e'⟩))
 · refine ⟨_, rfl, rfl, _, rfl, xi ?_⟩;have hr := bj er;have hea : eAt dss r.1.1 r.1.2 h = true := by
    have : h ∈ eaL dss r.1 := by rw [ee]; exact be
    exact (dc.mp this).2
   refine ⟨_, rfl, by show 2 ≤ 1000; decide, fun a H9 s9 ha g9 => ?_⟩;have s69 := s6.trans s9;refine q a H9 (fun b o n e => s69 _ _ (b5 b o n e)) (hT5.same s69) (.inl ⟨l, r.2.1, h, r.1, g9, fr0 l (Same.none s35 hl), s9 _ _ g6, bd.way r hr, hea, fun row' st' h' wy e' => ?_⟩);obtain ⟨r', hr', er', hle⟩ := bd.all row' st' wy;have hi : i < R.length := (bh.mp er).1;have eR : R[i] = r := (bh.mp er).2;obtain ⟨j, hj, ej⟩ := d0.mp hr';have hij : i ≤ j := by
    by_cases y : i ≤ j
    · exact y
    · exfalso;have hm' : r' ∈ R.take i := by rw [← ej]; exact List.mem_take_iff_getElem.mpr ⟨j, by omega, rfl⟩
      have h1 := hno r' hm';have : h' ∈ eaL dss st' := dc.mpr ⟨zdz e', e'⟩;rw [← er', h1] at this;cases this
   have h2 : r.2.1.length ≤ r'.2.1.length := by
    rcases Nat.lt_or_eq_of_le hij with y | y
    · have := eu.mp bd.ord i j hi hj y;rw [eR, ej] at this;exact this
    · subst y;rw [← ej, eR];exact a9 _
   omega
theorem zih {bx : Int} (hw : WD p dss) {m : Nat} {d : Dd} (hk : k < dss.length) (e : (dss.getD k [])[i]? = some d) (hm : m ≤ skM d.t) (x : Str) :
  va x (dss.getD k []) (((i + 1 + m : Nat) : Nat) : Int) = va x (dss.getD k []) (i : Int) + if isS x d = true then 1 else 0 := by
 have hn := hw.nsk _ (Ve hk) i d.t (by rw [ao, e]; rfl);have h0 : (((dss.getD k []).drop (i + 1)).take (skM d.t)).countP (isS x) = 0 := by
  rw [← Yx x, List.map_take, List.map_drop, hn];rfl
 have h1 : (((dss.getD k []).drop (i + 1)).take m).countP (isS x) = 0 := by
  have : ((dss.getD k []).drop (i + 1)).take m = (((dss.getD k []).drop (i + 1)).take (skM d.t)).take m := by rw [List.take_take, Nat.min_eq_left hm]
  rw [this];have := List.Sublist.countP_le (p := isS x) (List.take_sublist m (((dss.getD k []).drop (i + 1)).take (skM d.t)));omega
 have h2 := zig (x := x) e;unfold va at h2 ⊢;rw [show (((i : Nat) : Int) + 1).toNat = i + 1 from by omega] at h2;rw [bw, List.take_add, List.countP_append, h1, h2];rfl
theorem jd {ns : List Int} (hd : HD bx dss) (hw : WD p dss) (sd : SD bx dss ps ns) {d : Dd} (hk : k < dss.length) (e : cur dss ps k = some d) (x : Str) (j : Nat) :
  va x (dss.getD j []) ((ps.set k (ps.getD k 0 + 1 + qr d ns)).getD j 0) = va x (dss.getD j []) (ps.getD j 0) + if j = k ∧ isS x d = true then 1 else 0 := by
 by_cases c : j = k
 · subst c;have hkp : j < ps.length := by rw [sd.lp]; exact hk
   have h0 := qy sd.p0 j;have a0 := Wc (ns := ns) (jq hd e);have a1 := zd6 (ns := ns) (jq hd e);rw [zbq hkp];have e1 : ps.getD j 0 + 1 + qr d ns = ((((ps.getD j 0).toNat + 1 + (qr d ns).toNat : Nat) : Nat) : Int) := by omega
   have e2 : ps.getD j 0 = (((ps.getD j 0).toNat : Nat) : Int) := by omega
   have h := zih (bx := bx) hw hk (show (dss.getD j [])[(ps.getD j 0).toNat]? = some d from e) (m := (qr d ns).toNat) (by omega) x;rw [e1, h, ← e2];simp
 · rw [aq (l := ps.set k _), List.getElem?_set_ne (ae c), ← aq, if_neg (fun z => c z.1)];rfl
theorem Vd : mHe dss ps = false ↔ ∀ i j, i < dss.length → j < dss.length → va "go" (dss.getD i []) (ps.getD i 0) ≤ va "come" (dss.getD j []) (ps.getD j 0) := by
 unfold mHe;rw [List.any_eq_false];constructor
 · intro h i j hi hj;have h1 := h _ (bj (Y4 (x := "go") (ps := ps) hi));have h1 : ¬ ((tms "come" dss ps).any fun c => decide (c < ((va "go" (dss.getD i []) (ps.getD i 0) : Nat) : Int))) = true := h1;rw [da] at h1;by_cases z : va "go" (dss.getD i []) (ps.getD i 0) ≤ va "come" (dss.getD j []) (ps.getD j 0)
   · exact z
   · exact absurd ⟨_, bj (Y4 (x := "come") (ps := ps) hj), ai (by omega)⟩ h1
 · intro h g hg hc;obtain ⟨i, hi, rfl⟩ := bq.mp hg;obtain ⟨c, hc1, hc2⟩ := da.mp hc;obtain ⟨j, hj, rfl⟩ := bq.mp hc1;have := h i j (cb.mp hi) (cb.mp hj);have hc2 := bp hc2;omega
theorem zic {d : Dd} (hk : k < dss.length) (hg : isS "go" d = true) : mEg dss ps k d = false ↔ ∀ j, j < dss.length → va "go" (dss.getD k []) (ps.getD k 0) < va "come" (dss.getD j []) (ps.getD j 0) := by
 have eg : (tms "go" dss ps).getD k 0 = ((va "go" (dss.getD k []) (ps.getD k 0) : Nat) : Int) := by
  rw [aq, Y4 hk];rfl
 unfold mEg;rw [hg, bi, eg, List.any_eq_false];constructor
 · intro h j hj;have h1 := h _ (bj (Y4 (x := "come") (ps := ps) hj));by_cases z : va "go" (dss.getD k []) (ps.getD k 0) < va "come" (dss.getD j []) (ps.getD j 0)
   · exact z
   · exact absurd (ai (by omega)) h1
 · intro h c hc hc2;obtain ⟨j, hj, rfl⟩ := bq.mp hc;have := h j (cb.mp hj);have hc2 := bp hc2;omega
theorem Z1 {d : Dd} (h : isS "go" d = true) : isS "come" d = false := by rw [zdu h]; exact Kc
theorem zma (hd : HD bx dss) (hw : WD p dss) (hN : NoE bx dss) (w : k6 bx dss row st) : mHe dss st.1 = false := by
 induction w with
 | nil =>
   refine Vd.mpr fun i j _ _ => ?_;have : ((s00 bx dss).1).getD i 0 = 0 := by
    show (List.replicate dss.length (0 : Int)).getD i 0 = 0;rw [aq, List.getElem?_replicate];split <;> rfl
   rw [this];exact bo _
 | @snoc row st q w hq ih =>
   have e := qw.mp hq;have S := (wr hd w).1;obtain ⟨k, d, ek, hk, ed, _, er⟩ := ww e;have hne := hN row st q.1 w;have hne : mEg dss st.1 k d = false := by
    unfold eAt at hne;rw [e, ek, bw, ed] at hne;exact hne
   rw [er];refine Vd.mpr fun i j hi hj => ?_;show va "go" (dss.getD i []) ((st.1.set k (st.1.getD k 0 + 1 + qr d st.2)).getD i 0) ≤ va "come" (dss.getD j []) ((st.1.set k (st.1.getD k 0 + 1 + qr d st.2)).getD j 0);rw [jd hd hw S.sd hk ed "go" i, jd hd hw S.sd hk ed "come" j];have h0 := Vd.mp ih i j hi hj;by_cases c : i = k ∧ isS "go" d = true
   · rw [if_pos c, if_neg (fun z => by rw [Z1 c.2] at z; cases z.2)];have := (zic hk c.2).mp hne j hj;rw [c.1];omega
   · rw [if_neg c];omega
theorem zpb (hd : HD bx dss) (hw : WD p dss) {q : Sn} (S : SD bx dss st.1 st.2) (e : yt dss st.1 st.2 h = some q) (ea : eAt dss st.1 st.2 h = true) : mHe dss q.1 = true := by
 obtain ⟨k, d, ek, hk, ed, _, er⟩ := ww e;have he : mEg dss st.1 k d = true := by
  unfold eAt at ea;rw [e, ek, bw, ed] at ea;exact ea
 have hg : isS "go" d = true := by
  unfold mEg at he;exact (bc _ _ ▸ he).1
 cases z : mHe dss q.1 with
 | true => rfl
 | false =>
   exfalso;rw [er] at z;have h1 := Vd.mp z;have : mEg dss st.1 k d = false := (zic hk hg).mpr fun j hj => by
    have := h1 k j hk hj;have e1 := jd hd hw S hk ed "go" k;have e2 := jd hd hw S hk ed "come" j;rw [if_pos ⟨rfl, hg⟩] at e1;rw [if_neg (fun z => by rw [Z1 hg] at z; cases z.2)] at e2;have this : va "go" (dss.getD k []) ((st.1.set k (st.1.getD k 0 + 1 + qr d st.2)).getD k 0) ≤ va "come" (dss.getD j []) ((st.1.set k (st.1.getD k 0 + 1 + qr d st.2)).getD j 0) := this;omega
   rw [he] at this;cases this
abbrev Yi : Stmt := top 52
abbrev ja : Stmt := top 53
noncomputable def Yo (dss : List (List Dd)) (ks : List yz) (ps ns : List Int) : Bool := !(vb dss ps ns) && (!(mHe dss ps) && (due dss ps ns).all fun h => decide (kS (nx dss ps ns h) ∈ ks))
noncomputable def zdo (bx : Int) (dss : List (List Dd)) (L : List Sn) : Bool := decide L.Nodup && (decide ((zs dss.length, zs bx.toNat) ∈ L) && L.all fun st => Yo dss (L.map kS) st.1 st.2)
structure Rs (H : Hp) (l : Addr) (bx : Int) (dss : List (List Dd)) (L : List Sn) : Prop where
 at' : ∃ xs, H l = some (.lst xs) ∧ IsL H (L.map tS) xs
 few : L.length ≤ 3000
 each : ∀ st ∈ L, SL bx dss st.1 st.2
theorem Rs.same (r : Rs H l bx dss L) (s : Same H H') : Rs H' l bx dss L := by
 obtain ⟨xs, e, i⟩ := r.at';exact ⟨⟨xs, s _ _ e, i.mono s⟩, r.few, r.each⟩
theorem Rs.is (r : Rs H l bx dss L) : Is H (.lst (L.map tS)) (.ref l) := by
 obtain ⟨xs, e, i⟩ := r.at';exact ⟨l, xs, rfl, e, i⟩
theorem jz {v : V} (h : Is H (tS st) v) : ∃ a, v = .ref a := by
 obtain ⟨a, _, e, _⟩ := h;exact ⟨a, e⟩
noncomputable def zn4 (P : Program) (w : World) : Sp := fun vs H Q _ => ∃ bx dss ps ns vh vst d kvs, vs = [vh, vst, .ref d] ∧ At H bx dss ps ns vh vst ∧ NAt P w H d kvs ∧ ∀ H', Same H H' → Q (.bl (Yo dss (kvs.map (·.1)) ps ns)) H'
noncomputable def zn6 : Sp := fun vs H Q _ => ∃ bx p dss vh l L, vs = [vh, .int p, .ref l] ∧ HD bx dss ∧ WD p dss ∧ Is H (hT bx dss) vh ∧ Rs H l bx dss L ∧ ∀ H', Same H H' → Q (.bl (zdo bx dss L)) H'
theorem Qc : FnScope ["house", "stand", "listed"] ["house", "stand", "listed"] (zj Yi) := ⟨rfl, rfl, rfl, by decide +kernel, rfl, by decide +kernel, by decide +kernel⟩
theorem zey (D : Def K mg "is_kept_at" Yi) (T : Txt K mg) (o1 : Ok P w K mg base "stops" 5 ["house", "stand"] V8) (o2 : Ok P w K mg base "has_early" 2 ["house", "stand"] zjb) (o3 : Ok P w K mg base "steps_from" 5 ["house", "stand"] zlr) : Ok P w K mg base "is_kept_at" 6 ["house", "stand", "listed"] (zn4 P w) := by
 refine xx D Qc (fun _ _ _ _ _ _ us hl => (match us, hl with | [_, _, _], _ => rfl)) (fun vs H Q E ⟨_, _, _, _, _, _, _, _, e, _⟩ => by rw [e]; rfl) fun f cdv A outer s H vs Q E hr h => ?_;obtain ⟨bx, dss, ps, ns, vh, vst, d, kvs, rfl, A, hN, kk⟩ := h;have nd := Qc.nd;have hun := hr.units;have hu3 := df (e9 (by decide : 3 ≤ 64) _) hun;have ndc : (["hand", "stand_behind", "listed"] : List Str).Nodup := by decide +kernel
 refine ⟨_, ze (yc (PW.pt (wj (yh (zx o1 hr (zc (pv 0) (zc (pv 1) zd)))) (wf (yh (zx o2 (hr.mono (show 2 ≤ 5 by decide)) (zc (pv 0) (zc (pv 1) zd))))))) (zi (zp xj)) zr)
  (zi (zp (zn (wg rfl) rfl T.all qc (zc (wc (own := ["hand", "stand_behind"]) (cap := [2]) (g := zh6 K 2 (Yt (wz 0) (Yt (wz 1) zh7))) (te := zi4 P w id (Zo 1) (Zo 2)) rfl (yg (zj Yi) rfl rfl (by decide +kernel) (by decide +kernel) (by decide +kernel) ⟨⟨_, rfl, .inl rfl, xr rfl⟩, trivial⟩) (wn (zx o3 hr (zc (pv 0) (zc (pv 1) zd))))
   (fun _ _ _ _ => qo rfl (yl (zu (i := 0) ndc rfl (Or.inl rfl)) (yl (zu (i := 1) ndc rfl (Or.inl rfl)) vc))) (fun _ _ _ _ => yq)
   (fun _ _ _ _ => zgq (zgt hu3 (pv 1) (pv 2)))) zd)))), ?_⟩
 unfold Yo at kk;refine ⟨_, rfl, _, rfl, bx, dss, ps, ns, vh, vst, rfl, A, fun H1 s1 => ⟨_, rfl, ?_⟩⟩;cases z1 : vb dss ps ns with
 | true =>
   rw [z1] at kk;exact xi (xi (kk H1 s1))
 | false =>
 rw [z1] at kk;refine ye ?_;refine ⟨_, rfl, _, rfl, bx, dss, ps, ns, vh, vst, rfl, A.same s1, fun H2 s2 => ⟨_, rfl, ?_⟩⟩;have s02 := s1.trans s2;cases z2 : mHe dss ps with
 | true =>
   rw [z2] at kk;exact xi (kk H2 s02)
 | false =>
 rw [z2] at kk;refine ye ?_;refine ⟨_, rfl, _, rfl, bx, dss, ps, ns, vh, vst, rfl, A.same s02, fun l xs H3 s3 _ g3 i3 => ?_⟩;have s03 := s02.trans s3;have hxl := i3.length;rw [a7] at hxl;have hfew : (due dss ps ns).length ≤ 4 := by
  unfold due;refine ay (dw _ _) ?_;rw [a7, cq];exact A.hd.n4
 refine ⟨l, rfl, ⟨_, SqL.of g3⟩, ?_⟩;refine qx (xs := xs) (fun i ys H' => Same H3 H' ∧ ys = (((due dss ps ns).take i).map fun h => decide (kS (nx dss ps ns h) ∈ kvs.map (·.1))).map V.bl) ⟨Same.refl H3, rfl⟩ (fun i ys H' hi ⟨s2, e⟩ => ⟨SqL.of (s2 _ _ g3), by rw [e, a7, a7, cx]; exact zy (by omega)⟩) ?_ ?_
 · rintro i x ys H' hx ⟨s', rfl⟩;obtain ⟨t, ht, it⟩ := (i3.mono s').get' hx;rw [ao] at ht;cases eh : (due dss ps ns)[i]? with
   | none => rw [eh] at ht; cases ht
   | some h =>
     rw [eh] at ht;cases ht;obtain ⟨b, zz, rfl, hb, v1, r1, rfl, i1, v2, r2, rfl, i2, hnil⟩ := it;cases (show r2 = [] from hnil);refine ⟨b, _, rfl, SqT.of hb, rfl, _, _, rfl, _, _, rfl, rfl, ?_⟩;refine if0 ?_;obtain ⟨b2, rfl⟩ := jz (st := nx dss ps ns h) i2;refine ⟨_, rfl, _, rfl, d, b2, kvs, kS (nx dss ps ns h), rfl, rfl, hN.same (s03.trans s'), i2, s', ?_⟩;rw [c5, eh, al, al, X4];rfl
 · rintro ys H' ⟨s', rfl⟩ p hp;refine ⟨p, _, rfl, SqL.of zf, ?_⟩;rw [hxl, c8, List.all_map];exact kk _ (s03.trans (s'.trans (Same.new hp _)))
theorem Wt : FnScope ["house", "p", "stands", "listed"] ["house", "p", "stands"] (zj ja) := ⟨rfl, rfl, rfl, by decide +kernel, rfl, by decide +kernel, by decide +kernel⟩
theorem zcf (D : Def K mg "holds_by" ja) (T : Txt K mg) (o1 : Ok P w K mg base "need_loose_wall" 7 ["house", "p"] zi8) (o2 : Ok P w K mg base "is_stand_like" 3 ["house", "thing"] zn1) (o3 : Ok P w K mg base "at_first" 1 ["house"] Kp) (o4 : Ok P w K mg base "is_kept_at" 6 ["house", "stand", "listed"] (zn4 P w)) : Ok P w K mg base "holds_by" 8 ["house", "p", "stands"] zn6 := by
 refine xx D Wt (fun _ _ _ _ _ _ us hl => (match us, hl with | [_, _, _], _ => rfl)) (fun vs H Q E ⟨_, _, _, _, _, _, e, _⟩ => by rw [e]; rfl) fun f cdv A outer s H vs Q E hr h => ?_;obtain ⟨bx, p, dss, vh, l, L, rfl, hd, hw, ih, R, q⟩ := h;have nd := Wt.nd;have hun := hr.units;have hu3 := df (e9 (by decide : 3 ≤ 64) _) hun;have hu8 := df (e9 (by decide : 8 ≤ 64) _) hun;refine ⟨_, ze (vz (zx o1 hr (zc (pv 0) (zc (pv 1) zd))))
  (ze (yc (PW.pt (wj (yu (yh (wl T.isi T.list vd (pv 2)))) (wf (zw W1 (zn zq rfl T.len yd (zc (pv 2) zd)) (yx T.MOST_STANDS) (zt _))))) (zi (zp xj)) zr)
  (ze (yc (yu (yh (zn (wg rfl) rfl T.all qc (zc (wc (own := ["stand"]) (cap := [0]) rfl (yg (zj ja) rfl rfl (by decide +kernel) (by decide +kernel) (by decide +kernel) ⟨⟨_, rfl, .inl rfl, xr rfl⟩, trivial⟩) (wn (pv 2))
   (fun _ _ _ _ => zu (i := 0) (by show (["stand", "house"] : List Str).Nodup; decide +kernel) rfl (Or.inl rfl)) (fun _ _ _ _ => yq) (fun _ _ _ _ => zx o2 (hr.mono (show 3 ≤ 7 by decide)) (zc (pv 1) (zc (pv 0) zd)))) zd)))) (zi (zp xj)) zr)
  (ze (ya (i := 3) nd rfl (Or.inr rfl) (yp (zc0 rfl hu8) rfl T.dict zkt (zc (wc (own := ["stand"]) (cap := []) rfl (yg (zj ja) rfl rfl (by decide +kernel) (by decide +kernel) (by decide +kernel) trivial) (wn (pv 2))
   (fun _ _ _ _ => zu (i := 0) (by show (["stand"] : List Str).Nodup; decide +kernel) rfl (Or.inl rfl)) (fun _ _ _ _ => yq) (fun _ _ _ _ => Zi (zc (pv 0) (zc xj zd)))) zd)) (hs := by with_unfolding_all rfl))
  (ze (yc (PW.pt (wj (zw ka (zn jx rfl T.len yd (zc (pv 3) zd)) (zn zq rfl T.len yd (zc (pv 2) zd)) (zt _)) (wf (zb1 (Xe hu3 (zx o3 (hr.mono (show 1 ≤ 7 by decide)) (zc (pv 0) zd)) (pv 3)))))) (zi (zp xj)) zr)
  (zi (zp (zn (wg rfl) rfl T.all qc (zc (wc (own := ["stand"]) (cap := [0, 3]) rfl (yg (zj ja) rfl rfl (by decide +kernel) (by decide +kernel) (by decide +kernel) ⟨⟨_, rfl, .inl rfl, xr rfl⟩, ⟨_, rfl, .inl rfl, xr rfl⟩, trivial⟩) (wn (pv 2))
   (fun _ _ _ _ => zu (i := 0) (by show (["stand", "house", "listed"] : List Str).Nodup; decide +kernel) rfl (Or.inl rfl)) (fun _ _ _ _ => yq) (fun _ _ _ _ => zx o4 (hr.mono (show 6 ≤ 7 by decide)) (zc (pv 1) (zc (pv 0) (zc (pv 2) zd))))) zd)))))))), ?_⟩
 have few := R.few;refine ⟨_, rfl, _, rfl, vh, bx, p, dss, rfl, hd, hw, ih, fun H1 s1 => ?_⟩;obtain ⟨xs, hl, ixs⟩ := (R.same s1).at';have hxl := ixs.length;rw [a7] at hxl;have ih1 := ih.mono s1;refine ⟨_, rfl, _, "list", _, _, rfl, Is.ty (R.same s1).is, ky, _, rfl, ye ?_⟩;refine ⟨_, rfl, l, _, rfl, .inl (SqL.of hl), _, _, rfl, rfl, _, rfl, ?_⟩;rw [av (show ¬ ((xs.length : Int) > 3000) by omega)];refine ye ?_;have AT : ∀ {H' : Hp} {st : Sn} {x : V}, Same H1 H' → st ∈ L → Is H' (tS st) x → At H' bx dss st.1 st.2 vh x := fun {H' st x} s' hm ix => ⟨hd, (R.each st hm).sd, ih1.mono s', ix⟩
 refine ⟨_, rfl, l, rfl, ⟨_, SqL.of hl⟩, ?_⟩;refine qx (xs := xs) (fun i ys H' => Same H1 H' ∧ ys = (List.replicate i true).map V.bl) ⟨Same.refl H1, rfl⟩ (fun i ys H' hi ⟨s2, e⟩ => ⟨SqL.of (s2 _ _ hl), by rw [e, a7, c9]; exact Z3 (by omega)⟩) ?_ ?_
 · rintro i x ys H' hx ⟨s2, rfl⟩;refine qz ?_;obtain ⟨st, es, ist⟩ := Xk (ixs.mono s2) hx;have hm := bj es;refine ⟨_, rfl, _, rfl, bx, dss, st.1, st.2, vh, x, rfl, AT s2 hm ist, R.each st hm, fun H3 s3 => ⟨s2.trans s3, ?_⟩⟩;rw [d4, al];rfl
 rintro ys H2 ⟨s2, rfl⟩ p2 hp2;generalize hN : xs.length = N;have s3 := Same.new hp2 (.lst ((List.replicate N true).map V.bl));have allT : (List.replicate N true).all id = true := by
  rw [cz];intro b hb;exact (dl.mp hb).2
 refine ⟨p2, _, rfl, SqL.of zf, _, rfl, ?_⟩;rw [allT];refine ye ?_;generalize upd H2 p2 (.lst ((List.replicate N true).map V.bl)) = H3 at s3 ⊢;have s13 := s2.trans s3;have hl3 := s13 _ _ hl;refine ⟨_, rfl, l, rfl, ⟨_, SqL.of hl3⟩, ?_⟩;refine qx (xs := xs) (fun i ys H' => Same H3 H' ∧ ∃ bs : List Addr, ys = bs.map V.ref ∧ Paired (zbi H') bs ((L.take i).map fun st => (kS st, V.bl true))) ⟨Same.refl H3, [], rfl, .nil⟩ (fun i ys H' hi ⟨s', bs, e, pp⟩ => ⟨SqL.of (s' _ _ hl3), ?_⟩) ?_ ?_
 · have := Paired.length pp;rw [e, a7, this, a7, cx];exact Z3 (by omega)
 · rintro i x ys H' hx ⟨s', bs, rfl, pp⟩;refine qz ?_;obtain ⟨st, es, ist⟩ := Xk (ixs.mono (s13.trans s')) hx;obtain ⟨kb, rfl⟩ := jz ist;refine ⟨_, rfl, by show 2 ≤ 1000; decide, fun b4 H4 s4 _ g4 => ⟨s'.trans s4, bs ++ [b4], ?_, ?_⟩⟩
   · rw [al]; rfl
   · rw [c5, es, al];exact Paired.snoc (Paired.mapP pp fun b r hp => zbi.same hp s4) ⟨kb, g4, ist.mono s4⟩
 rintro ys H4 ⟨s4, bs, rfl, pp⟩ p4 hp4;rw [hxl, c8] at pp;have s5 := Same.new hp4 (.lst (bs.map V.ref));have g5 : upd H4 p4 (.lst (bs.map V.ref)) p4 = some (.lst (bs.map V.ref)) := zf;generalize upd H4 p4 (.lst (bs.map V.ref)) = H5 at s5 g5 ⊢;refine ⟨p4, bs, _, rfl, g5, Paired.mapP pp fun b r hp => zbi.same hp s5, fun d H6 s6 hd0 hD => ?_⟩;have s16 := s13.trans (s4.trans (s5.trans s6));have hl6 := s16 _ _ hl;generalize hkv : ku (L.map fun st => (kS st, V.bl true)) [] = kvs at hD;have ekeys : kvs.map (·.1) = Z0 (L.map kS) := by
  rw [← hkv, K7, cv];rfl
 have elen : kvs.length = (Z0 (L.map kS)).length := by rw [← ekeys, a7]
 refine ⟨_, rfl, d, kvs, rfl, hD, _, rfl, l, _, rfl, .inl (SqL.of hl6), rfl, _, rfl, ?_⟩;rw [hxl, elen];unfold zdo at q;have ednd : (!decide (V.int (((Z0 (L.map kS)).length : Nat) : Int) = V.int ((L.length : Nat) : Int))) = !decide L.Nodup := by
  congr 1;rw [decide_eq_decide, ← za0, ← zcs, a7];constructor
  · intro h;injection h with h;omega
  · intro h;rw [h]
 rw [ednd];by_cases z2 : L.Nodup;rotate_left
 · rw [av z2, cg] at q;rw [av z2];exact xi (xi (q H6 (s1.trans s16)))
 rw [ai z2, bi] at q;rw [ai z2];refine ye ?_;refine ⟨_, rfl, bx, dss, vh, rfl, hd, ih1.mono s16, fun vf H7 s7 iF => ?_⟩;have iF : Is H7 (tS (zs dss.length, zs bx.toNat)) vf := iF;obtain ⟨af, rfl⟩ := jz iF;refine ⟨_, rfl, d, af, kvs, kS (zs dss.length, zs bx.toNat), rfl, rfl, hD.same s7, iF, _, rfl, ?_⟩;have s17 := s16.trans s7;have emem : ∀ st : Sn, (kS st ∈ kvs.map (·.1)) ↔ st ∈ L := fun st => by rw [ekeys, zck, Zz]
 rw [X4, decide_eq_decide.mpr (emem _)];by_cases z3 : (zs dss.length, zs bx.toNat) ∈ L;rotate_left
 · rw [av z3, cg] at q;rw [av z3];exact xi (q H7 (s1.trans s17))
 rw [ai z3, bi] at q;rw [ai z3];refine ye ?_;have hl7 := s17 _ _ hl;have hD7 := hD.same s7;refine ⟨_, rfl, l, rfl, ⟨_, SqL.of hl7⟩, ?_⟩;refine qx (xs := xs) (fun i ys H' => Same H7 H' ∧ ys = ((L.take i).map fun st => Yo dss (kvs.map (·.1)) st.1 st.2).map V.bl) ⟨Same.refl H7, rfl⟩ (fun i ys H' hi ⟨s2, e⟩ => ⟨SqL.of (s2 _ _ hl7), by rw [e, a7, a7, cx]; exact Z3 (by omega)⟩) ?_ ?_
 · rintro i x ys H' hx ⟨s2, rfl⟩;refine qz ?_;obtain ⟨st, es, ist⟩ := Xk (ixs.mono (s17.trans s2)) hx;have hm := bj es;refine ⟨_, rfl, _, rfl, _, rfl, bx, dss, st.1, st.2, vh, x, d, kvs, rfl, AT (s17.trans s2) hm ist, hD7.same s2, fun H3 s3 => ⟨s2.trans s3, ?_⟩⟩;rw [c5, es, al, al];rfl
 · rintro ys H9 ⟨s9, rfl⟩ p9 hp9;refine ⟨p9, _, rfl, SqL.of zf, ?_⟩;rw [hxl, c8, List.all_map];have eK : (id ∘ fun (st : Sn) => Yo dss (kvs.map (·.1)) st.1 st.2) = fun st => Yo dss (L.map kS) st.1 st.2 := by
    funext st;show Yo dss (kvs.map (·.1)) st.1 st.2 = _;unfold Yo;congr 2;congr 1;funext h;rw [decide_eq_decide, emem, Zz]
   rw [eK];exact q _ (s1.trans (s17.trans (s9.trans (Same.new hp9 _))))
end
end My
namespace My
variable {n : Nat}
section
variable {S A α : Type} {nx : S → List (A × S)} {s0 : S}
structure Qg (nx : S → List (A × S)) (s0 : S) (R : List (Eg S A α)) (n : Nat) : Prop where
 nd : (yj R).Nodup
 way : ∀ r ∈ R, Way nx s0 r.2.1 r.1
 ord : R.Pairwise fun a b => a.2.1.length ≤ b.2.1.length
 near : ∀ r0, R[n]? = some r0 → ∀ r ∈ R, r.2.1.length ≤ r0.2.1.length + 1
 cl : ∀ i r, i < n → R[i]? = some r → ∀ p ∈ nx r.1, ∃ r' ∈ R, r'.1 = p.2 ∧ r'.2.1.length ≤ r.2.1.length + 1
 first : ∃ r ∈ R, r.1 = s0 ∧ r.2.1.length = 0
theorem Qg.start (a : α) : Qg nx s0 [(s0, [], a)] 0 where
 nd := by show [s0].Nodup; simp
 way := fun r hr => by rw [ak.mp hr]; exact .nil
 ord := List.pairwise_singleton _ _
 near := fun r0 _ r hr => by rw [ak.mp hr]; exact bo _
 cl := fun i r hi => absurd hi (di _)
 first := ⟨_, ak.mpr rfl, rfl, rfl⟩
theorem Qg.step {R : List (Eg S A α)} (b : Qg nx s0 R n) {r0 : Eg S A α} {p : A × S} (h0 : R[n]? = some r0) (hp : p ∈ nx r0.1) (hn : p.2 ∉ yj R) (a : α) : Qg nx s0 (R ++ [(p.2, r0.2.1 ++ [p.1], a)]) n := by
 have hm := bj h0;have hlt := (bh.mp h0).1;have nl : (r0.2.1 ++ [p.1]).length = r0.2.1.length + 1 := by rw [ba]; rfl
 refine ⟨?_, fun x hx => ?_, ?_, fun r1 h1 x hx => ?_, fun i x hi hx q hq => ?_, ?_⟩
 · rw [wv];refine List.nodup_append.mpr ⟨b.nd, by simp, fun x hx y hy e => ?_⟩;rw [e, ak.mp hy] at hx;exact hn hx
 · rcases br.mp hx with h | h
   · exact b.way x h
   · rw [ak.mp h];exact .snoc (b.way r0 hm) hp
 · refine List.pairwise_append.mpr ⟨b.ord, List.pairwise_singleton _ _, fun x hx y hy => ?_⟩;rw [ak.mp hy];show x.2.1.length ≤ (r0.2.1 ++ [p.1]).length;rw [nl];exact b.near r0 h0 x hx
 · rw [dh hlt, h0] at h1;cases h1;rcases br.mp hx with h | h
   · exact b.near r0 h0 x h
   · rw [ak.mp h];exact Nat.le_of_eq nl
 · rw [dh (by omega)] at hx;obtain ⟨r', h1, h2⟩ := b.cl i x hi hx q hq;exact ⟨r', cu _ h1, h2⟩
 · obtain ⟨x, h1, h2⟩ := b.first;exact ⟨x, cu _ h1, h2⟩
theorem Qg.next {R : List (Eg S A α)} (b : Qg nx s0 R n) {r0 : Eg S A α} (h0 : R[n]? = some r0) (h : ∀ p ∈ nx r0.1, p.2 ∈ yj R) : Qg nx s0 R (n + 1) := by
 refine ⟨b.nd, b.way, b.ord, fun r1 h1 x hx => ?_, fun i x hi hx q hq => ?_, b.first⟩
 · have h2 := b.near r0 h0 x hx;obtain ⟨a1, a2⟩ := bh.mp h0;obtain ⟨b1, b2⟩ := bh.mp h1;have := eu.mp b.ord n (n + 1) a1 b1 (Nat.lt_succ_self n);rw [a2, b2] at this;omega
 · by_cases c : i < n
   · exact b.cl i x c hx q hq
   · have e : i = n := by omega
     subst e;rw [h0] at hx;cases hx;obtain ⟨r', h1, h2⟩ := xv.mp (h q hq);exact ⟨r', h1, h2, b.near r0 h0 r' h1⟩
theorem Qg.end' {R : List (Eg S A α)} (b : Qg nx s0 R n) (hn : R.length ≤ n) : Bh nx s0 R := by
 refine ⟨b.nd, b.way, b.ord, fun row st w => ?_⟩;induction w with
 | nil =>
   obtain ⟨r, h1, h2, h3⟩ := b.first;exact ⟨r, h1, h2, by omega⟩
 | @snoc row st p w hp ih =>
   obtain ⟨r, h1, h2, h3⟩ := ih;obtain ⟨j, hj, ej⟩ := d0.mp h1;obtain ⟨r', h4, h5, h6⟩ := b.cl j r (by omega) (by rw [ah hj, ej]) p (by rw [h2]; exact hp);exact ⟨r', h4, h5, by rw [ba]; show r'.2.1.length ≤ row.length + 1; omega⟩
end
end My
namespace My
open PySem PySem.Spec PyProof.Rows L2
abbrev Y8 : Stmt := top 65
abbrev Eu := Eg Sn Int Unit
noncomputable def kvD (R : List Eu) : List (yz × V) := R.map fun r => (kS r.1, V.int (r.2.1.length : Int))
variable {tb : Addr} {osl : Array (Option Value)} {r : Eu} {fd0 : FuncData} {h : Heap} {H H' : Hp} {bx : Int} {kvs : List (yz × V)} {dss : List (List Dd)} {R : List Eu} {es : List Expr} {ns ps row : List Int} {xs : List V} {i : Nat} {pos : Pos} {P : Program} {K : PySem.W.Frag} {q st : Sn} {mg : Str → Option Value} {w : World}
theorem zhy (R : List Eu) : (kvD R).map (·.1) = (yj R).map kS := by unfold kvD yj; rw [cv, cv]; rfl
theorem Yq (R : List Eu) : (kvD R).length = R.length := by unfold kvD; rw [a7]
theorem J7 (nd : (yj R).Nodup) (h : r ∈ R) : jf (kvD R) (kS r.1) = some (.int (r.2.1.length : Int)) := by
 induction R with
 | nil => cases h
 | cons a R ih =>
   have nd' : (a.1 :: yj R).Nodup := nd;obtain ⟨n1, n2⟩ := c7.mp nd';rcases aa.mp h with e | h2
   · subst e;exact Z6 (p := (kS r.1, V.int (r.2.1.length : Int))) rfl
   · have e : a.1 ≠ r.1 := fun z => n1 (by rw [z]; exact xv.mpr ⟨r, h2, rfl⟩);exact (Z7 (p := (kS a.1, V.int (a.2.1.length : Int))) (fun z => e (Ka z))).trans (ih n2 h2)
theorem W9 (R : List Eu) (st : Sn) : (jf (kvD R) (kS st)).isSome = decide (st ∈ yj R) := by
 rw [X4, zhy];by_cases c : st ∈ yj R
 · rw [ai c, ai (Zz.mpr c)]
 · rw [av c, av (fun z => c (Zz.mp z))]
theorem zkb (h : st ∉ yj R) (row : List Int) : Zv (kvD R) (kS st) (.int (row.length : Int)) = kvD (R ++ [(st, row, ())]) := by
 have hv : jf (kvD R) (kS st) = none := by
  cases z : jf (kvD R) (kS st) with
  | none => rfl
  | some v =>
    have := W9 R st;rw [z, av h] at this;cases this
 rw [K6 _ hv];unfold kvD;rw [al];rfl
theorem zh9 (hd : HD bx dss) (C : CrD bx dss) (nd : (yj R).Nodup) (way : ∀ r ∈ R, Way (nxL dss) (s00 bx dss) r.2.1 r.1) : R.length ≤ 1250 := by
 have := zdw (s0 := s00 bx dss) hd C SL.first nd fun st hst => by
  obtain ⟨r, hr, rfl⟩ := xv.mp hst;exact wr hd (way r hr)
 unfold yj at this
 rwa [a7] at this
noncomputable def zk3 (P : Program) (w : World) : Sp := fun vs H Q _ => ∃ bx dss vh, vs = [vh] ∧ HD bx dss ∧ CrD bx dss ∧ Is H (hT bx dss) vh ∧ ∀ d R H', Same H H' → H d = none → NAt P w H' d (kvD R) → Bh (nxL dss) (s00 bx dss) R → Q (.ref d) H'
section
variable {base : Heap}
theorem Wn : FnScope ["house", "known", "row", "at", "hand", "there"] ["house"] (zj Y8) := ⟨rfl, rfl, rfl, by decide +kernel, rfl, by decide +kernel, by decide +kernel⟩
theorem zb8 (D : Def K mg "_law_e_search" Y8) (T : Txt K mg) (o1 : Ok P w K mg base "_law_e_start" 1 ["house"] Kp) (o2 : Ok P w K mg base "_law_e_step" 1 ["house", "stand", "hand"] zda) : Ok P w K mg base "_law_e_search" 2 ["house"] (zk3 P w) := by
 refine xx D Wn (fun _ _ _ _ _ _ us hl => (match us, hl with | [_], _ => rfl)) (fun vs H Q E ⟨_, _, _, e, _⟩ => by rw [e]; rfl) fun f cdv A outer s H vs Q E hr h => ?_;obtain ⟨bx, dss, vh, rfl, hd, C, ih, kk⟩ := h;have nd := Wn.nd;have hun := hr.units;have hu3 := df (e9 (by decide : 3 ≤ 64) _) hun;refine ⟨_, ze (ya (i := 1) nd rfl (Or.inl rfl) (Ql hu3 (zx o1 hr (zc (pv 0) zd)) zh))
  (ze (ya (i := 2) nd rfl (Or.inl rfl) (yp (Vm rfl) rfl T.list vd (zc (pv 1) zd)))
  (ze (ya (i := 3) nd rfl (Or.inl rfl) zh)
  (ze (K8 PassesOwn.never (zw Yn (pv 3) (zn zq (by rfl) T.len yd (zc (pv 2) zd)) (zt _))
   (ze (vy PassesOwn.never rfl (xu rfl T.range (zc (zn zq (by rfl) T.len yd (zc (zo zl (pv 0) zh (fun _ _ => rfl)) zd)) zd)) (zu (i := 4) nd rfl (Or.inl rfl))
    (ze (ya (i := 5) nd rfl (Or.inl rfl) (zx o2 hr (zc (pv 0) (zc (zo yn (pv 2) (pv 3) (fun _ _ => rfl)) (zc (pv 4) zd)))))
    (zi (yc (PW.pt (Zu (zw Ym (pv 5) wk (zt _)) (j6 (zb1 (Xe hu3 (pv 5) (pv 1))))))
     (ze (zdg hu3 (pv 1) (pv 5) (yb xt (zdj hu3 (pv 1) (zo yn (pv 2) (pv 3) (fun _ _ => rfl)) (fun _ _ => rfl)) zh) rfl)
     (zi (vz (Xq PySem.F.plainAttrs_list PySem.F.slot_list_append PySem.F.type_list_append jb (pv 2) (zc (pv 5) zd))))) zr))))
   (zi (ya (i := 3) nd rfl (Or.inl rfl) (yb xt (pv 3) zh)))))
  (zi (zp (pv 1)))))), ?_⟩
 have n4 := hd.n4;obtain ⟨a, as, ss, e0, ha, has, hls, hn⟩ := v6 ih;refine fun d o0 hd0 hN0 => ?_;have s0 : Same H (upd H d o0) := Same.new hd0 o0;generalize upd H d o0 = H0 at s0 hN0 ⊢;refine ⟨_, rfl, bx, dss, vh, rfl, hd, ih.mono s0, fun v1 H1 s1 i1 => ?_⟩;have i1 : Is H1 (tS (s00 bx dss)) v1 := i1;obtain ⟨b1, rfl⟩ := jz i1;refine ⟨b1, kS (s00 bx dss), rfl, i1, hN0.same s1, fun o2 hN2 => ?_⟩;have s02 : Same H (upd H1 d o2) := fun b o e => by rw [zk (zm e hd0)]; exact s1 _ _ (s0 _ _ e)
 generalize upd H1 d o2 = H2 at s02 hN2 ⊢;have hN2 : NAt P w H2 d (kvD [(s00 bx dss, [], ())]) := hN2;refine ⟨_, rfl, d, _, rfl, hN2, fun xs3 lr H3 s3 hlr g3 i3 => ?_⟩;have hlrH : H lr = none := by
  cases y : H lr with
  | none => rfl
  | some o => rw [s02 _ _ y] at hlr; cases hlr
 have i3 : L2.IsL H3 ((yj [(s00 bx dss, ([] : List Int), ())]).map tS) xs3 := i3;refine ⟨fun n σ H' => ∃ R : List Eu, ∃ xs, ∃ at_ : Nat, ∃ x4 x5, σ = [some vh, some (.ref d), some (.ref lr), some (.int (at_ : Int)), x4, x5] ∧ Same H H' ∧ NAt P w H' d (kvD R) ∧ Qg (nxL dss) (s00 bx dss) R at_ ∧ H' lr = some (.lst xs) ∧ L2.IsL H' ((yj R).map tS) xs ∧ n = 1250 - at_,
  ⟨1250, _, _, 0, none, none, rfl, s02.trans s3, hN2.same s3, Qg.start (), g3, i3, rfl⟩, ?_⟩
 rintro n σ H4 ⟨R, xs, at_, x4, x5, rfl, s4, N4, Q4, g4, i4, rfl⟩;have hxl := i4.length;unfold yj at hxl;rw [a7, a7] at hxl;have few := zh9 hd C Q4.nd Q4.way;refine ⟨_, rfl, _, rfl, lr, _, rfl, .inl (SqL.of g4), _, _, rfl, rfl, _, rfl, y0 (fun z => ?_) (fun z => ?_)⟩;rotate_left
 · refine ⟨_, rfl, kk d R H4 s4 hd0 N4 (Q4.end' ?_)⟩;by_cases y : R.length ≤ at_
   · exact y
   · exact absurd (ai (show ((at_ : Nat) : Int) < ((xs.length : Nat) : Int) by omega)) z
 have z := bp z;have hat : at_ < R.length := by omega
 refine ⟨fun σ' H' => ∃ n', n' < 1250 - at_ ∧ ∃ R : List Eu, ∃ xs, ∃ at_ : Nat, ∃ x4 x5, σ' = [some vh, some (.ref d), some (.ref lr), some (.int (at_ : Int)), x4, x5] ∧ Same H H' ∧ NAt P w H' d (kvD R) ∧ Qg (nxL dss) (s00 bx dss) R at_ ∧ H' lr = some (.lst xs) ∧ L2.IsL H' ((yj R).map tS) xs ∧ n' = 1250 - at_, fun σ' H' h => h, ?_⟩;obtain ⟨r0, er0⟩ : ∃ r0, R[at_]? = some r0 := ⟨_, ah hat⟩
 refine ⟨_, rfl, a, _, _, _, e0, rfl, SqT.of (s4 _ _ ha), rfl, as, ss, rfl, .inr (SqT.of (s4 _ _ has)), _, rfl, by omega, by omega, ?_⟩;refine jc (lo := 0) (n := ((ss.length : Nat) : Int).toNat) (fun j σ H' => ∃ R : List Eu, ∃ xs, ∃ x4 x5, σ = [some vh, some (.ref d), some (.ref lr), some (.int (at_ : Int)), x4, x5] ∧ Same H H' ∧ NAt P w H' d (kvD R) ∧ Qg (nxL dss) (s00 bx dss) R at_ ∧ H' lr = some (.lst xs) ∧ L2.IsL H' ((yj R).map tS) xs ∧ R[at_]? = some r0 ∧ ∀ i : Nat, i < j → ∀ q, yt dss r0.1.1 r0.1.2 (i : Int) = some q → q ∈ yj R) ⟨R, xs, _, _, rfl, s4, N4, Q4, g4, i4, er0, fun i hi => absurd hi (di _)⟩ ?_ ?_;rotate_left
 · rintro σ H5 ⟨R', xs', y4, y5, rfl, s5, N5, Q5, g5, i5, er5, hcl⟩;refine ⟨_, rfl, _, _, rfl, rfl, 1250 - (at_ + 1), by omega, R', xs', at_ + 1, y4, y5, rfl, s5, N5, Q5.next er5 fun p hp => ?_, g5, i5, rfl⟩;have e := qw.mp hp;obtain ⟨k, dd, ek, hk, _⟩ := ww e;rw [ek] at e;exact hcl k (by omega) _ e
 rintro j σ H5 hj ⟨R, xs, y4, y5, rfl, s5, N5, Q5, g5, i5, er5, hcl⟩;rw [Int.zero_add];have hm := bj er5;obtain ⟨v, hv, iv⟩ := i5.get (i := at_) (t := tS r0.1) (by unfold yj; rw [ao, ao, er5]; rfl);obtain ⟨bv, rfl⟩ := jz iv;have few := zh9 hd C Q5.nd Q5.way;have S0 := (wr hd (Q5.way r0 hm)).1;have more : ∀ {K2 : List Sn}, (∀ q, q ∈ yj R → q ∈ K2) → (∀ q, yt dss r0.1.1 r0.1.2 (j : Int) = some q → q ∈ K2) → ∀ i : Nat, i < j + 1 → ∀ q, yt dss r0.1.1 r0.1.2 (i : Int) = some q → q ∈ K2 := fun h1 h2 i hi q e => by
  by_cases c : i < j
  · exact h1 _ (hcl i c q e)
  · have : i = j := by omega
    subst this;exact h2 q e
 refine ⟨_, rfl, _, rfl, _, rfl, lr, xs, _, _, rfl, rfl, SqL.of g5, yo hv, _, rfl, bx, dss, r0.1.1, r0.1.2, vh, .ref bv, (j : Int), rfl, ⟨hd, S0.sd, ih.mono s5, iv⟩, fun e H6 s6 => ?_, fun qs ms u H6 e s6 iu => ?_⟩
 · refine ⟨_, rfl, rfl, _, rfl, ?_⟩;exact y0 (fun z => absurd z (by decide +kernel)) (fun _ => ye ⟨R, xs, _, _, rfl, s5.trans s6, N5.same s6, Q5, s6 _ _ g5, i5.mono s6, er5, more (fun _ h => h) (fun q e' => by rw [e] at e'; cases e')⟩)
 have hu' := Zn iu;refine ⟨_, rfl, rfl, _, rfl, ?_⟩;rw [av hu'];refine xi ?_;have iu : Is H6 (tS (qs, ms)) u := iu;obtain ⟨bu, rfl⟩ := jz iu;have N6 := N5.same s6;have g6 := s6 _ _ g5;have i6 := i5.mono s6;have iv6 := iv.mono s6;refine ⟨_, rfl, _, rfl, d, bu, kvD R, kS (qs, ms), rfl, rfl, N6, iu, _, rfl, ?_⟩;rw [W9];by_cases z6 : (qs, ms) ∈ yj R
 · rw [ai z6];exact ye ⟨R, xs, _, _, rfl, s5.trans s6, N6, Q5, g6, i6, er5, more (fun _ h => h) (fun q e' => by rw [e] at e'; cases e'; exact z6)⟩
 rw [av z6];refine xi ?_;refine ⟨_, rfl, _, rfl, _, rfl, lr, xs, _, _, rfl, rfl, SqL.of g6, yo hv, d, bv, kvD R, kS r0.1, _, rfl, rfl, N6, iv6, J7 Q5.nd hm, _, _, rfl, rfl, _, rfl, _, rfl, d, bu, kvD R, kS (qs, ms), rfl, rfl, N6, iu, Vo (by rw [Yq]; omega), fun o hN7 => ?_⟩;have hrow : ((r0.2.1.length : Nat) : Int) + 1 = (((r0.2.1 ++ [(j : Int)]).length : Nat) : Int) := by rw [ba]; rfl
 have hN7 : NAt P w (upd H6 d o) d (Zv (kvD R) (kS (qs, ms)) (.int ((r0.2.1.length : Int) + 1))) := hN7;rw [hrow, zkb z6] at hN7;have tp := N6.tups (o := o);have nld : lr ≠ d := N6.ne g6;have g7 : upd H6 d o lr = some (.lst xs) := by rw [zk nld]; exact g6
 have i7 := i6.tups tp (Yu _);have iu7 := iu.tups tp jp;have s7 : Same H (upd H6 d o) := fun b o' e' => by rw [zk (zm e' hd0)]; exact s6 _ _ (s5 _ _ e')
 generalize upd H6 d o = H7 at hN7 tp g7 i7 iu7 s7 ⊢;have hxl := i7.length;unfold yj at hxl;rw [a7, a7] at hxl;refine ⟨_, rfl, .inl ⟨rfl, _, SqL.of g7⟩, _, rfl, lr, xs, _, rfl, rfl, g7, Vo (by omega), ?_⟩;have tp8 : vt H7 (upd H7 lr (.lst (xs ++ [.ref bu]))) := vt.upd g7 (fun zs z => by cases z);have hN8 := hN7.by tp8 (zk (ae nld))
 have i8 : L2.IsL (upd H7 lr (.lst (xs ++ [.ref bu]))) ((yj (R ++ [((qs, ms), r0.2.1 ++ [(j : Int)], ())])).map tS) (xs ++ [.ref bu]) := by
  rw [wv, al];exact IsL.append (i7.tups tp8 (Yu _)) (IsL.one (iu7.tups tp8 jp))
 have s8 : Same H (upd H7 lr (.lst (xs ++ [.ref bu]))) := fun b o' e' => by rw [zk (zm e' hlrH)]; exact s7 _ _ e'
 refine ⟨R ++ [((qs, ms), r0.2.1 ++ [(j : Int)], ())], xs ++ [.ref bu], _, _, rfl, s8, hN8, Q5.step (p := ((j : Int), (qs, ms))) er5 (qw.mpr e) z6 (), zf, i8, ?_, more (fun q hq => ?_) (fun q e' => ?_)⟩
 · rw [dh (bh.mp er5).1];exact er5
 · rw [wv];exact cu _ hq
 · rw [e] at e';cases e';rw [wv];exact ci _ (ak.mpr rfl)
abbrev Jg : Stmt := top 67
abbrev Zc : Stmt := top 66
noncomputable def zi0 (K : PySem.W.Frag) : TE := zk2 (tCB (zgj K) (j9 (Zo 0) (j9 (tC (.ty "int")) zbo))) (zk0 (tCB (zgj K) (j9 (Zo 0) (j9 (tC (.ty "bool")) zbo))))
noncomputable def zn5 : Sp := fun vs H Q _ => ∃ bx dss ps ns vh vst, vs = [vh, vst] ∧ At H bx dss ps ns vh vst ∧ ∀ H', Same H H' → Q (.bl true) H'
theorem zct (x : Str) : decide (V.str x = V.str x) = true := ai rfl
theorem eh : decide (V.str "early" = V.str "holds") = false ∧ decide (V.str "stuck" = V.str "holds") = false ∧ decide (V.str "stuck" = V.str "early") = false ∧ decide (V.str "holds" = V.str "early") = false := by decide +kernel
theorem zc4 {h : Int} (w : k6 bx dss row st) (e : yt dss st.1 st.2 h = some q) : k6 bx dss (row ++ [h]) q := Way.snoc (p := (h, q)) w (qw.mpr e)
theorem zjh {ws : List Int} (h : xy dss ps ns ws = some q) (i : Nat) : ∃ st, xy dss ps ns (ws.take i) = some st := by
 cases z : xy dss ps ns (ws.take i) with
 | none => rw [zgf z] at h; cases h
 | some st => exact ⟨st, rfl⟩
theorem zji {ws : List Int} {x : Int} (h : xy dss ps ns ws = some q) (e : xy dss ps ns (ws.take i) = some st) (hx : ws[i]? = some x) : ∃ st', yt dss st.1 st.2 x = some st' ∧ xy dss ps ns (ws.take (i + 1)) = some st' := by
 obtain ⟨st', e'⟩ := zjh h (i + 1);refine ⟨st', ?_, e'⟩;rw [c5, hx, qi, e] at e';have e' : xy dss st.1 st.2 [x] = some st' := e';rw [W7] at e';exact e'
theorem zec {ws : List Int} (w : k6 bx dss ws st) : J3 bx dss ws = vb dss st.1 st.2 := by
 have := Z5 w;unfold J3;rw [show xy dss (zs dss.length) (zs bx.toNat) ws = some st from this]
theorem Xl (es : List Int) : PyData.eqv (toD (.lst (iT es))) (toD (.lst [])) = decide (es = []) := by
 cases es with
 | nil => rfl
 | cons g r =>
   unfold iT toD PyData.eqv;rw [de];unfold w5;simp [PyData.eqvAll]
theorem zkf {p : Int} (hd : HD bx dss) (hw : WD p dss) {q : Int × Sn} (S : SD bx dss st.1 st.2) (h0 : mHe dss st.1 = false) (e : yt dss st.1 st.2 q.1 = some q.2) (hne : eAt dss st.1 st.2 q.1 = false) : mHe dss q.2.1 = false := by
 obtain ⟨k, d, ek, hk, ed, _, er⟩ := ww e;have hne : mEg dss st.1 k d = false := by
  unfold eAt at hne;rw [e, ek, bw, ed] at hne;exact hne
 rw [er];refine Vd.mpr fun i j hi hj => ?_;show va "go" (dss.getD i []) ((st.1.set k (st.1.getD k 0 + 1 + qr d st.2)).getD i 0) ≤ va "come" (dss.getD j []) ((st.1.set k (st.1.getD k 0 + 1 + qr d st.2)).getD j 0);rw [jd hd hw S hk ed "go" i, jd hd hw S hk ed "come" j];have h0 := Vd.mp h0 i j hi hj;by_cases c : i = k ∧ isS "go" d = true
 · rw [if_pos c, if_neg (fun z => by rw [Z1 c.2] at z; cases z.2)];have := (zic hk c.2).mp hne j hj;rw [c.1];omega
 · rw [if_neg c];omega
theorem zh4 {p : Int} (hd : HD bx dss) (hw : WD p dss) (w : k6 bx dss row st) : mHe dss st.1 = true → ∃ row' st' h', k6 bx dss row' st' ∧ eAt dss st'.1 st'.2 h' = true ∧ row'.length + 1 ≤ row.length := by
 induction w with
 | nil =>
   intro h;exfalso;have : mHe dss (s00 bx dss).1 = false := by
    refine Vd.mpr fun i j _ _ => ?_;have : ((s00 bx dss).1).getD i 0 = 0 := by
     show (List.replicate dss.length (0 : Int)).getD i 0 = 0;rw [aq, List.getElem?_replicate];split <;> rfl
    rw [this];exact bo _
   rw [h] at this;cases this
 | @snoc row st q w hq ih =>
   intro h;have ln : (row ++ [q.1]).length = row.length + 1 := by rw [ba]; rfl
   cases z : mHe dss st.1 with
   | true =>
     obtain ⟨r', s', h', a, b, c⟩ := ih z;exact ⟨r', s', h', a, b, by omega⟩
   | false =>
     cases y : eAt dss st.1 st.2 q.1 with
     | true => exact ⟨row, st, q.1, w, y, by omega⟩
     | false =>
       have := zkf hd hw (wr hd w).1.sd z (qw.mp hq) y;rw [h] at this;cases this
noncomputable def dsL (f : Sn → Bool) (R : List Eu) : List Int := (R.filter fun r => f r.1).map fun r => (r.2.1.length : Int)
theorem Jz {f : Sn → Bool} {m : Int} : m ∈ dsL f R ↔ ∃ r ∈ R, f r.1 = true ∧ m = (r.2.1.length : Int) := by
 unfold dsL;rw [bq];constructor
 · rintro ⟨r, hr, rfl⟩;obtain ⟨h1, h2⟩ := dc.mp hr;exact ⟨r, h1, h2, rfl⟩
 · rintro ⟨r, h1, h2, rfl⟩;exact ⟨r, dc.mpr ⟨h1, h2⟩, rfl⟩
theorem Kd {f : Sn → Bool} (B : Bh (nxL dss) (s00 bx dss) R) (h : ∀ row st, k6 bx dss row st → f st = false) : dsL f R = [] := by
 cases z : dsL f R with
 | nil => rfl
 | cons m r =>
   obtain ⟨x, hx, hf, _⟩ := Jz.mp (show m ∈ dsL f R by rw [z]; exact be);rw [h _ _ (B.way x hx)] at hf;cases hf
theorem Qy {f : Sn → Bool} (B : Bh (nxL dss) (s00 bx dss) R) (w : k6 bx dss row st) (hf : f st = true) (h : ∀ row' st', k6 bx dss row' st' → f st' = true → row.length ≤ row'.length) :
  dsL f R ≠ [] ∧ ∀ m, m ∈ dsL f R → (∀ n ∈ dsL f R, m ≤ n) → m = (row.length : Int) := by
 obtain ⟨r, hr, er, hle⟩ := B.all row st w;have hm : (r.2.1.length : Int) ∈ dsL f R := Jz.mpr ⟨r, hr, by rw [er]; exact hf, rfl⟩;refine ⟨fun z => (by rw [z] at hm; cases hm), fun m h1 h2 => ?_⟩;have := h2 _ hm;obtain ⟨x, hx, hfx, rfl⟩ := Jz.mp h1;have := h _ _ (B.way x hx) hfx;omega
noncomputable def znp : Sp := fun vs H Q _ => ∃ bx dss vh l, ∃ ws : List Int, ∃ st : Sn, vs = [vh, .ref l] ∧ HD bx dss ∧ Is H (hT bx dss) vh ∧ H l = some (.lst (ws.map V.int)) ∧ xy dss (zs dss.length) (zs bx.toNat) ws = some st ∧ ∀ v H', Same H H' → Is H' (tS st) v → Q v H'
theorem Wq : FnScope ["house", "found", "part", "many"] ["house", "found"] (zj Zc) := ⟨rfl, rfl, rfl, by decide +kernel, rfl, by decide +kernel, by decide +kernel⟩
theorem zcd (D : Def K mg "_law_e_is_stand" Zc) (T : Txt K mg) : Ok P w K mg base "_law_e_is_stand" 1 ["house", "found"] zn5 := by
 refine xx D Wq (fun _ _ _ _ _ _ us hl => (match us, hl with | [_, _], _ => rfl)) (fun vs H Q E ⟨_, _, _, _, _, _, e, _⟩ => by rw [e]; rfl) fun f cdv A outer s H vs Q E hr h => ?_;obtain ⟨bx, dss, ps, ns, vh, vst, rfl, A, kk⟩ := h;have nd := Wq.nd;refine ⟨_, ze (yc (PW.pt (wj (yu (yh (wl T.isi T.tuple xw (pv 1)))) (wf (zw ka (zn zq (by rfl) T.len yd (zc (pv 1) zd)) zh (zt _))))) (zi (zp xj)) zr)
  (ze (vy PassesOwn.never rfl (wn (jl (zc (w6 (zc (zo zl (pv 1) zh (fun _ _ => rfl)) (zc (zn zq (by rfl) T.len yd (zc (zo zl (pv 0) zh (fun _ _ => rfl)) zd)) zd))) (zc (w6 (zc (zo zl (pv 1) zh (fun _ _ => rfl)) (zc (zo zl (pv 0) zh (fun _ _ => rfl)) zd))) zd))))
    (qo rfl (yl (zu (i := 2) nd rfl (Or.inl rfl)) (yl (zu (i := 3) nd rfl (Or.inl rfl)) vc)))
   (ze (yc (PW.pt (wj (yu (yh (wl T.isi T.tuple xw (pv 2)))) (wf (zw ka (zn zq (by rfl) T.len yd (zc (pv 2) zd)) (pv 3) (zt _))))) (zi (zp xj)) zr)
   (zi (yc (yu (yh (zn (wg rfl) rfl T.all qc (zc (wc (own := ["number"]) (cap := []) (te := zi0 K) rfl (yg (zj Zc) rfl rfl (by decide +kernel) (by decide +kernel) (by decide +kernel) trivial) (qm (pv 2))
    (fun _ _ _ _ => zu (i := 0) (by show (["number"] : List Str).Nodup; decide +kernel) rfl (Or.inl rfl)) (fun _ _ _ _ => yq) (fun _ _ _ _ => qa (wl T.isi T.int Kg (pv 0)) (v4 (Jo (wl T.isi T.bool Kh (pv 0)))))) zd)))) (zi (zp xj)) zr))))
  (zi (zp xj))), ?_⟩
 obtain ⟨a, as, ss, e0, ha, has, hl, hn⟩ := v6 A.ih;obtain ⟨c, p, q, e1, hc, hp, hq⟩ := qk A.is;subst e0 e1;have n4 := A.hd.n4;have b0 := A.hd.b0;have b6 := A.hd.b6;refine ⟨_, rfl, _, "tuple", _, _, rfl, A.is.ty, ju K _, _, rfl, ?_⟩;refine ye ?_;refine ⟨_, rfl, c, _, rfl, .inr (SqT.of hc), rfl, _, rfl, ?_⟩;refine y0 (fun z => absurd z (by simp)) (fun _ => ?_);refine ⟨_, rfl, c, _, _, _, rfl, rfl, SqT.of hc, rfl, _, rfl, a, _, _, _, rfl, rfl, SqT.of ha, rfl, as, ss, rfl, .inr (SqT.of has), (by show 2 ≤ sizeLine; decide), fun t1 ht1 => ?_⟩;have s1 := Same.new ht1 (.tup [.ref p, .int (ss.length : Int)]);have g1 : upd H t1 (.tup [.ref p, .int (ss.length : Int)]) t1 = some (.tup [.ref p, .int (ss.length : Int)]) := zf;generalize upd H t1 (.tup [.ref p, .int (ss.length : Int)]) = H1 at s1 g1 ⊢;refine ⟨_, rfl, c, _, _, _, rfl, rfl, SqT.of (s1 _ _ hc), rfl, _, rfl, a, _, _, _, rfl, rfl, SqT.of (s1 _ _ ha), rfl, (by show 2 ≤ sizeLine; decide), fun t2 ht2 => ?_⟩;have s2 := Same.new ht2 (.tup [.ref q, .int bx]);have g2 : upd H1 t2 (.tup [.ref q, .int bx]) t2 = some (.tup [.ref q, .int bx]) := zf;generalize upd H1 t2 (.tup [.ref q, .int bx]) = H2 at s2 g2 ⊢;refine ⟨(by show 2 ≤ sizeLine; decide), fun l hl' => ?_⟩;have s3 := Same.new hl' (.lst [.ref t1, .ref t2]);have g3 : upd H2 l (.lst [.ref t1, .ref t2]) l = some (.lst [.ref t1, .ref t2]) := zf;generalize upd H2 l (.lst [.ref t1, .ref t2]) = H3 at s3 g3 ⊢;have S3 := s1.trans (s2.trans s3);have turns : ∀ (i : Nat) x, ([.ref t1, .ref t2] : List V)[i]? = some x → ∃ (t pr : Addr) (ms : List Int), x = .ref t ∧ H3 t = some (.tup [.ref pr, .int (ms.length : Int)]) ∧ H3 pr = some (.tup (ms.map V.int)) ∧ ms.length ≤ 1000 := fun i x hx => by
  match i, hx with
  | 0, hx =>
    cases (show some (V.ref t1) = some x from hx);refine ⟨t1, p, ps, rfl, ?_, S3 _ _ hp, ?_⟩
    · rw [A.sd.lp, ← hn]; exact s3 _ _ (s2 _ _ g1)
    · rw [A.sd.lp]; omega
  | 1, hx =>
    cases (show some (V.ref t2) = some x from hx);refine ⟨t2, q, ns, rfl, ?_, S3 _ _ hq, ?_⟩
    · rw [A.sd.ln, show ((bx.toNat : Nat) : Int) = bx by omega]; exact s3 _ _ g2
    · rw [A.sd.ln]; omega
  | i + 2, hx => simp at hx
 refine ⟨l, rfl, ⟨_, SqL.of g3⟩, ?_⟩;refine kz (xs := [.ref t1, .ref t2]) (fun i σ H' => Same H3 H' ∧ ∃ x2 x3, σ = [some (.ref a), some (.ref c), x2, x3]) ⟨Same.refl H3, _, _, rfl⟩ (fun i σ H' _ ⟨s', _⟩ => SqL.of (s' _ _ g3)) ?_ ?_
 · rintro i x σ H4 hx ⟨s4, x2, x3, rfl⟩;obtain ⟨t, pr, ms, rfl, ht, hpr, hm⟩ := turns i x hx;have ht4 := s4 _ _ ht;have hp4 := s4 _ _ hpr;refine ⟨t, _, rfl, SqT.of ht4, rfl, _, _, rfl, _, _, rfl, rfl, ?_⟩;refine ⟨_, rfl, _, "tuple", _, _, rfl, (show TyOf K H4 (.ref pr) (.type (tyn (.tup (iT ms)))) from Is.ty ⟨pr, _, rfl, hp4, IsL.ints.mpr rfl⟩), ju K _, _, rfl, ?_⟩;refine ye ?_;refine ⟨_, rfl, pr, _, rfl, .inr (SqT.of hp4), _, rfl, rfl, _, rfl, ?_⟩;rw [a7];refine y0 (fun z => absurd z (by simp)) (fun _ => ?_);refine ⟨_, rfl, pr, rfl, ⟨_, SqT.of hp4⟩, ?_⟩;refine qp (xs := ms.map V.int) (fun i ys H' => Same H4 H' ∧ ys = (List.replicate i true).map V.bl) ⟨Same.refl H4, rfl⟩ (fun i ys H' hi ⟨s5, e⟩ => ⟨SqT.of (s5 _ _ hp4), by rw [e, a7, c9]; rw [a7] at hi; exact zy (by omega)⟩) ?_ ?_
   · rintro i z ys H' hx ⟨s5, rfl⟩;refine qz ?_;rw [ao] at hx;cases hmi : ms[i]? with
     | none => rw [hmi] at hx; cases hx
     | some n =>
       rw [hmi] at hx;cases hx;have hi : Is H' (.int n) (.int n) := rfl;refine ⟨_, rfl, _, "int", _, _, rfl, hi.ty, J9 K _, _, rfl, xi ?_⟩;refine ⟨_, rfl, _, "bool", _, _, rfl, hi.ty, Vb K _, _, rfl, s5, ?_⟩;rw [d4, al];rfl
   · rintro ys H' ⟨s5, rfl⟩ p hp;have e : (List.replicate (ms.map V.int).length true).all id = true := by simp
     refine ⟨p, _, rfl, SqL.of zf, _, rfl, ?_⟩;rw [e];exact ye ⟨s4.trans (s5.trans (Same.new hp _)), _, _, rfl⟩
 · rintro σ H4 ⟨s4, x2, x3, rfl⟩;exact kk _ (S3.trans s4)
theorem Kr : FnScope ["house", "weaving", "stand", "hand"] ["house", "weaving"] (zj Jg) := ⟨rfl, rfl, rfl, by decide +kernel, rfl, by decide +kernel, by decide +kernel⟩
theorem zg0 (D : Def K mg "_law_e_woven" Jg) (T : Txt K mg) (o1 : Ok P w K mg base "_law_e_start" 1 ["house"] Kp) (o2 : Ok P w K mg base "_law_e_step" 1 ["house", "stand", "hand"] zda) : Ok P w K mg base "_law_e_woven" 2 ["house", "weaving"] znp := by
 refine xx D Kr (fun _ _ _ _ _ _ us hl => (match us, hl with | [_, _], _ => rfl)) (fun vs H Q E ⟨_, _, _, _, _, _, e, _⟩ => by rw [e]; rfl) fun f cdv A outer s H vs Q E hr h => ?_;obtain ⟨bx, dss, vh, l, ws, q, rfl, hd, hh, hl, hrun, kk⟩ := h;have nd := Kr.nd;refine ⟨_, ze (ya (i := 2) nd rfl (Or.inl rfl) (zx o1 hr (zc (pv 0) zd)))
  (ze (yc (yu (yh (wl T.isi T.list vd (pv 1)))) (zi (zp wk)) zr)
  (ze (vy PassesOwn.never rfl (wn (pv 1)) (zu (i := 3) nd rfl (Or.inl rfl))
   (ze (yc (PW.pt (wj (yu (yh (wl T.isi T.int Kg (pv 3)))) (wj (yh (wl T.isi T.bool Kh (pv 3))) (wf (zw Jp (pv 2) wk (zt _)))))) (zi (zp wk)) zr)
   (zi (ya (i := 2) nd rfl (Or.inl rfl) (zx o2 hr (zc (pv 0) (zc (pv 2) (zc (pv 3) zd))))))))
  (zi (zp (pv 2))))), ?_⟩
 refine ⟨_, rfl, bx, dss, vh, rfl, hd, hh, fun v0 H1 s1 iv1 => ?_⟩;refine ⟨_, rfl, _, "list", _, _, rfl, (show Is H1 (.lst (iT ws)) (.ref l) from ⟨l, _, rfl, s1 _ _ hl, IsL.ints.mpr rfl⟩).ty, ky, _, rfl, ye ?_⟩;refine ⟨_, rfl, l, rfl, ⟨_, SqL.of (s1 _ _ hl)⟩, ?_⟩;refine kz (xs := ws.map V.int) (fun i σ H' => ∃ st v x4, σ = [some vh, some (.ref l), some v, x4] ∧ Same H H' ∧ xy dss (zs dss.length) (zs bx.toNat) (ws.take i) = some st ∧ Is H' (tS st) v) ⟨_, v0, _, rfl, s1, rfl, iv1⟩ (fun i σ H' _ ⟨_, _, _, _, s, _⟩ => SqL.of (s _ _ hl)) ?_ ?_;rotate_left
 · rintro σ H3 ⟨st, v, x4, rfl, s3, e3, i3⟩;rw [a7, c8, hrun] at e3;cases e3;exact ⟨_, rfl, kk v H3 s3 i3⟩
 rintro i x σ H3 hx ⟨st, v, x4, rfl, s3, e3, i3⟩;rw [ao] at hx;cases ex : ws[i]? with
 | none => rw [ex] at hx; cases hx
 | some h =>
 rw [ex] at hx;cases hx;obtain ⟨st', es, er⟩ := zji hrun e3 ex;have S := (wr hd (zdf (s0 := s00 bx dss) _ (ws.take i) st rfl e3)).1.sd;refine ⟨_, rfl, _, "int", _, _, rfl, (show Is H3 (.int h) (.int h) from rfl).ty, J9 K (.int h), _, rfl, ye ?_⟩;refine ⟨_, rfl, _, "bool", _, _, rfl, (show Is H3 (.int h) (.int h) from rfl).ty, Vb K (.int h), _, rfl, ye ?_⟩;refine ⟨_, rfl, rfl, _, rfl, ?_⟩;rw [av (Zn i3)];refine ye ?_;refine ⟨_, rfl, _, rfl, _, rfl, bx, dss, st.1, st.2, vh, v, h, rfl, ⟨hd, S, hh.mono s3, i3⟩, fun z => (by rw [es] at z; cases z), fun qs ms v' H4 e4 s4 i4 => ?_⟩;rw [es] at e4;cases e4;exact ⟨_, _, _, rfl, s3.trans s4, er, i4⟩
abbrev qg : Stmt := top 68
noncomputable def znx (P : Program) (w : World) : Sp := fun vs H Q _ => ∃ H0 bx dss p vh d R a, vs = [vh, .int p, .ref d, .ref a] ∧ HD bx dss ∧ WD p dss ∧ CrD bx dss ∧ Is H (hT bx dss) vh ∧ NAt P w H d (kvD R) ∧ Bh (nxL dss) (s00 bx dss) R ∧ zd8 bx dss H0 H a ∧ ∀ H', Same H H' → Q (.bl true) H'
theorem za8 {f : Sn → Bool} (e : R[i]? = some r) : dsL f (R.take (i + 1)) = dsL f (R.take i) ++ if f r.1 = true then [(r.2.1.length : Int)] else [] := by
 unfold dsL;rw [c5, e, List.filter_append, al];congr 1;by_cases c : f r.1 = true
 · rw [if_pos c, show (some r).toList.filter (fun r => f r.1) = [r] from by simp [c]];rfl
 · rw [if_neg c, show (some r).toList.filter (fun r => f r.1) = [] from by simp [c]];rfl
theorem zd0 (f : Sn → Bool) (R : List Eu) (i : Nat) : (dsL f (R.take i)).length ≤ R.length := by
 unfold dsL;rw [a7];refine ay (dw _ _) ?_;rw [cx];omega
theorem dec_int (i j : Int) : decide (V.int i = V.int j) = decide (i = j) := by
 rw [decide_eq_decide];exact ⟨fun h => by injection h, fun h => by rw [h]⟩
theorem zhr {L M : List Sn} (h1 : L.Nodup) (h2 : M.Nodup) (h : ∀ x, x ∈ L ↔ x ∈ M) : L.length = M.length := Nat.le_antisymm (Ya h1 fun x hx => (h x).mp hx) (Ya h2 fun x hx => (h x).mpr hx)
theorem Qb : FnScope ["house", "p", "known", "found", "early", "stops_v", "stand"] ["house", "p", "known", "found"] (zj qg) := ⟨rfl, rfl, rfl, by decide +kernel, rfl, by decide +kernel, by decide +kernel⟩
theorem zex (D : Def K mg "_law_e_right" qg) (T : Txt K mg) (o1 : Ok P w K mg base "_law_e_too_early" 1 ["house", "stand"] zjb) (o2 : Ok P w K mg base "_law_e_stopped" 2 ["house", "stand"] V8) (o3 : Ok P w K mg base "_law_e_is_stand" 1 ["house", "found"] zn5) (o4 : Ok P w K mg base "_law_e_woven" 2 ["house", "weaving"] znp)
  (o5 : Ok P w K mg base "holds_by" 8 ["house", "p", "stands"] zn6) (o6 : Ok P w K mg base "is_early" 8 ["house", "p", "weaving"] zn8) (o7 : Ok P w K mg base "is_stuck" 7 ["house", "weaving"] zns) : Ok P w K mg base "_law_e_right" 9 ["house", "p", "known", "found"] (znx P w) := by
 refine xx D Qb (fun _ _ _ _ _ _ us hl => (match us, hl with | [_, _, _, _], _ => rfl)) (fun vs H Q E ⟨_, _, _, _, _, _, _, _, e, _⟩ => by rw [e]; rfl) fun f cdv A outer s H vs Q E hr h => ?_;obtain ⟨Hz, bx, dss, p, vh, d, R, a, rfl, hd, hw, C, hh, hN, B, tr, kk⟩ := h;have nd := Qb.nd;have hun := hr.units;have hu8 := df (e9 (by decide : 8 ≤ 64) _) hun;have hu3 : A.units + 3 + 3 < cLine := by
  have : (A.deeper (envOfC "_law_e_right" (zj qg) s.heap.objs.size f cdv)).units = A.units + 3 := rfl;omega
 have r1 := hr.mono (show 1 ≤ 8 by decide);have r2 := hr.mono (show 2 ≤ 8 by decide);have r7 := hr.mono (show 7 ≤ 8 by decide);refine ⟨_, ze (X8 (Qj (i := 4) (own := ["stand"]) (cap := [0, 2]) (te := zbp P w (Zo 2) (Zo 0)) rfl (yg (zj qg) rfl rfl (by decide +kernel) (by decide +kernel) (by decide +kernel) ⟨⟨_, rfl, .inl rfl, xr rfl⟩, ⟨_, rfl, .inl rfl, xr rfl⟩, trivial⟩) (zaa (pv 2))
   (fun _ _ _ _ => zu (i := 0) (by show (["stand", "house", "known"] : List Str).Nodup; decide +kernel) rfl (Or.inl rfl)) (fun _ _ _ _ => Zh (yh (zx o1 r1 (zc (pv 1) (zc (pv 0) zd))))) (fun _ _ _ _ => zac hu3 (pv 2) (pv 0) (fun _ _ => rfl)) nd rfl rfl (by with_unfolding_all rfl)))
  (ze (X8 (Qj (i := 5) (own := ["stand"]) (cap := [0, 2]) (te := zbp P w (Zo 2) (Zo 0)) rfl (yg (zj qg) rfl rfl (by decide +kernel) (by decide +kernel) (by decide +kernel) ⟨⟨_, rfl, .inl rfl, xr rfl⟩, ⟨_, rfl, .inl rfl, xr rfl⟩, trivial⟩) (zaa (pv 2))
   (fun _ _ _ _ => zu (i := 0) (by show (["stand", "house", "known"] : List Str).Nodup; decide +kernel) rfl (Or.inl rfl)) (fun _ _ _ _ => Zh (yh (zx o2 r2 (zc (pv 1) (zc (pv 0) zd))))) (fun _ _ _ _ => zac hu3 (pv 2) (pv 0) (fun _ _ => rfl)) nd rfl rfl (by with_unfolding_all rfl)))
  (ze (yc (PW.pt (wj (yu (yh (wl T.isi T.tuple xw (pv 3)))) (wj (zw ka (zn zq rfl T.len yd (zc (pv 3) zd)) zh (zt _)) (wf (yu (yh (wl T.isi T.list vd (zo zl (pv 3) zh (fun _ _ => rfl)))))))))  (zi (zp xj)) zr)
  (ze (yc (PW.pt (Zu (zw (zad hun) (pv 4) (qv zd) (zt _)) (j6 (zw (zad hun) (pv 5) (qv zd) (zt _)))))
   (ze (yc (PW.pt (wj (zw ka (zo zl (pv 3) zh (fun _ _ => rfl)) yi (zt _)) (wf (yu (yh (zn (wg rfl) rfl T.all qc (zc (wc (own := ["stand"]) (cap := [0]) rfl (yg (zj qg) rfl rfl (by decide +kernel) (by decide +kernel) (by decide +kernel) ⟨⟨_, rfl, .inl rfl, xr rfl⟩, trivial⟩) (wn (zo zl (pv 3) zh (fun _ _ => rfl)))
    (fun _ _ _ _ => zu (i := 0) (by show (["stand", "house"] : List Str).Nodup; decide +kernel) rfl (Or.inl rfl)) (fun _ _ _ _ => yq) (fun _ _ _ _ => zx o3 r1 (zc (pv 1) (zc (pv 0) zd)))) zd))))))) (zi (zp xj)) zr)
   (ze (yc (PW.pt (wj (zw ka (zn zq rfl T.len yd (zc (zo zl (pv 3) zh (fun _ _ => rfl)) zd)) (zn jx rfl T.len yd (zc (pv 2) zd)) (zt _)) (wf (yu (yh (zn (wg rfl) rfl T.all qc (zc (wc (own := ["stand"]) (cap := [2]) (te := zi4 P w id (Zo 0) (Zo 1)) rfl (yg (zj qg) rfl rfl (by decide +kernel) (by decide +kernel) (by decide +kernel) ⟨⟨_, rfl, .inl rfl, xr rfl⟩, trivial⟩) (wn (zo zl (pv 3) zh (fun _ _ => rfl)))
    (fun _ _ _ _ => zu (i := 0) (by show (["stand", "known"] : List Str).Nodup; decide +kernel) rfl (Or.inl rfl)) (fun _ _ _ _ => yq) (fun _ _ _ _ => zgq (zgt hu3 (pv 0) (pv 1)))) zd))))))) (zi (zp xj)) zr)
   (zi (zp (qa (xg wa (zn zfp rfl T.len yd (zc (yp (zfn rfl hu8) rfl T.set zmz (zc (zo zl (pv 3) zh (fun _ _ => rfl)) zd)) zd)) (zn jx rfl T.len yd (zc (pv 2) zd)) (zt _)) (v4 (xg zb5 (zx o5 hr (zc (pv 0) (zc (pv 1) (zc (zo zl (pv 3) zh (fun _ _ => rfl)) zd)))) xj (zt _))))))))
   zr)
  (ze (ya (i := 6) nd rfl (Or.inl rfl) (zx o4 r2 (zc (pv 0) (zc (zo zl (pv 3) zh (fun _ _ => rfl)) zd))))
  (ze (yc (zw Jp (pv 6) wk (zt _)) (zi (zp xj)) zr)
  (ze (yc (zw (zjr hr.units0) (pv 4) (qv zd) (zt _))
   (ze (yc (PW.pt (wj (zw ka (zo zl (pv 3) zh (fun _ _ => rfl)) yi (zt _)) (wj (zw ka (zn zq rfl T.len yd (zc (zo zl (pv 3) zh (fun _ _ => rfl)) zd)) (zn (jw rfl) rfl T.min Vn (zc (pv 4) zd)) (zt _)) (wf (yu (yh (zx o1 r1 (zc (pv 0) (zc (pv 6) zd))))))))) (zi (zp xj)) zr)
   (zi (zp (xg zb5 (zx o6 hr (zc (pv 0) (zc (pv 1) (zc (zo zl (pv 3) zh (fun _ _ => rfl)) zd)))) xj (zt _)))))
   zr)
  (ze (yc (PW.pt (wj (zw ka (zo zl (pv 3) zh (fun _ _ => rfl)) yi (zt _)) (wj (zw ka (zn zq rfl T.len yd (zc (zo zl (pv 3) zh (fun _ _ => rfl)) zd)) (zn (jw rfl) rfl T.min Vn (zc (pv 5) zd)) (zt _)) (wf (yu (yh (zx o2 r2 (zc (pv 0) (zc (pv 6) zd))))))))) (zi (zp xj)) zr)
  (zi (zp (xg zb5 (zx o7 r7 (zc (pv 0) (zc (zo zl (pv 3) zh (fun _ _ => rfl)) zd))) xj (zt _))))))))))), ?_⟩
 have hRl := zh9 hd C B.nd B.way;refine ⟨d, kvD R, hN, fun o u hu hF => ?_⟩;have sF : ∀ {H' : Hp}, Same (upd H d (.frz o u)) H' → H' d = some (.frz o u) ∧ Same H (upd H' d u) := fun {H'} s' => by
  refine ⟨s' _ _ zf, fun b x e => ?_⟩;by_cases z : b = d
  · rw [z] at e ⊢;rw [hu] at e;cases e;exact zf
  · rw [zk z];exact s' _ _ (by rw [zk z]; exact e)
 obtain ⟨xs0, hd0, _⟩ := id hN;have hhF := hh.tups (show vt H (upd H d (.frz o u)) from vt.upd hd0 (fun zs z => by cases z)) hd.fro;refine ⟨_, rfl, d, o, kvD R, rfl, hF, ?_⟩;refine zas (fun i ys H' => Same (upd H d (.frz o u)) H' ∧ ys = (dsL (fun st => mHe dss st.1) (R.take i)).map V.int) ⟨Same.refl _, rfl⟩ (fun i ys H' hi ⟨s', e⟩ => ⟨hF.same s', by rw [e, a7]; have := zd0 (fun st => mHe dss st.1) R i; exact Z3 (by omega)⟩) ?_ ?_
 · rintro i kv ys H1 b hkv hb ⟨s1, rfl⟩;unfold kvD at hkv;rw [ao] at hkv;cases er : R[i]? with
   | none => rw [er] at hkv; cases hkv
   | some r =>
   rw [er] at hkv;cases hkv;have hrm := bj er;have S := (wr hd (B.way r hrm)).1.sd;refine ⟨_, rfl, _, rfl, bx, dss, r.1.1, r.1.2, vh, .ref b, rfl, ⟨hd, S, hhF.mono s1, hb⟩, fun H2 s2 => ⟨_, rfl, ?_⟩⟩;rw [za8 er];refine y0 (fun z => ?_) (fun z => ?_)
   · refine ⟨_, rfl, _, rfl, d, o, b, kvD R, kS r.1, _, rfl, rfl, hF.same (s1.trans s2), hb.mono s2, J7 B.nd hrm, s1.trans s2, ?_⟩;rw [if_pos z, al];rfl
   · refine ⟨s1.trans s2, ?_⟩;rw [if_neg z, cw]
 rintro ys H1 ⟨s1, rfl⟩ le hle;rw [Yq, c8];obtain ⟨h1, h2⟩ := sF (s1.trans (Same.new hle (.lst ((dsL (fun st => mHe dss st.1) R).map V.int))));refine ⟨h1, ?_⟩;have nle : le ≠ d := fun z => by rw [z, s1 _ _ zf] at hle; cases hle
 have ge : upd (upd H1 le (.lst ((dsL (fun st => mHe dss st.1) R).map V.int))) d u le = some (.lst ((dsL (fun st => mHe dss st.1) R).map V.int)) := by rw [zk nle]; exact zf
 generalize upd (upd H1 le (.lst ((dsL (fun st => mHe dss st.1) R).map V.int))) d u = H2 at h2 ge ⊢;clear h1 s1 hF sF hhF hle hu;have hN2 := hN.same h2;have hh2 := hh.mono h2;refine ⟨d, kvD R, hN2, fun o u hu hF => ?_⟩;have sF : ∀ {H' : Hp}, Same (upd H2 d (.frz o u)) H' → H' d = some (.frz o u) ∧ Same H2 (upd H' d u) := fun {H'} s' => by
  refine ⟨s' _ _ zf, fun b x e => ?_⟩;by_cases z : b = d
  · rw [z] at e ⊢;rw [hu] at e;cases e;exact zf
  · rw [zk z];exact s' _ _ (by rw [zk z]; exact e)
 obtain ⟨xs2, hd2, _⟩ := id hN2;have hhF := hh2.tups (show vt H2 (upd H2 d (.frz o u)) from vt.upd hd2 (fun zs z => by cases z)) hd.fro;refine ⟨_, rfl, d, o, kvD R, rfl, hF, ?_⟩;refine zas (fun i ys H' => Same (upd H2 d (.frz o u)) H' ∧ ys = (dsL (fun st => vb dss st.1 st.2) (R.take i)).map V.int) ⟨Same.refl _, rfl⟩ (fun i ys H' hi ⟨s', e⟩ => ⟨hF.same s', by rw [e, a7]; have := zd0 (fun st => vb dss st.1 st.2) R i; exact Z3 (by omega)⟩) ?_ ?_
 · rintro i kv ys H1 b hkv hb ⟨s1, rfl⟩;unfold kvD at hkv;rw [ao] at hkv;cases er : R[i]? with
   | none => rw [er] at hkv; cases hkv
   | some r =>
   rw [er] at hkv;cases hkv;have hrm := bj er;have S := (wr hd (B.way r hrm)).1.sd;refine ⟨_, rfl, _, rfl, bx, dss, r.1.1, r.1.2, vh, .ref b, rfl, ⟨hd, S, hhF.mono s1, hb⟩, fun H2 s2 => ⟨_, rfl, ?_⟩⟩;rw [za8 er];refine y0 (fun z => ?_) (fun z => ?_)
   · refine ⟨_, rfl, _, rfl, d, o, b, kvD R, kS r.1, _, rfl, rfl, hF.same (s1.trans s2), hb.mono s2, J7 B.nd hrm, s1.trans s2, ?_⟩;rw [if_pos z, al];rfl
   · refine ⟨s1.trans s2, ?_⟩;rw [if_neg z, cw]
 rintro ys H3 ⟨s3, rfl⟩ ls hls;rw [Yq, c8];obtain ⟨h1, h3⟩ := sF (s3.trans (Same.new hls (.lst ((dsL (fun st => vb dss st.1 st.2) R).map V.int))));refine ⟨h1, ?_⟩;have nls : ls ≠ d := fun z => by rw [z, s3 _ _ zf] at hls; cases hls
 have gs : upd (upd H3 ls (.lst ((dsL (fun st => vb dss st.1 st.2) R).map V.int))) d u ls = some (.lst ((dsL (fun st => vb dss st.1 st.2) R).map V.int)) := by rw [zk nls]; exact zf
 generalize upd (upd H3 ls (.lst ((dsL (fun st => vb dss st.1 st.2) R).map V.int))) d u = H4 at h3 gs ⊢;clear h1 s3 hF sF hhF hls hu;have hN4 := hN2.same h3;have s4 := h2.trans h3;have hh4 := hh.mono s4;have ge4 := h3 _ _ ge;clear ge hN2 hh2 hd2 hd0;obtain ⟨x, l, zz, ha, hl⟩ : ∃ x l zz, H a = some (.tup [.str x, .ref l]) ∧ H l = some (.lst zz) := by
  rcases tr with ⟨l, row, x, st, ha, _, hl, _⟩ | ⟨l, row, st, ha, _, hl, _⟩ | ⟨l, L, ys, ha, _, hl, _⟩
  · exact ⟨_, l, _, ha, hl⟩
  · exact ⟨_, l, _, ha, hl⟩
  · exact ⟨_, l, _, ha, hl⟩
 have ha4 := s4 _ _ ha;have hl4 := s4 _ _ hl;refine ⟨_, rfl, _, "tuple", _, _, rfl, .tup ha4, ju K (.tup []), _, rfl, ye ?_⟩;refine ⟨_, rfl, a, _, rfl, .inr (SqT.of ha4), rfl, _, rfl, ye ?_⟩;refine ⟨_, rfl, a, _, _, _, rfl, rfl, SqT.of ha4, at1, _, "list", _, _, rfl, .lst hl4, ky, _, rfl, ye ?_⟩;have eLst : ∀ {H' : Hp} {q : Addr} {es : List Int}, H' q = some (.lst (es.map V.int)) → Is H' (.lst (iT es)) (.ref q) := fun h => ⟨_, _, rfl, h, IsL.ints.mpr rfl⟩
 refine ⟨_, rfl, by show 0 ≤ 1000; decide, fun p5 H5 s5 _ g5 => ?_⟩;refine ⟨.lst (iT (dsL (fun st => mHe dss st.1) R)), .lst [], eLst (s5 _ _ ge4), ⟨p5, [], rfl, g5, rfl⟩, jj _, by kernel_rfl, by decide +kernel, _, rfl, ?_⟩;rw [show id (PyData.eqv (toD (.lst (iT (dsL (fun st => mHe dss st.1) R)))) (toD (.lst []))) = decide (dsL (fun st => mHe dss st.1) R = []) from Xl _];have s05 := s4.trans s5;have ge5 := s5 _ _ ge4;have gs5 := s5 _ _ gs;have hh5 := hh4.mono s5;have hN5 := hN4.same s5;clear ge4 gs hh4 hN4 hl4 ha4;rcases tr with ⟨l', row, x', st, ha', _, hl', wy, ea, hmin⟩ | ⟨l', row, st, ha', _, hl', wy, es, hNE, hmin⟩ | ⟨l', L, ys, ha', _, hl', iL, hLn, hLd, hm, hNE, hNS⟩
 · -- early
   have e := ha.symm.trans ha';cases e;obtain ⟨q, hq⟩ : ∃ q, yt dss st.1 st.2 x' = some q := by
    unfold eAt at ea;cases z : yt dss st.1 st.2 x' with
    | none => rw [z] at ea; cases ea
    | some q => exact ⟨q, rfl⟩
   have wq := zc4 wy hq;have heq := zpb hd hw (wr hd wy).1.sd hq ea;have ln : (row ++ [x']).length = row.length + 1 := by rw [ba]; rfl
   obtain ⟨ne, least⟩ := Qy B wq (f := fun st => mHe dss st.1) heq fun row' st' w' h' => by
    obtain ⟨r2, t2, x2, a1, a2, a3⟩ := zh4 hd hw w' h';have := hmin r2 t2 x2 a1 a2;omega
   rw [av ne];refine ye (ye ?_);have ha5 := s05 _ _ ha';have hl5 := s05 _ _ hl';refine ⟨_, rfl, _, rfl, a, _, _, _, rfl, rfl, SqT.of ha5, at1, bx, dss, vh, l, row ++ [x'], q, rfl, hd, hh5, hl5, Z5 wq, fun v H6 s6 iv => ?_⟩;refine ⟨_, rfl, rfl, _, rfl, ?_⟩;rw [av (Zn iv)];refine ye ?_;refine ⟨_, rfl, by show 0 ≤ 1000; decide, fun p7 H7 s7 _ g7 => ⟨le, p7, _, rfl, rfl, SqL.of (s7 _ _ (s6 _ _ ge5)), SqL.of g7, _, rfl, ?_⟩⟩;have hne : (!((dsL (fun st => mHe dss st.1) R).map V.int).isEmpty) = true := by
    cases z : dsL (fun st => mHe dss st.1) R with
    | nil => exact absurd z ne
    | cons _ _ => rfl
   rw [hne];refine xi ?_;have s57 := s6.trans s7;refine ⟨_, rfl, a, _, _, _, rfl, rfl, SqT.of (s57 _ _ ha5), at0, rfl, _, rfl, ?_⟩;rw [zct];refine ye ⟨_, rfl, a, _, _, _, rfl, rfl, SqT.of (s57 _ _ ha5), at1, l, _, rfl, .inl (SqL.of (s57 _ _ hl5)), _, rfl, le, _, rfl, SqL.of (s57 _ _ ge5), ne, fun m m1 m2 => ⟨rfl, _, rfl, ?_⟩⟩;rw [dec_int, least m m1 m2, a7, ai rfl];refine ye ?_;have S := (wr hd wq).1.sd;refine ⟨_, rfl, _, rfl, bx, dss, q.1, q.2, vh, v, rfl, ⟨hd, S, hh5.mono s57, iv.mono s7⟩, fun H8 s8 => ⟨_, rfl, ?_⟩⟩;rw [heq];refine ye ?_;have s58 := s57.trans s8;refine ⟨_, rfl, _, rfl, _, rfl, a, _, _, _, rfl, rfl, SqT.of (s58 _ _ ha5), at1, bx, p, dss, vh, l, row ++ [x'], rfl, hd, hw, hh5.mono s58, s58 _ _ hl5, fun H9 s9 => ?_⟩;rw [W8, show xy dss (zs dss.length) (zs bx.toNat) row = some st from Z5 wy];refine ⟨_, _, rfl, rfl, ?_⟩;rw [show (eAt dss st.1 st.2 x' == true) = true from by rw [ea]; rfl];exact kk H9 (s05.trans (s58.trans s9))
 · -- stuck
   have e := ha.symm.trans ha';cases e;have e0 := Kd B (f := fun st => mHe dss st.1) fun row st w => zma hd hw hNE w;obtain ⟨ne, least⟩ := Qy B wy (f := fun st => vb dss st.1 st.2) es hmin;rw [ai e0];refine xi ⟨_, rfl, by show 0 ≤ 1000; decide, fun p6 H6 s6 _ g6 => ?_⟩;refine ⟨.lst (iT (dsL (fun st => vb dss st.1 st.2) R)), .lst [], eLst (s6 _ _ gs5), ⟨p6, [], rfl, g6, rfl⟩, jj _, by kernel_rfl, by decide +kernel, _, rfl, ?_⟩;rw [show id (PyData.eqv (toD (.lst (iT (dsL (fun st => vb dss st.1 st.2) R)))) (toD (.lst []))) = decide (dsL (fun st => vb dss st.1 st.2) R = []) from Xl _, av ne];refine ye ?_;have s06 := s05.trans s6;have ha6 := s06 _ _ ha';have hl6 := s06 _ _ hl';refine ⟨_, rfl, _, rfl, a, _, _, _, rfl, rfl, SqT.of ha6, at1, bx, dss, vh, l, row, st, rfl, hd, hh5.mono s6, hl6, Z5 wy, fun v H7 s7 iv => ?_⟩;refine ⟨_, rfl, rfl, _, rfl, ?_⟩;rw [av (Zn iv)];refine ye ?_;refine ⟨_, rfl, by show 0 ≤ 1000; decide, fun p8 H8 s8 _ g8 => ⟨le, p8, _, rfl, rfl, SqL.of (s8 _ _ (s7 _ _ (s6 _ _ ge5))), SqL.of g8, _, rfl, ?_⟩⟩;rw [e0];refine ye ?_;have s68 := s7.trans s8;refine ⟨_, rfl, a, _, _, _, rfl, rfl, SqT.of (s68 _ _ ha6), at0, rfl, _, rfl, ?_⟩;rw [zct];refine ye ⟨_, rfl, a, _, _, _, rfl, rfl, SqT.of (s68 _ _ ha6), at1, l, _, rfl, .inl (SqL.of (s68 _ _ hl6)), _, rfl, ls, _, rfl, SqL.of (s68 _ _ (s6 _ _ gs5)), ne, fun m m1 m2 => ⟨rfl, _, rfl, ?_⟩⟩;rw [dec_int, least m m1 m2, a7, ai rfl];refine ye ?_;have S := (wr hd wy).1.sd;refine ⟨_, rfl, _, rfl, bx, dss, st.1, st.2, vh, v, rfl, ⟨hd, S, (hh5.mono s6).mono s68, iv.mono s8⟩, fun H9 s9 => ⟨_, rfl, ?_⟩⟩;rw [es];refine ye ?_;have s69 := s68.trans s9;refine ⟨_, rfl, _, rfl, a, _, _, _, rfl, rfl, SqT.of (s69 _ _ ha6), at1, bx, dss, vh, l, row, rfl, hd, (hh5.mono s6).mono s69, s69 _ _ hl6, fun H10 s10 => ?_⟩;rw [zec wy, es];exact ⟨_, _, rfl, rfl, kk H10 (s06.trans (s69.trans s10))⟩
 · -- holds
   have e := ha.symm.trans ha';cases e;have e0 := Kd B (f := fun st => mHe dss st.1) fun row st w => zma hd hw hNE w;have e1 := Kd B (f := fun st => vb dss st.1 st.2) fun row st w => hNS row st w;rw [ai e0];refine xi ⟨_, rfl, by show 0 ≤ 1000; decide, fun p6 H6 s6 _ g6 => ?_⟩;refine ⟨.lst (iT (dsL (fun st => vb dss st.1 st.2) R)), .lst [], eLst (s6 _ _ gs5), ⟨p6, [], rfl, g6, rfl⟩, jj _, by kernel_rfl, by decide +kernel, _, rfl, ?_⟩;rw [show id (PyData.eqv (toD (.lst (iT (dsL (fun st => vb dss st.1 st.2) R)))) (toD (.lst []))) = decide (dsL (fun st => vb dss st.1 st.2) R = []) from Xl _, ai e1];refine xi ?_;have s06 := s05.trans s6;have ha6 := s06 _ _ ha';have hl6 := s06 _ _ hl';have iL6 := iL.mono s06;have hh6 := hh5.mono s6;have hN6 := hN5.same s6;have hyl := iL6.length;rw [a7] at hyl;refine ⟨_, rfl, a, _, _, _, rfl, rfl, SqT.of ha6, at0, rfl, _, rfl, ?_⟩;rw [zct];refine ye ⟨_, rfl, a, _, _, _, rfl, rfl, SqT.of ha6, at1, l, rfl, ⟨_, SqL.of hl6⟩, ?_⟩;refine qx (xs := ys) (fun i zs H' => Same H6 H' ∧ zs = (List.replicate i true).map V.bl) ⟨Same.refl H6, rfl⟩ (fun i zs H' hi ⟨s', e⟩ => ⟨SqL.of (s' _ _ hl6), by rw [e, a7, c9]; exact Z3 (by omega)⟩) ?_ ?_
   · rintro i y zs H7 hy ⟨s7, rfl⟩;refine qz ?_;obtain ⟨st, est, ist⟩ := Xk (iL6.mono s7) hy;obtain ⟨row, wy⟩ := (hm st).mp (bj est);refine ⟨_, rfl, _, rfl, bx, dss, st.1, st.2, vh, y, rfl, ⟨hd, (wr hd wy).1.sd, hh6.mono s7, ist⟩, fun H8 s8 => ⟨s7.trans s8, ?_⟩⟩;rw [d4, al];rfl
   rintro zs H7 ⟨s7, rfl⟩ p7 hp7;refine ⟨p7, _, rfl, SqL.of zf, _, rfl, ?_⟩;rw [show (List.replicate ys.length true).all id = true from by simp];refine ye ?_;have s8 := s7.trans (Same.new hp7 (.lst ((List.replicate ys.length true).map V.bl)));generalize upd H7 p7 (.lst ((List.replicate ys.length true).map V.bl)) = H8 at s8 ⊢;have hN8 := hN6.same s8;have hl8 := s8 _ _ hl6;have iL8 := iL6.mono s8;have hlen : L.length = R.length := by
    have := zhr hLd B.nd fun st => ⟨fun h => by
     obtain ⟨row, wy⟩ := (hm st).mp h;obtain ⟨r, hr', er, _⟩ := B.all row st wy;exact xv.mpr ⟨r, hr', er⟩, fun h => by
     obtain ⟨r, hr', er⟩ := xv.mp h;exact (hm st).mpr ⟨r.2.1, by rw [← er]; exact B.way r hr'⟩⟩
    unfold yj at this
    rwa [a7] at this
   refine ⟨_, rfl, a, _, _, _, rfl, rfl, SqT.of (s8 _ _ ha6), at1, l, ys, rfl, .inl (SqL.of hl8), _, rfl, d, kvD R, rfl, hN8, rfl, _, rfl, ?_⟩;rw [dec_int, Yq, hyl, hlen, ai rfl];refine ye ⟨_, rfl, a, _, _, _, rfl, rfl, SqT.of (s8 _ _ ha6), at1, l, rfl, ⟨_, SqL.of hl8⟩, ?_⟩;refine qx (xs := ys) (fun i zs H' => Same H8 H' ∧ zs = (List.replicate i true).map V.bl) ⟨Same.refl H8, rfl⟩ (fun i zs H' hi ⟨s', e⟩ => ⟨SqL.of (s' _ _ hl8), by rw [e, a7, c9]; exact Z3 (by omega)⟩) ?_ ?_
   · rintro i y zs H9 hy ⟨s9, rfl⟩;refine qz ?_;obtain ⟨st, est, ist⟩ := Xk (iL8.mono s9) hy;obtain ⟨row, wy⟩ := (hm st).mp (bj est);obtain ⟨b, rfl⟩ := jz ist;refine ⟨_, rfl, _, rfl, d, b, kvD R, kS st, rfl, rfl, hN8.same s9, ist, s9, ?_⟩;obtain ⟨r, hr', er, _⟩ := B.all row st wy;rw [W9, ai (xv.mpr ⟨r, hr', er⟩), d4, al];rfl
   rintro zs H9 ⟨s9, rfl⟩ p9 hp9;refine ⟨p9, _, rfl, SqL.of zf, _, rfl, ?_⟩;rw [show (List.replicate ys.length true).all id = true from by simp];refine ye ?_;have s10 := s9.trans (Same.new hp9 (.lst ((List.replicate ys.length true).map V.bl)));generalize upd H9 p9 (.lst ((List.replicate ys.length true).map V.bl)) = H10 at s10 ⊢;have hl10 := s10 _ _ hl8;have iL10 := iL8.mono s10;have eK : (L.map kS).map tN = L.map tS := by rw [cv]; rfl
   refine ⟨_, rfl, a, _, _, _, rfl, rfl, SqT.of (s10 _ _ (s8 _ _ ha6)), at1, l, ys, L.map kS, rfl, hl10, by rw [eK]; exact iL10, za0.mpr hLd, by rw [a7]; omega, fun dd H11 s11 hdd hS => ?_⟩;refine ⟨dd, _, rfl, hS, _, rfl, d, kvD R, rfl, (hN8.same s10).same s11, rfl, _, rfl, ?_⟩;rw [dec_int, Yq, a7, hlen, ai rfl];have s611 := s8.trans (s10.trans s11);refine xi ⟨_, rfl, _, rfl, _, rfl, a, _, _, _, rfl, rfl, SqT.of (s611 _ _ ha6), at1, bx, p, dss, vh, l, L, rfl, hd, hw, hh6.mono s611, ⟨⟨ys, s611 _ _ hl6, iL6.mono s611⟩, by omega, fun st hst => ?_⟩, fun H12 s12 => ?_⟩
   · obtain ⟨row, wy⟩ := (hm st).mp hst;exact (wr hd wy).1
   have hold : zdo bx dss L = true := by
    unfold zdo;rw [ai hLd, ai (show (zs dss.length, zs bx.toNat) ∈ L from (hm (s00 bx dss)).mpr ⟨[], Way.nil⟩), bi, bi];refine cz.mpr fun st hst => ?_;obtain ⟨row, wy⟩ := (hm st).mp hst;unfold Yo;rw [hNS row st wy, zma hd hw hNE wy, Bool.not_false, bi, bi];refine cz.mpr fun x hx => ?_;obtain ⟨q, hq⟩ := dq.mp (ji.mp hx);refine ai (Zz.mpr ?_);have e : nx dss st.1 st.2 x = q := by unfold nx; rw [hq]; rfl
    rw [e];exact (hm q).mpr ⟨_, zc4 wy hq⟩
   rw [hold];exact ⟨_, _, rfl, rfl, kk H12 (s06.trans (s611.trans s12))⟩
abbrev zbz : Stmt := top 69
noncomputable def znk (K : PySem.W.Frag) (t : TA) : TE := fun σ H Q => t σ H fun xs H1 => xs.length ≤ sizeLine ∧ ∀ p, H1 p = none → K.lookup p = none → Q (.ref p) (upd H1 p (.lst xs))
theorem zjm {X : Cx} {t : TA} (h : PA X es t) : PE X (.List es pos) (znk X.K t) := by
 intro pins s σ H Q I hq;refine wpAny_List_spliced (thn (h pos pins s σ H _ I hq) fun us s1 ⟨xs, H1, I1, r, z, q⟩ => ⟨by rw [← r.length]; exact z, ?_⟩);have hf : H1 s1.heap.objs.size = none := I1.hok.fresh (a9 _);have hk : X.K.lookup s1.heap.objs.size = none := by
  cases e : X.K.lookup s1.heap.objs.size with
  | none => rfl
  | some o => exact absurd (ac (I1.kIn _ _ e)) (c6 _)
 exact ⟨.ref s1.heap.objs.size, upd H1 s1.heap.objs.size (.lst xs), I1.laid (t' := s1.toks) (fun b u e => a8 _ e) (a9 _) ⟨z, us, 0, r, ar _ rfl⟩, rfl, q _ hf hk⟩
theorem zno {s : Addr} (h : SqL K H s xs) (b : Bt tb H H') (t : ziv tb H) : SqL K H' s xs := by
 obtain ⟨ps, ht⟩ := t;rcases h with (q | ⟨o, q⟩) | q
 · exact .inl (.inl (b s _ (fun z => by rw [z, ht] at q; cases q) q))
 · exact .inl (.inr ⟨o, b s _ (fun z => by rw [z, ht] at q; cases q) q⟩)
 · exact .inr q
theorem zi2 {a s : Addr} (h : Tape K H a s ns) (b : Bt tb H H') (t : ziv tb H) : Tape K H' a s ns := by
 obtain ⟨⟨p, r, e, h1, h2⟩, q, n, l⟩ := h;exact ⟨⟨p, r, b a _ (fun z => by obtain ⟨ps, ht⟩ := t; rw [z, ht] at e; cases e) e, h1, h2⟩, zno q b t, n, l⟩
theorem zf4 {a : Addr} {qual : Str} (h : k7 tb pos qual H) (b : But a H H') (ha : H a = some (.lst xs)) : k7 tb pos qual H' := by
 obtain ⟨ps, h1, h2, h3⟩ := h;exact ⟨ps, b _ _ (fun z => by rw [z, ha] at h1; cases h1) h1, h2, h3.imp id fun ⟨c, oc, x, y, d⟩ => ⟨c, oc, x, b _ _ (fun z => by rw [z, ha] at y; cases y) y, d⟩⟩
noncomputable def zdb (tb : Addr) (K : PySem.W.Frag) : Sp := fun vs H Q _ => ∃ (a : Addr) (ns : List Int), vs = [.ref a] ∧ SqL K H a (ns.map V.int) ∧ ns.length ≤ 63 ∧ k7 tb zar kx H ∧ ∀ H', Q (.bl true) H'
theorem zhg {d : Addr} (n : NAt P w H d kvs) (b : Bt tb H H') (t : ziv tb H) : NAt P w H' d kvs := by
 obtain ⟨xs, e, _⟩ := id n;exact n.by (b.tups t) ((b d _ (fun z => by obtain ⟨ps, h⟩ := t; rw [z, h] at e; cases e) e).trans e.symm)
theorem zde : FnScope ["script", "deck", "k", "house", "p", "known", "turn", "found"] ["script"] (zj zbz) := ⟨rfl, rfl, rfl, by decide +kernel, rfl, by decide +kernel, by decide +kernel⟩
theorem zju {f0 : Addr} (F : Fun K "law" "law" zbz f0 fd0) (T : Txt K mg) (o1 : Ok P w K mg base "_law_e_loose_one" 6 ["deck"] (zn0 K)) (o2 : Ok P w K mg base "_law_e_search" 2 ["house"] (zk3 P w)) (o3 : Ok P w K mg base "tried_loose" 8 ["house", "p"] (znq tb)) (o4 : Ok P w K mg base "_law_e_right" 9 ["house", "p", "known", "found"] (znx P w)) :
  FnOk P w K mg base CX0 10 f0 fd0 ["script"] (zdb tb K) := by
 refine F.ok zde (fun vs H Q E ⟨_, _, e, _⟩ => by rw [e]; rfl) fun cdv A outer sh H vs Q E hr h => ?_;obtain ⟨s, ns, rfl, hS, h63, hB, kk⟩ := h;have nd := zde.nd;refine ⟨_, ze (ya (i := 1) nd rfl (Or.inl rfl) (zjm (zc (pv 0) (zc zh (zc zh zd)))))
  (ze (vy PassesOwn.never rfl (xu rfl T.range (zc zh zd)) (zu (i := 2) nd rfl (Or.inl rfl))
   (ze (ql (zx o1 (hr.mono (show 6 ≤ 9 by decide)) (zc (pv 1) zd)) (qo rfl (yl (zu (i := 3) nd rfl (Or.inl rfl)) (yl (zu (i := 4) nd rfl (Or.inl rfl)) vc))))
   (ze (ya (i := 5) nd rfl (Or.inl rfl) (zx o2 (hr.mono (show 2 ≤ 9 by decide)) (zc (pv 3) zd)))
   (zi (vy PassesOwn.never rfl (xu rfl T.range (zc (yb jm zh (pv 2)) zd)) (zu (i := 6) nd rfl (Or.inl rfl))
    (ze (ya (i := 7) nd rfl (Or.inl rfl) (zx o3 (hr.mono (show 8 ≤ 9 by decide)) (zc (pv 3) (zc (pv 4) zd))))
    (ze (yc (yu (yh (zx o4 hr (zc (pv 3) (zc (pv 4) (zc (pv 5) (zc (pv 7) zd))))))) (zi (zp xj)) zr)
    (zi (vz (Xq PySem.F.plainAttrs_list PySem.F.slot_list_append PySem.F.type_list_append jb (zo zl (pv 7) zh (fun _ _ => rfl)) (zc wk zd)))))))))))
  (zi (zp xj))), ?_⟩
 refine ⟨_, rfl, (by show 3 ≤ sizeLine; decide), fun a ha hKa => ?_⟩;have sa := Same.new ha (.lst [.ref s, .int 0, .int 0]);have T0 : Tape K (upd H a (.lst [.ref s, .int 0, .int 0])) a s ns := by
  have e : s ≠ a := fun z => by
   rcases hS with (q | ⟨o, q⟩) | ⟨o, its, n, q, _⟩
   · rw [z, ha] at q; cases q
   · rw [z, ha] at q; cases q
   · have hKa : K.lookup a = none := hKa;rw [z, hKa] at q; cases q
  exact ⟨⟨0, 0, zf, bz 0, bz 0⟩, sa.seq hS, e, h63⟩
 have hT0 := hB.same sa;generalize upd H a (.lst [.ref s, .int 0, .int 0]) = H0 at T0 sa hT0 ⊢;refine ⟨2, rfl, by decide, by decide, ?_⟩;refine jc (lo := 0) (n := (2 : Int).toNat) (fun i σ H' => Tape K H' a s ns ∧ k7 tb zar kx H' ∧ ∃ x2 x3 x4 x5 x6 x7, σ = [some (.ref s), some (.ref a), x2, x3, x4, x5, x6, x7]) ⟨T0, hT0, none, none, none, none, none, none, rfl⟩ ?_ (fun σ H' _ => kk _);rintro it σ H1 hit ⟨T1, hT1, x2, x3, x4, x5, x6, x7, rfl⟩;have hit : it < 2 := hit;obtain ⟨p1, q1, hta, _, _⟩ := id T1.at';refine ⟨_, rfl, a, s, ns, rfl, T1, fun bx ss p v H2 L b2 T2 hv => ?_⟩;have hT2 := zf4 hT1 b2 hta;obtain ⟨ap, xp, rfl, hap, vh, rr1, rfl, ih, vp, rr2, rfl, ip, hnil⟩ := hv;cases (show rr2 = [] from hnil);cases (show vp = .int p from ip);obtain ⟨dss, rfl, hd, hw⟩ := zoy L;have C := zoz L;have ih : Is H2 (hT bx dss) vh := ih;refine ⟨ap, _, rfl, SqT.of hap, rfl, _, _, rfl, _, _, rfl, rfl, ?_⟩;refine ⟨_, rfl, bx, dss, vh, rfl, hd, C, ih, fun d R H3 s3 hd0 hN B => ?_⟩;refine ⟨_, rfl, _, _, rfl, rfl, _, rfl, by omega, by omega, ?_⟩;refine jc (lo := 0) (fun j σ H' => Tape K H' a s ns ∧ k7 tb zar kx H' ∧ Is H' (hT bx dss) vh ∧ NAt P w H' d (kvD R) ∧ ∃ y6 y7, σ = [some (.ref s), some (.ref a), some (.int (0 + (it : Int))), some vh, some (.int p), some (.ref d), y6, y7]) ⟨T2.same s3, hT2.same s3, ih.mono s3, hN, _, _, rfl⟩ ?_ ?_;rotate_left
 · rintro σ H4 ⟨T4, hT4, _, _, y6, y7, rfl⟩;exact ⟨T4, hT4, _, _, _, _, _, _, rfl⟩
 rintro j σ H4 hj ⟨T4, hT4, ih4, hN4, y6, y7, rfl⟩;refine ⟨_, rfl, _, rfl, bx, dss, vh, p, rfl, hd, hw, C, ih4, hT4, fun af H5 b5 hT5 tr => ?_⟩;have i4 := zky hT4;have ih5 := ih4.tups (b5.tups i4) hd.fro;have hN5 := zhg hN4 b5 i4;refine ⟨_, rfl, _, rfl, _, rfl, _, rfl, H4, bx, dss, p, vh, d, R, af, rfl, hd, hw, C, ih5, hN5, B, tr, fun H6 s6 => ⟨_, rfl, ye ?_⟩⟩;obtain ⟨x, l, zz, haf, hl0, hl, hzl⟩ : ∃ x l zz, H5 af = some (.tup [.str x, .ref l]) ∧ H4 l = none ∧ H5 l = some (.lst zz) ∧ zz.length ≤ 2000 := by
  rcases tr with ⟨l, row, x, st, ha, h0, hl, wy, _⟩ | ⟨l, row, st, ha, h0, hl, wy, _⟩ | ⟨l, L, ys, ha, h0, hl, iL, hn, _⟩
  · have := X3 hd wy;exact ⟨_, l, _, ha, h0, hl, by rw [a7, ba]; show row.length + 1 ≤ 2000; omega⟩
  · have := X3 hd wy;exact ⟨_, l, _, ha, h0, hl, by rw [a7]; omega⟩
  · have := iL.length;rw [a7] at this;exact ⟨_, l, _, ha, h0, hl, by omega⟩
 have hl6 := s6 _ _ hl;refine ⟨_, rfl, af, _, _, _, rfl, rfl, SqT.of (s6 _ _ haf), at1, .inl ⟨rfl, _, SqL.of hl6⟩, l, zz, _, rfl, rfl, hl6, Vo (by omega), ?_⟩;have bt : Bt tb H4 (upd H6 l (.lst (zz ++ [.non]))) := fun b o n e => by
  rw [zk (zm e hl0)];exact s6 _ _ (b5 b o n e)
 exact ⟨zi2 T4 bt i4, zf4 (hT5.same s6) (fun b o n e => by rw [zk n]; exact e) hl6, ih4.tups (bt.tups i4) hd.fro, zhg hN4 bt i4, _, _, rfl⟩
noncomputable def FD (K : PySem.W.Frag) (x : Str) (st : Stmt) (f : Addr) (cdv : Value) (fd : FuncData) : Prop := PySem.W.nsIn K mainGlobals x = some (some (.ref f)) ∧ Fun K x x st f fd ∧ fd.code = cdv
noncomputable def FE (K : PySem.W.Frag) (x : Str) (st : Stmt) : Prop := ∃ f c fd, FD K x st f c fd
section
variable {x : Str} {st : Stmt} {f : Addr} {oc : Value} {od an : Option Addr} {kV doc pm cdv ct : Value}
theorem fd_mk (e : PySem.W.nsIn K mainGlobals x = some (some (.ref f))) (l : K.lookup f = some ⟨oc, od, .func (PySem.W.fnOf x x (qe st) (xn st) (zj st) .none kV doc pm an cdv ct), osl⟩) (c : PySem.W.codeIn K cdv x = true) (k : PySem.W.keepIn K (.ref f) = true) :
 FD K x st f cdv (PySem.W.fnOf x x (qe st) (xn st) (zj st) .none kV doc pm an cdv ct) := ⟨e, zmq l c k, rfl⟩
theorem fe_mk (e : PySem.W.nsIn K mainGlobals x = some (some (.ref f))) (l : K.lookup f = some ⟨oc, od, .func (PySem.W.fnOf x x (qe st) (xn st) (zj st) .none kV doc pm an cdv ct), osl⟩) (c : PySem.W.codeIn K cdv x = true) (k : PySem.W.keepIn K (.ref f) = true) : FE K x st := ⟨_, _, _, fd_mk e l c k⟩
theorem FE.d (X : K.In h) (G : h.Ns mainGlobals mg) (a : FE K x st) : Def K mg x st := let ⟨f, _, fd, e, F, _⟩ := a; ⟨f, fd, F, PySem.W.mg_of X G e⟩
theorem ci_mk {i : Int} {t : Tok} (e : PySem.W.nsIn K mainGlobals x = some (some (.int i t))) : ∃ t, PySem.W.nsIn K mainGlobals x = some (some (.int i t)) := ⟨_, e⟩
theorem Vl {i : Int} (X : K.In h) (G : h.Ns mainGlobals mg) (e : ∃ t, PySem.W.nsIn K mainGlobals x = some (some (.int i t))) : ∃ t, mg x = some (.int i t) := let ⟨t, e⟩ := e; ⟨t, PySem.W.mg_of X G e⟩
end
theorem all_mk {l : PySem.W.OpenLaw} {fa fT fL cc : Addr} {cL : Value} {dT dL : FuncData} (X : K.In h) (G : h.Ns mainGlobals mg) (hfa : mg "law" = some (.ref fa))
  (b0 : FE K "is_whole" Zr) (b1 : FE K "is_within" kt) (b2 : FE K "is_tuple_within" vx) (b3 : FE K "is_letters" qu) (b4 : FE K "is_word" Y9) (b5 : FE K "said_in" Zb) (b6 : FE K "is_loose_deed" j4) (b7 : FE K "is_loose_script" vw) (b8 : FE K "is_loose" j5) (b9 : FE K "need_loose" Jk) (b10 : FE K "at_first" Zt) (b11 : FE K "next_deed" ko) (b12 : FE K "may_go_on" kr) (b13 : FE K "moved" Jl) (b14 : FE K "going" X7) (b15 : FE K "rows_to_all" Yh) (b16 : FE K "skips_a_say" Ji) (b17 : FE K "is_loose_wall" Yj) (b18 : FE K "need_loose_wall" Jj) (b19 : FE K "times_said" Yg) (b20 : FE K "is_early_go" Xc) (b21 : FE K "has_done_all" Zd) (b22 : FE K "stops" Ww) (b23 : FE K "steps_from" jh) (b24 : FE K "stand_by" Y7) (b25 : FE K "early_weaving" Yk) (b26 : FE K "stuck_weaving" Wv) (b27 : FD K "tried_loose" k8 fT (.ref cc) dT) (b28 : FE K "is_early" Xb) (b29 : FE K "is_stuck" Xa) (b30 : FE K "has_early" Zs) (b31 : FE K "is_stand_like" xz) (b32 : FE K "is_kept_at" Yi) (b33 : FE K "holds_by" ja) (b34 : FE K "_law_e_mixed" Jm) (b35 : FE K "_law_e_pick" zby) (b36 : FE K "_law_e_deed" Jn) (b37 : FE K "_law_e_stretch" k9) (b38 : FE K "_law_e_script" Za) (b39 : FE K "_law_e_loose_one" xh) (b40 : FE K "_law_e_step" Jh) (b41 : FE K "_law_e_start" km) (b42 : FE K "_law_e_too_early" j2) (b43 : FE K "_law_e_stopped" j3) (b44 : FE K "_law_e_search" Y8) (b45 : FE K "_law_e_is_stand" Zc) (b46 : FE K "_law_e_woven" Jg) (b47 : FE K "_law_e_right" qg) (bL : FD K "law" zbz fL cL dL) (n0 : ∃ t, PySem.W.nsIn K mainGlobals "MOST_LETTERS" = some (some (.int 8 t))) (n1 : ∃ t, PySem.W.nsIn K mainGlobals "BOXES" = some (some (.int 0 t))) (n2 : ∃ t, PySem.W.nsIn K mainGlobals "SCRIPTS" = some (some (.int 1 t))) (n3 : ∃ t, PySem.W.nsIn K mainGlobals "PLACES" = some (some (.int 0 t))) (n4 : ∃ t, PySem.W.nsIn K mainGlobals "NUMBERS" = some (some (.int 1 t))) (n5 : ∃ t, PySem.W.nsIn K mainGlobals "MOST_BOXES" = some (some (.int 6 t))) (n6 : ∃ t, PySem.W.nsIn K mainGlobals "MOST_SCRIPTS" = some (some (.int 4 t))) (n7 : ∃ t, PySem.W.nsIn K mainGlobals "MOST_DEEDS" = some (some (.int 30 t))) (n8 : ∃ t, PySem.W.nsIn K mainGlobals "MOST_NUMBER" = some (some (.int 9 t))) (n9 : ∃ t, PySem.W.nsIn K mainGlobals "MOST_PHASES" = some (some (.int 15 t))) (n10 : ∃ t, PySem.W.nsIn K mainGlobals "MOST_STANDS" = some (some (.int 3000 t))) (z : PySem.W.nsIn K mainGlobals "isinstance" = some none ∧ PySem.W.nsIn K mainGlobals "int" = some none ∧ PySem.W.nsIn K mainGlobals "bool" = some none ∧ PySem.W.nsIn K mainGlobals "str" = some none ∧ PySem.W.nsIn K mainGlobals "tuple" = some none ∧ PySem.W.nsIn K mainGlobals "list" = some none ∧ PySem.W.nsIn K mainGlobals "len" = some none ∧ PySem.W.nsIn K mainGlobals "all" = some none ∧ PySem.W.nsIn K mainGlobals "sum" = some none ∧ PySem.W.nsIn K mainGlobals "range" = some none ∧ PySem.W.nsIn K mainGlobals "enumerate" = some none ∧ PySem.W.nsIn K mainGlobals "sorted" = some none ∧ PySem.W.nsIn K mainGlobals "min" = some none ∧ PySem.W.nsIn K mainGlobals "any" = some none ∧ PySem.W.nsIn K mainGlobals "zip" = some none ∧ PySem.W.nsIn K mainGlobals "max" = some none ∧ PySem.W.nsIn K mainGlobals "dict" = some none ∧ PySem.W.nsIn K mainGlobals "set" = some none) (hb : ∀ (s : Shared) (v : Value), BindsTo s dL ⟨[v], []⟩ [("script", v)]) (hhd : PySem.W.codeHdIn K cc tb = true) :
  (∃ c, PySem.W.codeHdIn K c tb = true) ∧ ∃ fd : FuncData, (∀ (s : Shared) (v : Value), BindsTo s fd ⟨[v], []⟩ [("script", v)]) ∧ ∀ base : Heap, K.In base → base.Ns mainGlobals mg → Y2 mg base → FnOk l.prog w K mg base CX0 10 fa fd ["script"] (zdb tb K) := by
 have e := hfa.symm.trans (PySem.W.mg_of X G bL.1);cases e;obtain ⟨z0, z1, z2, z3, z4, z5, z6, z7, z8, z9, z10, z11, z12, z13, z14, z15, z16, z17⟩ := z;have T : Txt K mg := ⟨Vl X G n0, Vl X G n1, Vl X G n2, Vl X G n3, Vl X G n4, Vl X G n5, Vl X G n6, Vl X G n7, Vl X G n8, Vl X G n9, Vl X G n10, PySem.W.mg_none_of X G z0, PySem.W.mg_none_of X G z1, PySem.W.mg_none_of X G z2, PySem.W.mg_none_of X G z3, PySem.W.mg_none_of X G z4, PySem.W.mg_none_of X G z5, PySem.W.mg_none_of X G z6, PySem.W.mg_none_of X G z7, PySem.W.mg_none_of X G z8, PySem.W.mg_none_of X G z9, PySem.W.mg_none_of X G z10, PySem.W.mg_none_of X G z11, PySem.W.mg_none_of X G z12, PySem.W.mg_none_of X G z13, PySem.W.mg_none_of X G z14, PySem.W.mg_none_of X G z15, PySem.W.mg_none_of X G z16, PySem.W.mg_none_of X G z17⟩
 refine ⟨⟨cc, hhd⟩, dL, hb, fun base XB _ B => ?_⟩;have CH := PySem.W.codeHd_of_K XB hhd;have F := bL.2.1;have o1 := zai (P := l.prog) (w := w) (base := base) (b0.d X G) T;have o2 := Jv (b1.d X G) T o1;have o3 := Zw (P := l.prog) (w := w) (base := base) (b2.d X G) T;have o4 := Vy (P := l.prog) (w := w) (base := base) (b3.d X G) T;have o5 := zcb (b4.d X G) T o4;have o6 := Vx (b6.d X G) T o3 o2 o5;have o7 := Xx (b7.d X G) T o3 o6;have o8 := zaj (b8.d X G) T o3 o2 o7;have o9 := zg8 (P := l.prog) (w := w) (base := base) (b34.d X G);have o10 := zjt (b35.d X G) T o9;have o11 := zha (b36.d X G) T o10;have o12 := zb6 (b37.d X G) T o11;have o13 := zb9 (b38.d X G) T o10 o12;have o14 := zah (b39.d X G) T o10 o13;have n1 := zg6 (b9.d X G) T o8;have n2 := zal (P := l.prog) (w := w) (base := base) (b10.d X G) T;have n3 := Jt (P := l.prog) (w := w) (base := base) (b11.d X G) T;have n4 := Ju (b12.d X G) T o2 n3;have n5 := zg7 (b13.d X G) T n3;have n6 := zg9 (b14.d X G) T n4;have m1 := zca (P := l.prog) (w := w) (base := base) (b5.d X G) T;have m2 := zg4 (b16.d X G) T m1;have m3 := zez (b17.d X G) T o2 m1 m2;have m4 := zg5 (b18.d X G) T n1 m3;have m5 := zg2 (P := l.prog) (w := w) (base := base) (b19.d X G) T;have m6 := zcg (b20.d X G) T n3 m5;have m7 := zch (P := l.prog) (w := w) (base := base) (b21.d X G) T;have m8 := zeu (b22.d X G) T n6 m7;have m9 := Jr (b23.d X G) T n6 n5;have m10 := zew (b15.d X G) T m9;have m11 := ze0 (b25.d X G) T n6 m6;have m12 := zet (b26.d X G) T m8;have m13 := zg1 B CH ⟨_, _, b27.2.1, PySem.W.mg_of X G b27.1, b27.2.2⟩ T m4 m10 n2 m11 m12;have m14 := zb7 (b24.d X G) T n2 n4 n5;have m15 := zce (b28.d X G) T m4 m14 n4 m6;have m16 := zcc (b29.d X G) T n1 m14 m8;have e1 := zg3 (P := l.prog) (w := w) (base := base) (b40.d X G) T;have e2 := zev (P := l.prog) (w := w) (base := base) (b41.d X G) T;have e3 := zae (P := l.prog) (w := w) (base := base) (b42.d X G) T;have e4 := zaf (b43.d X G) T e1;have h1 := zak (b30.d X G) T m5;have h2 := Js (b31.d X G) T n2 o3 o2;have h3 := zey (b32.d X G) T m8 h1 m9;have h4 := zcf (b33.d X G) T m4 h2 n2 h3;have e5 := zb8 (b44.d X G) T e2 e1;have e6 := zcd (P := l.prog) (w := w) (base := base) (b45.d X G) T;have e7 := zg0 (b46.d X G) T e2 e1;have e8 := zex (b47.d X G) T e3 e4 e6 e7 h4 m15 m16;exact zju F T o14 e5 m13 e8
theorem walk {l : PySem.W.OpenLaw} {q : Program} {loose : List Str} {XP : (Str → Option Value) → Heap → Prop} {YP : World → Heap → Prop} {d : DefRec} {K : Params → PySem.W.Frag} (hn : l.most = some 63) (hdf : d.params.defaults = [])
  (hY : ∀ (w : World) (h : Heap), YP w h → (K w.params).In h ∧ h.get? tb = some (PySem.W.tabObj #[]))
  (F : ∀ (w : World) (mg : Str → Option Value) (fa : Addr) (h : Heap), (K w.params).In h → h.Ns mainGlobals mg → mg d.name = some (.ref fa) →
   (∃ c, PySem.W.codeHdIn (K w.params) c tb = true) ∧ ∃ fd : FuncData, (∀ (s : Shared) (u : Value), BindsTo s fd ⟨[u], []⟩ [("script", u)]) ∧ ∀ base : Heap, (K w.params).In base → base.Ns mainGlobals mg → Y2 mg base → FnOk l.prog w (K w.params) mg base CX0 10 fa fd ["script"] (zdb tb (K w.params)))
  (hKT : ∀ w : World, (K w.params).lookup tb = none) :
  PySem.W.WalkO q loose XP YP l.row.toRowW d [] (fun f vs => PySem.call f vs) :=
 L2.walk_ofT (n := 63) (k := 10) (x := "script") (CX := fun _ => CX0) (sp := fun w => zdb tb (K w.params)) hn (by decide) hdf ⟨rfl, by decide, by decide⟩ hY hKT F (fun _ _ a ns hl hT hS => ⟨a, ns, rfl, hS, hl, k7.first hT, fun _ => rfl⟩) fun _ _ _ _ _ z => z
end
end My
-- the names of quick twins that the head would else make (of its heaps, its trees, the program): taken here, the head goes on without them, and the text compiles to less
namespace PySem.W.Fast
def tw14926123549933080507:=0
def tw2121790036712874656:=0
def tw11116251889908923419:=0
def tw16392425481246670573:=0
def tw6713744966175106533:=0
def tw952111608296963650:=0
def tw17789688915388833122:=0
def tw18217752980909185167:=0
def tw8442801653045858692:=0
def tw1192622568446472161:=0
def tw17735178892587666947:=0
def tw14326859794543090452:=0
def tw11929441247387744352:=0
def tw2883398235553307977:=0
def tw8932340239420898972:=0
def tw6627512506352356230:=0
def tw17355365593990396570:=0
def tw18258842834992576877:=0
def tw13731351510377819720:=0
def tw7547522878801753595:=0
def tw13125981844704877532:=0
def tw6780397190330175701:=0
def tw10338007921076425443:=0
def tw13576381584803568449:=0
def tw8183762454329522491:=0
def tw10779527855490889181:=0
def tw15688148145757487076:=0
def tw1423769355787400094:=0
def tw11077140975914972035:=0
def tw6955969402045841567:=0
def tw14413220679145333516:=0
def tw2684464293441800930:=0
def tw2719907499597306445:=0
def tw15835617483514475421:=0
def tw5376858700326139756:=0
def tw13248894324575041247:=0
def tw3161460998483125572:=0
def tw11026862860574637225:=0
def tw13440621966669318379:=0
def tw1082523453546411569:=0
def tw6464871433176594347:=0
def tw2095425387731203147:=0
def tw5951799997424571309:=0
def tw18048778255725742100:=0
def tw3640972280924352841:=0
def tw4265821506581849146:=0
def tw12086131210690863797:=0
def tw9771211583690350337:=0
def tw15053302205466555548:=0
def tw17653233058975305246:=0
def tw143957243489189240:=0
def tw9602707167781712585:=0
def tw470644568390266313:=0
def tw8329088934129857629:=0
def tw6383946004929193555:=0
def tw5026380062637176104:=0
def tw11580140013104509562:=0
def tw7570918421282245881:=0
def tw13548246698625973580:=0
def tw11367782004762827942:=0
def tw157117110568553518:=0
def tw14237639801995935470:=0
def tw12456692321656367988:=0
def tw3596870792839811600:=0
def tw14588218441501866608:=0
def tw14053953948779572960:=0
def tw9259439739920714739:=0
def tw17746669845157336643:=0
def tw17611314891763535011:=0
def tw11298200621470864795:=0
def tw7629018183964715101:=0
def tw6684617354072131384:=0
def tw4363242334872854199:=0
def tw1299608126849247365:=0
def tw1656692701870009132:=0
def tw6321716890444341854:=0
def tw9530527842630289319:=0
def tw4945850008408664967:=0
def tw12802127528191868951:=0
def tw5232224700235395518:=0
def tw5452861871274109673:=0
def tw9976632843943574212:=0
def tw715949457330713516:=0
def tw205608355660926697:=0
def tw13328469729153904806:=0
end PySem.W.Fast

open PySem PySem.W PyProof.Rows
set_option maxRecDepth 100000 in
set_option maxHeartbeats 0 in
theorem PySem.Challenge.cw_meetwall_k60_loose_ones_by_all_weavings_holds : PySem.Challenge.rw_meetwall_k60_loose_ones_by_all_weavings.Holds := by
 w_on; o_law; k_head; (case hw => w_witness2)
 k_fill
 refine My.walk (l := PySem.Challenge.rw_meetwall_k60_loose_ones_by_all_weavings) rfl rfl (fun w h Y => ⟨PySem.W.km_in_of Y, PySem.W.km_tabs_of Y _ List.mem_cons_self⟩) ?F ?KT
 case KT => intro w; first | kernel_rfl | k_is
 case F =>
  intro w mg fa h KX G hmg;refine' My.all_mk KX G hmg ?_ ?_ ?_ ?_ ?_ ?_ ?_ ?_ ?_ ?_ ?_ ?_ ?_ ?_ ?_ ?_ ?_ ?_ ?_ ?_ ?_ ?_ ?_ ?_ ?_ ?_ ?_ ?bT ?_ ?_ ?_ ?_ ?_ ?_ ?_ ?_ ?_ ?_ ?_ ?_ ?_ ?_ ?_ ?_ ?_ ?_ ?_ ?_ ?bL ?_ ?_ ?_ ?_ ?_ ?_ ?_ ?_ ?_ ?_ ?_ ?z ?hb ?hhd
  (case z => refine ⟨?_, ?_, ?_, ?_, ?_, ?_, ?_, ?_, ?_, ?_, ?_, ?_, ?_, ?_, ?_, ?_, ?_, ?_⟩ <;> k_is)
  (case bL => refine' My.fd_mk ?a ?l ?c ?k; (case a => k_is); (case l => k_is); (case c => k_is); (case k => k_is))
  (case hb => exact fun s v => .of_eq rfl)
  (case bT => refine' My.fd_mk ?a ?l ?c ?k; (case a => k_is); (case l => k_is); (case c => k_is); (case k => k_is))
  (case hhd => first | kernel_rfl | k_is)
  all_goals first | (refine' My.fe_mk ?a ?l ?c ?k; (case a => k_is); (case l => k_is); (case c => k_is); (case k => k_is)) | (refine' My.ci_mk ?a; (case a => k_is))

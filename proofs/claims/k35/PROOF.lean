import PyProof.Rows.All
import Wide.All
import OpenK.AllK
import Wide.FinOn
import Lean
import PyProof.EqAt
import PyProof.EqKinds
import PyProof.TupleCall
import PyProof.TupleKey
import PyProof.DictFindH
import PyProof.NeData
import PyProof.ListRange
import PyProof.ZipIter
import PyProof.Rows.CallKwBuiltin
import PyProof.MinMaxWalk
import KE.KSortTup
import PyProof.DictItems
import PyProof.EnumIter
import PyProof.EnumMake
import PyProof.MeetsStr
import PyProof.MeetsStr2
import PyProof.StrCalls
import PyProof.StrCalls2
import PyProof.FString
import KE.KIntText
import KE.KDictSum
import PyProof.DictValues
import PyProof.SetRoads
import PyProof.SetNew
import PyProof.IsRules
import PySem.Challenge.RW_meetwall_k35_whole_kinds_hold_and_cost
set_option Elab.async false
set_option linter.all false
set_option maxRecDepth 100000
set_option maxHeartbeats 4000000
set_option compiler.extract_closed false
noncomputable section
theorem uM(h:True:=by intro _ _ _ _ h;first|(cases h;subst_vars;rfl)|(obtain⟨h,_⟩:=h;(repeat obtain⟨_,h⟩:=h)<;>(subst_vars;rfl))):True:=h
theorem uL(h:True:=by intro _ _ _ _ _ _ us hl;first|exact Mh hl (λ_=>rfl)|exact Mg hl (λ_ _=>rfl)|exact Mf hl (λ_ _ _=>rfl)|exact Me hl (λ_ _ _ _=>rfl)|exact Md hl (λ_ _ _ _ _=>rfl)|(cases us<;>first|rfl|cases hl)):True:=h
theorem B6(h:True:=by first|exact Or.inl J|exact Or.inr (Or.inl J)|exact Or.inr (Or.inr J)):True:=h
theorem bO{m n:Nat}(h:Nat.ble m n=true:=by rfl):m<=n:=Nat.le_of_ble_eq_true h
theorem J{a:Sort _}{b:a}:b=b:=rfl
abbrev O:=@List
abbrev I:=PySem.Value
abbrev Y:=PySem.Addr
namespace L2
open PySem PySem.Spec PyProof.Rows
noncomputable def _root_.a4:=@wpAny_bind
noncomputable def _root_.a9:=@wpAny_pure
noncomputable def _root_.ae:=@List.length_map
noncomputable def _root_.ag:=@Nat.le_refl
noncomputable def _root_.ai:=@List.mem_singleton
noncomputable def _root_.aj:=@List.getElem?_map
noncomputable def _root_.ak:=@Ne.symm
noncomputable def _root_.au:=@Heap.get?_push_of_some
noncomputable def _root_.ax:=@Heap.lt_size
noncomputable def _root_.az:=@List.mem_cons
noncomputable def _root_.be:=@List.map_append
noncomputable def _root_.bf:=@Nat.ne_of_lt
noncomputable def _root_.bj:=@Nat.zero_le
noncomputable def _root_.bn:=@decide_eq_true
noncomputable def _root_.bo:=@List.getElem?_eq_getElem
noncomputable def _root_.bp:=@List.map_map
noncomputable def _root_.bq:=@Heap.get?_push_size
noncomputable def _root_.br:=@List.mem_of_getElem?
noncomputable def _root_.bu:=@Bool.false_ne_true
noncomputable def _root_.bv:=@List.mem_cons_of_mem
noncomputable def _root_.bz:=@List.mem_map
noncomputable def _root_.c4:=@List.mem_append
noncomputable def _root_.c5:=@List.mem_cons_self
noncomputable def _root_.c6:=@decide_eq_false
noncomputable def _root_.c7:=@List.length_append
noncomputable def _root_.c8:=@List.getD_eq_getElem?_getD
noncomputable def _root_.c9:=@List.nodup_cons
noncomputable def _root_.cb:=@List.map_cons
noncomputable def _root_.ce:=@of_decide_eq_true
noncomputable def _root_.cf:=@Nat.lt_of_lt_of_le
noncomputable def _root_.cg:=@Bool.and_eq_true
noncomputable def _root_.ci:=@Int.toNat_natCast
noncomputable def _root_.cj:=@Nat.le_trans
noncomputable def _root_.cm:=@Option.map_eq_some_iff
noncomputable def _root_.cp:=@List.getElem?_eq_some_iff
noncomputable def _root_.cq:=@List.append_nil
noncomputable def _root_.cr:=@wpAny_call_entry
noncomputable def _root_.cu:=@List.take_add_one
noncomputable def _root_.cw:=@List.take_length
noncomputable def _root_.cx:=@List.length_take
noncomputable def _root_.cy:=@List.all_eq_true
noncomputable def _root_.cz:=@List.length_range
noncomputable def _root_.d5:=@List.size_toArray
noncomputable def _root_.d7:=@List.mem_append_right
noncomputable def _root_.d8:=@wpAny_newObj_type
noncomputable def _root_.d9:=@Nat.lt_irrefl
noncomputable def _root_.da:=@List.mem_range
noncomputable def _root_.db:=@wpAny_mono
noncomputable def _root_.dc:=@Nat.ne_of_gt
noncomputable def _root_.de:=@wpAny_isInstance
noncomputable def _root_.df:=@List.length_cons
noncomputable def _root_.di:=@Int.zero_add
noncomputable def _root_.dj:=@List.mem_append_left
noncomputable def _root_.dk:=@List.length_replicate
noncomputable def _root_.dm:=@List.length_filter_le
noncomputable def _root_.dq:=@List.getElem?_eq_none
noncomputable def _root_.dy:=@Heap.size_push
noncomputable def _root_.dz:=@Nat.lt_of_le_of_lt
noncomputable def _root_.ee:=@Array.getElem?_eq_getElem
noncomputable def _root_.ef:=@Int.le_refl
noncomputable def _root_.eh:=@List.mem_filter
noncomputable def _root_.eq:=@Nat.lt_succ_self
noncomputable def _root_.f6:=@List.replicate_succ'
noncomputable def _root_.f7:=@Nat.add_le_add_left
noncomputable def _root_.f8:=@Int.emod_lt_of_pos
abbrev aM:=Sum Int Str
noncomputable def mP:aM->Value->Bool|.inl k,v=>Value.isInt k v|.inr x,v=>Value.isStrOf x v
noncomputable def CN(w:World):aM->Int|.inl k=>hashInt k|.inr x=>hashStr w x
theorem v0:∀{k:aM}{v:Value},mP k v=true->(∃i t,k=Sum.inl i/\v=Value.int i t)\/(∃x t,k=Sum.inr x/\v=Value.str x t)
 | .inl i,v,h=>by
   obtain⟨t,e⟩:=Value.isInt_shape h
   simp_all
 | .inr x,v,h=>by
   obtain⟨t,e⟩:=Value.isStrOf_shape h
   simp_all
theorem Im(i:Int)(t:Tok):mP (.inl i) (.int i t)=true:=by simp[mP,Value.isInt]
theorem Io(x:Str)(t:Tok):mP (.inr x) (.str x t)=true:=by simp[mP,Value.isStrOf]
theorem DG(a b:Int):decide ((Sum.inl a:aM)=Sum.inl b)=(a==b):=by grind
theorem DK(a b:Str):decide ((Sum.inr a:aM)=Sum.inr b)=decide (a=b):=by simp
theorem DH(a:Int)(b:Str):decide ((Sum.inl a:aM)=Sum.inr b)=false:=c6 (λq=>nomatch q)
theorem DJ(a:Str)(b:Int):decide ((Sum.inr a:aM)=Sum.inl b)=false:=c6 (λq=>nomatch q)
noncomputable def ya(prog:Program)(w:World):PySem.KeyKind prog w aM where
 is:=mP
 hash:=CN w
 inj:=λv a b ha U=>by
  rcases v0 ha with⟨i,t,rfl,rfl⟩|⟨x,t,rfl,rfl⟩;rcases v0 U with⟨j,u,rfl,e⟩|⟨y,u,rfl,e⟩;injection e with e1 _;rw[e1];exact nomatch e
  rcases v0 U with⟨j,u,rfl,e⟩|⟨y,u,rfl,e⟩;exact nomatch e
  injection e with e1 _;rw[e1]
 byValue:=λk v h=>by rcases v0 h with⟨i,t,rfl,rfl⟩|⟨x,t,rfl,rfl⟩<;>rfl
 pyHash:=λB h=>by rcases v0 B with⟨i,t,rfl,rfl⟩|⟨x,t,rfl,rfl⟩;exact wpAny_pyHash_int h;exact wpAny_pyHash_str h
 eqBool:=λZ B h=>by rcases v0 Z with⟨i,t,rfl,rfl⟩|⟨x,t,rfl,rfl⟩;rcases v0 B with⟨j,u,rfl,rfl⟩|⟨y,u,rfl,rfl⟩;rw[DG]at h;exact wpAny_eqBool_int h;rw[DH]at h;exact SeqAt.EqAt.int_str i t y u _ _ _ _ h;rcases v0 B with⟨j,u,rfl,rfl⟩|⟨y,u,rfl,rfl⟩;rw[DJ]at h;exact SeqAt.EqAt.str_int x t j u _ _ _ _ h;rw[DK]at h;exact wpAny_eqBool_str h
 «strs»:=λk x t v h=>by
  rcases v0 h with⟨i,u,rfl,e⟩|⟨y,u,rfl,e⟩;exact nomatch e
  injection e with e1 _;subst e1;cases v<;>rfl
theorem KN(prog:Program)(w:World)(i:Int)(t:Tok):(ya prog w).is (.inl i) (.int i t)=true:=Im i t
theorem KO(prog:Program)(w:World)(x:Str)(t:Tok):(ya prog w).is (.inr x) (.str x t)=true:=Io x t
inductive V where|non|bl (b:Bool)|int (i:Int)|str (x:Str)|byt (b:Array UInt8)|flt (b:UInt64)|ref (a:Addr)|ty (n:String)
 deriving DecidableEq
def yq:V->Value->Prop|.non,u=>u=Value.none|.bl b,u=>u=Value.bool b|.int i,u=>∃t,u=Value.int i t|.str x,u=>∃t,u=Value.str x t|.byt b,u=>∃t,u=Value.bytes b t|.flt b,u=>∃t,u=Value.float b t|.ref a,u=>u=Value.ref a|.ty n,u=>u=Value.type n
abbrev yu:List V->List Value->Prop:=Paired yq
theorem yu.length{xs:O V}{a:O I}(r:yu xs a):xs.length=a.length:=Paired.length r
theorem yu.get:∀{xs:List V}{a:List Value}{i:Nat}{x:V},yu xs a->xs[i]?=some x->∃u,a[i]?=some u/\yq x u
 |_,_,_,_,.nil,e=>by grind
 |_,_,0,_,.cons r _,e=>by simp_all
 | _,_,i+1,x,.cons _ t,e=>by
   obtain⟨u,c,b⟩:=yu.get t (by simpa using e)
   simp_all
theorem yu.set{x:V}{u:Value}(r:yq x u):∀{xs:List V}{a:List Value}(i:Nat),yu xs a->yu (xs.set i x) (a.set i u)|_,_,_,.nil=>.nil|_,_,0,.cons _ t=>.cons r t|_,_,i+1,.cons q t=>.cons q (yu.set r i t)
theorem yu.append:∀{xs a:List V}{c b:List Value},yu xs c->yu a b->yu (xs++a) (c++b)|_,_,_,_,.nil,s=>s|_,_,_,_,.cons r t,s=>.cons r (yu.append t s)
theorem yu.take:∀{xs:List V}{a:List Value}(n:Nat),yu xs a->yu (xs.take n) (a.take n)|_,_,0,_=>.nil|_,_,_+1,.nil=>.nil|_,_,n+1,.cons r t=>.cons r (yu.take n t)
theorem yu.drop:∀{xs:List V}{a:List Value}(n:Nat),yu xs a->yu (xs.drop n) (a.drop n)|_,_,0,r=>r|_,_,_+1,.nil=>.nil|_,_,n+1,.cons _ t=>yu.drop n t
def Y3:Option V->Option Value->Prop|some v,some u=>yq v u|none,none=>True|_,_=>False
def KV{B:Type}:List (B×V)->List (B×Value)->Prop:=Paired λ(p:B×V) (q:B×Value)=>p.1=q.1/\yq p.2 q.2
noncomputable def kV:aM->V|.inl i=>.int i|.inr x=>.str x
inductive HO where|lst (xs:List V)|tup (xs:List V)|dK (kvs:List (aM×V))|dT (kvs:List (List aM×V))|set (S:Int->Bool) (n:Nat)|ins (C dx:Addr) (fs:List (Str×V))|own (x:Addr)|xd (fs:List (Str×V))|met (f x:Addr)|rng (lo hi:Int)|frz (o:Obj) (u:HO)|tbl (ps:Array Value)|ext (φ:Heap->Prop)
abbrev Hp:=Addr->Option HO
noncomputable def upd(H:Hp)(a:Addr)(o:HO):Hp:=λb=>if b=a then some o else H b
variable{a b:Addr}{o u:HO}{h h':Heap}{H:Hp}{P:Program}{w:World}
theorem zd:upd H a o a=some o:=by unfold upd;rw[if_pos J]
theorem upd_ne(h:b≠a):upd H a o b=H b:=by unfold upd;rw[if_neg h]
theorem Fp:upd (upd H a o) a u=upd H a u:=by funext b;unfold upd;simp_all
theorem Xj(h:H a=some o)(h':H b=some u)(d:o≠u):a≠b:=by grind
theorem zm(h:H a=some o)(h':H b=none):a≠b:=by grind
def iF(h:Heap)(a:Addr):Prop:=∀o,h.get? a=some o->o.dict=none
theorem iF.of{o:Obj}(n:iF h a)(e:h.get? a=some o)(c:h'.get? a=some o):iF h' a:=λq b=>by rw[c]at b;cases b;exact n o e
theorem iF.push{h:Heap}{c:Value}{d:Data}{a:Array (Option Value)}:iF (h.push {cls:=c,dict:=none,data:=d,slots:=a}) h.objs.size:=λq f=>by
 have e:=f;cases b:({cls:=c,dict:=none,data:=d,slots:=a}:Obj).isFreed with|false=>rw[bq _ b]at e;grind| true=>
   simp[Heap.get?,Heap.push,b]at e
   grind
section
variable(P:Program)(w:World)
def qf(H:Hp)(h:Heap)(a:Addr):HO->Prop
 |.lst xs=>xs.length<=sizeLine/\∃(its:List Value)(n:Nat),yu xs its/\h.get? a=some {cls:=.type "list",data:=.seq its.toArray n}
 |.tup xs=>xs.length<=sizeLine/\∃its:List Value,yu xs its/\IsTup h a its.toArray/\iF h a
 |.dK kvs=>kvs.length<=sizeLine/\(a==sysModules)=false/\∃vs,KV kvs vs/\h.DictOf (ya P w) a vs
 |.dT kvs=>kvs.length<=sizeLine/\(a==sysModules)=false/\∃xs:List (List aM×Addr×Value),
  Paired (λ(p:List aM×V) (q:List aM×Addr×Value)=>p.1=q.1/\H q.2.1=some (.tup (p.1.map kV))/\yq p.2 q.2.2) kvs xs/\
  ∃o es ep,h.get? a=some o/\o.ExactDict/\o.data=.dict es ep/\es.toList=xs.map (entryOfKey (tupleKind (ya P w)))/\(xs.map (·.1)).Nodup
 |.set S n=>h.SetOf (intKind P w) a S n
 |.ins C dx fs=>H dx=some (.own a)/\fs.length<=1000/\dx≠a/\h.get? a=some (W.instObj C dx)/\
  ∃mA,h.Ns1 dx mA/\(∀f,Y3 (fs.lookup f) (mA f))/\PySem.Within mA (fs.map (·.1))
 |.own _=>∃o,h.get? a=some o
 |.xd fs=>∃mA,h.Ns1 a mA/\∀f,Y3 (fs.lookup f) (mA f)
 |.rng lo hi=>∃t u v,h.get? a=some {cls:=.type "range",data:=.fields #[.int lo t,.int hi u,.int 1 v]}
 |.frz o u=>h.get? a=some o/\qf H h a u
 |.tbl ps=>h.get? a=some {cls:=.none,data:=.fields ps}
 |.met f x=>h.get? a=some (W.methodObj (.ref f) (.ref x))
 |.ext B=>B h/\(∃o,h.get? a=some o)/\∀h1 h2:Heap,B h1->(∀o,h1.get? a=some o->h2.get? a=some o)->B h2
def cC(H:Hp)(h:Heap):Prop:=∀a o,H a=some o->qf P w H h a o
end
section
variable{H':Hp}
theorem qf.lt(x:qf P w H h a o):a<h.objs.size:=by cases o with|lst c=>obtain⟨_,_,_,_,e⟩:=x;exact ax e|tup c=>obtain⟨_,_,_,p,_⟩:=x;exact p.lt|dK b=>obtain⟨_,_,_,_,o,_,_,e,_⟩:=x;exact ax e|dT b=>obtain⟨_,_,_,_,o,_,_,e,_⟩:=x;exact ax e|set S n=>obtain⟨o,_,_,_,e,_⟩:=x;exact ax e|ins C l d=>obtain⟨_,_,_,e,_⟩:=x;exact ax e|own y=>obtain⟨_,e⟩:=x;exact ax e|xd d=>obtain⟨_,⟨_,_,_,e,_⟩,_⟩:=x;exact ax e|rng lo k=>obtain⟨_,_,_,e⟩:=x;exact ax e|frz j u=>obtain⟨e,_⟩:=x;exact ax e|tbl i=>exact ax (x)|met f y=>exact ax (x)|ext g=>obtain⟨_,⟨_,e⟩,_⟩:=x;exact ax e
theorem Paired.mapP{g e:Type}{F G:g->e->Prop}:∀{d:List g}{c:List e},Paired F d c->(∀a b,F a b->G a b)->Paired G d c|_,_,.nil,_=>.nil|_,_,.cons r t,f=>.cons (f _ _ r) (Paired.mapP t f)
theorem qf.stay(x:qf P w H h a o)(k:∀b u,(b=a\/H b=some (.own a))->h.get? b=some u->h'.get? b=some u)(K:∀b,H b=some (.own a)->H' b=some (.own a)) (G:∀b xs,H b=some (.tup xs)->H' b=some (.tup xs)):qf P w H' h' a o:=by induction o with|lst xs=>obtain⟨z,l,n,r,e⟩:=x;exact⟨z,l,n,r,k _ _ (.inl J) e⟩|tup xs=>obtain⟨z,l,r,⟨g,e,c⟩,E⟩:=x;exact⟨z,l,r,⟨g,k _ _ (.inl J) e,c⟩,E.of e (k _ _ (.inl J) e)⟩|dK A=>obtain⟨z,y,B,r,g,i,j,e,c⟩:=x;exact⟨z,y,B,r,g,i,j,k _ _ (.inl J) e,c⟩| dT A=>obtain⟨z,y,xs,r,g,i,j,e,c⟩:=x;exact⟨z,y,xs,Paired.mapP r λp q z=>⟨z.1,G _ _ z.2.1,z.2.2⟩,g,i,j,k _ _ (.inl J) e,c⟩|set S n=>obtain⟨g,i,j,t,e,c⟩:=x;exact⟨g,i,j,t,k _ _ (.inl J) e,c⟩| ins C U L=>obtain⟨d,z,D,e,s,⟨m,i,j,M,c⟩,r⟩:=x;exact⟨K _ d,z,D,k _ _ (.inl J) e,s,⟨m,i,j,k _ _ (.inr d) M,c⟩,r⟩|own y=>obtain⟨g,e⟩:=x;exact⟨g,k _ _ (.inl J) e⟩|xd L=>obtain⟨s,⟨m,i,j,e,c⟩,r⟩:=x;exact⟨s,⟨m,i,j,k _ _ (.inl J) e,c⟩,r⟩|rng lo R=>obtain⟨t,u,v,e⟩:=x;exact⟨t,u,v,k _ _ (.inl J) e⟩|frz g u F=>obtain⟨e,q⟩:=x;exact⟨k _ _ (.inl J) e,F q⟩| tbl Q=>have e:=x;exact k a _ (.inl J) e| met f y=>have e:=x;exact k a _ (.inl J) e|ext N=>obtain⟨p,⟨o,e⟩,st⟩:=x;exact⟨st _ _ p λo q=>k _ _ (.inl J) q,⟨o,k _ _ (.inl J) e⟩,st⟩
theorem cC.lt(x:cC P w H h)(e:H a=some o):a<h.objs.size:=(x a o e).lt
theorem cC.fresh(x:cC P w H h)(e:h.objs.size<=a):H a=none:=by cases q:H a with|none=>rfl|some u=>exact absurd (cf (x.lt q) e) (d9 _)
theorem cC.kept(x:cC P w H h)(k:∀b u,h.get? b=some u->h'.get? b=some u):cC P w H h':=λa o e=>(x a o e).stay (λb u _ q=>k b u q) (λ_ q=>q) λ_ _ q=>q
theorem cC.laid(x:cC P w H h)(k:∀b u,h.get? b=some u->h'.get? b=some u)(hp:h.objs.size<=a)(g:qf P w (upd H a o) h' a o):cC P w (upd H a o) h':=λb u e=>by have d:=x.fresh hp;by_cases f:b=a;subst f;rw[zd]at e;simp_all;rw[upd_ne f]at e;exact(x b u e).stay (λc v _ q=>k c v q) (λc q=>by rw[upd_ne (zm q d)];exact q) λc i q=>by rw[upd_ne (zm q d)];exact q
end
def Rd(H:Hp)(a:Addr)(u:HO):Prop:=H a=some u\/∃o,H a=some (.frz o u)
theorem Rd.ok(r:Rd H a u)(x:cC P w H h):qf P w H h a u:=by rcases r with r|⟨o,r⟩;exact x a u r;obtain⟨_,q⟩:=x a _ r;exact q
def pq:Option HO->Prop|some (.lst _)=>True|some (.dK _)=>True|some (.dT _)=>True|some (.set _ _)=>True|some (.ins _ _ _)=>True|some (.ext _)=>True|_=>False
section
variable{x e:Addr}{o':HO}
theorem cC.write(m:cC P w H h)(g:pq (H x))(he:e=x\/H e=some (.own x))(k:∀b u,b≠e->h.get? b=some u->h'.get? b=some u)(i:∃u,h'.get? e=some u)(n:qf P w (upd H x o') h' x o'):cC P w (upd H x o') h':=λb u q=>by
 have d:∀c y,H c=some (.own y)->c≠x:=λc y r z=>by subst z;rw[r]at g;exact g
 have a:∀c f,H c=some (.tup f)->c≠x:=λc f r z=>by subst z;rw[r]at g;exact g
 by_cases l:b=x;subst l;rw[zd]at q;simp_all;rw[upd_ne l]at q;by_cases o:b=e;have j:H b=some (.own x):=by simp_all
 rw[q]at j;cases j;obtain⟨v,p⟩:=i;exact⟨v,by simp_all⟩;refine(m b u q).stay (λc v s r=>k c v ?_ r) (λc r=>by rw[upd_ne (d c b r)];exact r) λc f r=>by rw[upd_ne (a c f r)];exact r
 grind
end
structure Un(fs ex:List Addr)(H H':Hp)(h h':Heap):Prop where
 keep:∀b o,h.get? b=some o->H b=none->b ∉ fs->b ∉ ex->h'.get? b=some o
 slot:∀b o,h.get? b=some o->H b=none->b∈fs->b ∉ ex->∃sl,h'.get? b=some {o with slots:=sl}
 free:∀b o,h.get? b=some o->H b=none->b ∉ ex->H' b=none
 there:∀b o,h.get? b=some o->b ∉ ex->∃o',h'.get? b=some o'
 tups:∀b xs,H b=some (.tup xs)->H' b=some (.tup xs)
 frzs:∀b o u,H b=some (.frz o u)->H' b=some (.frz o u)
 tbls:∀b ps,H b=some (.tbl ps)->∃more,H' b=some (.tbl (ps++more))
section
variable{fs Mb ex Mn:List Addr}{H1 H2:Hp}{h1 h2:Heap}{x e:Addr}
theorem Un.any(u:Un fs ex H H1 h h1){a:Obj}(q:h.get? b=some a)(n:H b=none)(c:b ∉ ex):∃sl,h1.get? b=some {a with slots:=sl}:=by by_cases d:b∈fs;exact u.slot b a q n d c;exact⟨a.slots,u.keep b a q n d c⟩
theorem Un.kept(k:∀b u,h.get? b=some u->h'.get? b=some u):Un fs ex H H h h':=⟨λb a q _ _ _=>k b a q,λb a q _ _ _=>⟨a.slots,k b a q⟩,λ_ _ _ n _=>n,λb a q _=>⟨a,k b a q⟩,λ_ _ q=>q,λ_ _ _ q=>q,λ_ c q=>⟨#[],by simp_all⟩⟩
theorem Un.refl:Un fs ex H H h h:=Un.kept λ_ _ q=>q
theorem Un.laid(k:∀b u,h.get? b=some u->h'.get? b=some u)(hp:h.objs.size<=a)(c:H a=none):Un fs ex H (upd H a o) h h' where
 keep:=λb u q _ _ _=>k b u q
 slot:=λb u q _ _ _=>⟨u.slots,k b u q⟩
 free:=λb u q n _=>by rw[upd_ne (bf (cf (ax q) hp))];exact n
 there:=λb u q _=>⟨u,k b u q⟩
 tups:=λb d q=>by rw[upd_ne (zm q c)];exact q
 frzs:=λb u d q=>by rw[upd_ne (zm q c)];exact q
 tbls:=λb e q=>⟨#[],by rw[upd_ne (zm q c),q];simp⟩
theorem Un.write(c:pq (H x))(he:e=x\/H e=some (.own x))(k:∀b u,b≠e->h.get? b=some u->h'.get? b=some u)(i:∃u,h'.get? e=some u):Un fs ex H (upd H x o) h h':=by
 have g:∀b,H b=none->b≠x:=λb n z=>by subst z;rw[n]at c;exact c
 have d:∀b,H b=none->b≠e:=λb n z=>by simp_all
 have a:∀b u,H b=some u->¬pq (some u)->b≠x:=λb u q l z=>by simp_all
 refine⟨λb u q n _ _=>k b u (d b n) q,λb u q n _ _=>⟨u.slots,k b u (d b n) q⟩,λb u q n _=>by rw[upd_ne (g b n)];exact n,λb u q _=>?_,λb f q=>by rw[upd_ne (a b _ q λz=>z)];exact q,λb u f q=>by rw[upd_ne (a b _ q λz=>z)];exact q,λb j q=>⟨#[],by rw[upd_ne (a b _ q λz=>z),q];simp⟩⟩
 grind
end
noncomputable def qI(h:Heap)(H:Hp):List Addr:=(List.range h.objs.size).filter λa=>(H a).isSome
noncomputable def jU(h:Heap)(H:Hp):Heap:=W.hideAll h (qI h H)
theorem Hv(h:Heap)(H:Hp):(jU h H).objs.size=h.objs.size:=W.hideAll_size _ _
theorem FO{o:Obj}(e:h.get? b=some o)(n:H b=none):(jU h H).get? b=some o:=
 W.hideAll_get _ e λa=>by
  have q:=(eh.mp a).2
  simp_all
theorem EJ{o:Obj}(e:(jU h H).get? b=some o):h.get? b=some o/\H b=none:=by
 have a:=W.of_hideAll (qI h H) e;refine⟨a,?_⟩;cases q:H b with|none=>rfl| some x=>
   have c:b∈qI h H:=eh.mpr ⟨da.mpr (ax a),by grind⟩;have z:(jU h H).get? b=none:=W.hideAll_none (qI h H) c
   simp_all
noncomputable def Ep(g h:Heap)(L:Addr):List (Addr×Obj):=(List.range h.objs.size).filterMap λa=>if a=L\/(g.get? a).isSome=true then none else(h.get? a).map λo=>(a,o)
noncomputable def Zk(g h:Heap)(L d:Addr):List (Addr×Obj):=(Ep g h L).filter λp=>decide (p.1≠d)
structure Mod(K:W.Frag)(mg:Str->Option Value)(base:Heap):Prop where
 kin:K.In base
 glob:base.Ns mainGlobals mg
 blt:∃mb,base.Ns builtinsNs mb/\∀x:Str,x≠"__name__"->mb x=bootBuiltins x
 nolimit:base.NoLimit
structure Cx where
 prog:Program
 w:World
 K:W.Frag
 mg:Str->Option Value
 base:Heap
 A:Around
 N:List Str
 s₀:Shared
 H₀:Hp
 env:Env
 outer:List Env
 stack:List Env
 ex:List Addr
 fn:Str->Bool
 calm:Bool
 pn:List (Addr×Obj)
 xe:Value->Shared->Prop
noncomputable def fW(l:List Env):List Addr:=l.filterMap (·.frame)
variable{A:Around}{pins cH:List (Addr×Obj)}{σ:List (Option V)}{ch:List Addr}{N:List Str}{i t':Nat}{s:Shared}{x:Str}{Q:Unit->Shared->Prop}{v:V}{u:Value}{E:Value->Shared->Prop}
abbrev Cx.fs(X:Cx):List Addr:=fW X.outer
def m9(B:Scope)(x:Str):Prop:=B.names.lookup x=some .local\/B.names.lookup x=some .cell\/B.names.lookup x=some .free
def Loc(B:Scope)(x:Str):Prop:=B.names.lookup x=some .local\/B.names.lookup x=some .cell
def vC(B:Env)(h:Heap)(m:Str->Option Value)(x:Str)(u:Value):Prop:=(B.kindOf x=some .local/\m x=some u)\/((B.kindOf x=some .cell\/B.kindOf x=some .free)/\∃c,B.cells.lookup x=some c/\h.IsCell c (some u))
structure Cx.Ok(X:Cx):Prop where
 mod:Mod X.K X.mg X.base
 kind:X.env.scope.kind=.function
 glob:X.env.globals=mainGlobals
 blt:X.env.builtins=builtinsNs
 above:X.s₀.heap.objs.size<=X.env.locals
 inj:∀x y c,X.env.cells.lookup x=some c->X.env.cells.lookup y=some c->x=y
 has:∀x,(X.env.kindOf x=some .cell\/X.env.kindOf x=some .free)->∃c,X.env.cells.lookup x=some c
 cab:∀x c,X.fn x=true->X.env.cells.lookup x=some c->X.s₀.heap.objs.size<=c
 hd:X.calm=true->X.A.handled=none
 frames:X.A.frames=some X.stack
 stk:X.stack=X.outer\/(X.stack=X.env::X.outer/\X.env.frame=some X.env.locals)
 exf:∀b∈X.ex,b≠X.env.locals/\∀x c,X.env.cells.lookup x=some c->c≠b
 bs:∀b o,X.base.get? b=some o->X.s₀.heap.get? b=some o/\X.H₀ b=none
 bsz:X.base.objs.size<=X.s₀.heap.objs.size
 noex:∀b o,X.base.get? b=some o->b ∉ X.ex
 exfs:∀b∈X.ex,b ∉ X.fs
 funs:X.s₀.heap.FunFrames X.base X.outer
 frf:∀b∈X.fs,X.H₀ b=none
structure Inv(X:Cx)(pins:List (Addr×Obj))(σ:List (Option V))(H:Hp)(s:Shared):Prop where
 ok:X.Ok
 os:s.os=X.s₀.os
 bare:AllBare s.gens
 base:Un X.fs X.ex X.H₀ H X.s₀.heap s.heap
 loc:∃m,s.heap.Ns X.env.locals m/\∀(i:Nat)(x:Str)(v:V),X.N[i]?=some x->σ[i]?=some (some v)->m9 X.env.scope x->∃u,yq v u/\vC X.env s.heap m x u
 cell:∀x c,X.env.cells.lookup x=some c->∃v,s.heap.IsCell c v
 free:H X.env.locals=none
 freeC:∀x c,X.env.cells.lookup x=some c->H c=none
 pin:∀p∈X.pn++pins,s.heap.get? p.1=some p.2/\H p.1=none/\p.1≠X.env.locals/\p.1 ∉ X.fs/\∀v,p.2.data≠ .cell v
 hok:cC X.prog X.w H s.heap
 len:σ.length=X.N.length
section
variable{X:Cx}{H':Hp}
theorem Cx.Ok.nofr(a:X.Ok){o:Obj}(e:X.base.get? b=some o):b ∉ X.fs:=λc=>by
 have:=(a.funs.mem c).1
 simp_all
theorem Inv.bs(I:Inv X pins σ H s):∀b o,X.base.get? b=some o->s.heap.get? b=some o/\H b=none:=λb o e=>⟨I.base.keep b o (I.ok.bs b o e).1 (I.ok.bs b o e).2 (I.ok.nofr e) (I.ok.noex b o e),I.base.free b o (I.ok.bs b o e).1 (I.ok.bs b o e).2 (I.ok.noex b o e)⟩
theorem Inv.bk(I:Inv X pins σ H s):∀b o,X.base.get? b=some o->s.heap.get? b=some o:=λb o e=>(I.bs b o e).1
theorem Inv.mod(I:Inv X pins σ H s):Mod X.K X.mg X.base:=I.ok.mod
theorem Inv.kIn(I:Inv X pins σ H s):X.K.In s.heap:=I.ok.mod.kin.keeps I.bk
theorem Inv.lt(I:Inv X pins σ H s):X.env.locals<s.heap.objs.size:=let⟨_,a,_⟩:=I.loc;a.lt
theorem Inv.sz(I:Inv X pins σ H s):X.s₀.heap.objs.size<=s.heap.objs.size:=cj I.ok.above (Nat.le_of_lt I.lt)
theorem Inv.nofs(I:Inv X pins σ H s)(h:s.heap.objs.size<=a):a ∉ X.fs:=λc=>by obtain⟨_,o,b,_⟩:=I.ok.funs.mem c;exact absurd (cf (ax b) (cj I.sz h)) (d9 _)
theorem Inv.cne(I:Inv X pins σ H s):∀x c,X.env.cells.lookup x=some c->c≠X.env.locals:=λx c e z=>by
 obtain⟨v,o,f,g⟩:=I.cell x c e;obtain⟨m,⟨d,h,i,a,b,_⟩,_⟩:=I.loc
 simp_all
theorem Inv.funs(I:Inv X pins σ H s):s.heap.FunFrames X.base X.outer:=by
 have d:∀(l:O Env),(∀b∈fW l,b∈X.fs)->X.s₀.heap.FunFrames X.base l->s.heap.FunFrames X.base l:=by intro l;induction l with|nil=>intro _ _;trivial| cons p r h=>intro f m;obtain⟨hk,⟨L,o,g,k,j,n⟩,i⟩:=m;have c:=f L (by unfold fW;simp_all);obtain⟨q,e⟩:=I.base.slot L o j (I.ok.frf L c) c λz=>I.ok.exfs L z c;exact⟨hk,⟨L,_,g,k,e,n⟩,h (λb a=>f b (by unfold fW;rw[List.filterMap_cons,g];exact bv _ a)) i⟩
 exact d X.outer (λ_ a=>a) I.ok.funs
theorem Inv.stack(I:Inv X pins σ H s):s.heap.FunFrames X.base X.stack:=by rcases I.ok.stk with e|⟨e,b⟩;rw[e];exact I.funs;rw[e];obtain⟨m,a,_⟩:=I.loc;refine .cons (by rw[I.ok.kind];decide) b a ?_ I.funs;exact Heap.get?_none_of_le (cj I.ok.bsz I.ok.above)
theorem Inv.stkSub(I:Inv X pins σ H s):∀b∈fW X.stack,b∈X.env.locals::X.fs:=λb a=>by
 rcases I.ok.stk with e|⟨e,c⟩
 simp_all
 rw[e]at a;unfold fW at a;rw[List.filterMap_cons,c]at a;exact a
theorem Inv.stkFree(I:Inv X pins σ H s):∀b∈fW X.stack,H b=none:=λb a=>by rcases az.mp (I.stkSub b a)with e|a;rw[e];exact I.free;obtain⟨_,o,c,_⟩:=I.ok.funs.mem a;exact I.base.free b o c (I.ok.frf b a) λz=>I.ok.exfs b z a
theorem Inv.step{S:Array GenState}{d':Drawn}(I:Inv X pins σ H s)(g:∀b∈ch,(b∈X.ex\/X.s₀.heap.objs.size<=b)/\b≠X.env.locals/\(∀x c,X.env.cells.lookup x=some c->c≠b)/\∀p∈X.pn++pins,p.1≠b)
  (keep:∀b o,b≠X.env.locals->b ∉ X.fs->b ∉ ch->s.heap.get? b=some o->H b=none->h'.get? b=some o)
  (w:∀b o,b≠X.env.locals->b∈X.fs->b ∉ ch->s.heap.get? b=some o->H b=none->∃sl,h'.get? b=some {o with slots:=sl}) (free:∀b o,b ∉ ch->s.heap.get? b=some o->H b=none->H' b=none)
  (y:∀b o,b ∉ ch->s.heap.get? b=some o->∃o',h'.get? b=some o')
  (C:∀b xs,H b=some (.tup xs)->H' b=some (.tup xs)) (G:∀b o u,H b=some (.frz o u)->H' b=some (.frz o u)) (D:∀b ps,H b=some (.tbl ps)->∃F,H' b=some (.tbl (ps++F)))
  (ns:∀m,s.heap.Ns X.env.locals m->h'.Ns X.env.locals m) (hok:cC X.prog X.w H' h') (hg:AllBare S):
  Inv X pins σ H' {s with heap:=h',gens:=S,drawn:=d',toks:=t'}:=by
 have E:∀b o,X.s₀.heap.get? b=some o->b≠X.env.locals:=λb o e=>bf (cf (ax e) I.ok.above);have j:∀b o,X.s₀.heap.get? b=some o->b ∉ X.ex->b ∉ ch:=λb o e a A=>by rcases(g b A).1 with z|z;exact a z;exact absurd (cf (ax e) z) (d9 _)
 have h:∀x c,X.env.cells.lookup x=some c->∀v,s.heap.IsCell c v->h'.IsCell c v:=λx c e v ⟨o,B,M⟩=>by have f:c ∉ ch:=λz=>(g c z).2.2.1 x c e J;by_cases R:c∈X.fs;obtain⟨sl,q⟩:=w c o (I.cne x c e) R f B (I.freeC x c e);exact⟨_,q,M⟩;exact⟨o,keep c o (I.cne x c e) R f B (I.freeC x c e),M⟩
 refine⟨I.ok,I.os,hg,⟨λb o e n A a=>?_,λb o e n A a=>?_,λb o e n a=>?_,λb o e a=>?_,λb xs e=>C b xs (I.base.tups b xs e),λb o xs e=>G b o xs (I.base.frzs b o xs e),λb ps e=>?_⟩,?_,λx c e=>?_,?_,λx c e=>?_,λp Q=>?_,hok,I.len⟩;exact keep b o (E b o e) A (j b o e a) (I.base.keep b o e n A a) (I.base.free b o e n a);obtain⟨sl,t⟩:=I.base.slot b o e n A a;obtain⟨L,K⟩:=w b _ (E b o e) A (j b o e a) t (I.base.free b o e n a);exact⟨L,K⟩;obtain⟨o',t⟩:=I.base.there b o e a;exact free b o' (j b o e a) t (I.base.free b o e n a);obtain⟨o',t⟩:=I.base.there b o e a;exact y b o' (j b o e a) t;obtain⟨W,t⟩:=I.base.tbls b ps e;obtain⟨U,K⟩:=D b _ t;exact⟨W++U,by rw[K,Array.append_assoc]⟩;obtain⟨m,Z,hl⟩:=I.loc;refine⟨m,ns m Z,λi x v t K e3=>?_⟩;obtain⟨u,r,l⟩:=hl i x v t K e3;refine⟨u,r,?_⟩;rcases l with l|⟨k,c,e,z⟩;exact .inl l;exact .inr ⟨k,c,e,h x c e _ z⟩;obtain⟨v,z⟩:=I.cell x c e;exact⟨v,h x c e v z⟩;obtain⟨m,⟨o,_,_,B,_⟩,_⟩:=I.loc;exact free _ o (λz=>(g _ z).2.1 J) B I.free;obtain⟨v,o,B,M⟩:=I.cell x c e;exact free c o (λz=>(g c z).2.2.1 x c e J) B (I.freeC x c e);obtain⟨e,n,P,N,d⟩:=I.pin p Q;have f:p.1 ∉ ch:=λz=>(g p.1 z).2.2.2 p Q J;exact⟨keep p.1 p.2 P N f e n,free p.1 p.2 f e n,P,N,d⟩
theorem Inv.un(I:Inv X pins σ H s)(u:Un X.fs [] H H' s.heap h')(hok:cC X.prog X.w H' h'):Inv X pins σ H' {s with heap:=h',toks:=t'}:=by obtain⟨m,⟨o,q,t,g,r⟩,_⟩:=id I.loc;obtain⟨k,j⟩:=u.any g I.free (by simp);exact I.step (ch:=[]) (λ_ z=>nomatch z) (λb o _ c _ e n=>u.keep b o e n c (by simp)) (λb o _ c _ e n=>u.slot b o e n c (by simp)) (λb o _ e n=>u.free b o e n (by simp)) (λb o _ e=>u.there b o e (by simp)) u.tups u.frzs u.tbls (λp i=>by obtain⟨l,d,f,a,h⟩:=i;rw[g]at a;cases a;exact⟨_,d,f,j,h⟩) hok I.bare
theorem Inv.call{k:Array GenState}{w:Drawn}(I:Inv X pins σ H s)(u:Un (fW X.stack) ch H H' s.heap h')(hok:cC X.prog X.w H' h')(t:AllBare k)(f:∀b∈ch,(b∈X.ex\/X.s₀.heap.objs.size<=b)/\b≠X.env.locals/\(∀x c,X.env.cells.lookup x=some c->c≠b)/\∀p∈X.pn++pins,p.1≠b):
  Inv X pins σ H' {s with heap:=h',gens:=k,drawn:=w,toks:=t'}:=by obtain⟨m,⟨o,C,D,j,r⟩,_⟩:=id I.loc;obtain⟨y,g⟩:=u.any j I.free λz=>(f _ z).2.1 J;exact I.step f (λb o g v a e n=>u.keep b o e n (λz=>(az.mp (I.stkSub b z)).elim g v) a) (λb o _ _ a e n=>u.any e n a) (λb o a e n=>u.free b o e n a) (λb o a e=>u.there b o e a) u.tups u.frzs u.tbls (λB q=>by obtain⟨A,h,i,d,l⟩:=q;rw[j]at d;cases d;exact⟨_,h,i,g,l⟩) hok t
theorem Inv.turned{a:Y}(I:Inv X pins σ H s)(k:∀b o,b≠a->s.heap.get? b=some o->h'.get? b=some o)(w:H a=none)(i:a≠X.env.locals)(C:a∈X.ex\/X.s₀.heap.objs.size<=a) (B:∀x c,X.env.cells.lookup x=some c->c≠a) (A:∀p∈X.pn++pins,p.1≠a):Inv X pins σ H {s with heap:=h',toks:=t'}:=by
 have f:∀b u,H b=some u->b≠a:=λb u e z=>by simp_all
 refine I.step (ch:=[a]) (λb y=>?_) (λb o _ _ d e _=>k b o (λz=>d (by grind)) e) (λb o _ _ d e _=>⟨o.slots,k b o (λz=>d (by grind)) e⟩) (λ_ _ _ _ n=>n)
  (λb o d e=>⟨o,k b o (λz=>d (by grind)) e⟩) (λ_ _ e=>e) (λ_ _ _ e=>e) (λb t e=>⟨#[],by simp_all⟩) (λm h=>?_) (λb u e=>?_) I.bare
 grind
 obtain⟨o,j,l,g,r⟩:=h;exact⟨o,j,l,k _ o (ak i) g,r⟩;refine(I.hok b u e).stay (λc v d q=>k c v ?_ q) (λ_ q=>q) λ_ _ q=>q
 grind
theorem Inv.tok(I:Inv X pins σ H s)(t:Nat):Inv X pins σ H {s with toks:=t}:=I.un Un.refl I.hok
theorem Inv.kept{t':Nat}(I:Inv X pins σ H s)(k:∀b u,s.heap.get? b=some u->h'.get? b=some u):Inv X pins σ H {s with heap:=h',toks:=t'}:=I.un (Un.kept k) (I.hok.kept k)
theorem Inv.laid{a:Y}{o:HO}{t':Nat}(I:Inv X pins σ H s)(k:∀b u,s.heap.get? b=some u->h'.get? b=some u)(hp:s.heap.objs.size<=a)(c:qf X.prog X.w (upd H a o) h' a o):Inv X pins σ (upd H a o) {s with heap:=h',toks:=t'}:=I.un (Un.laid k hp (I.hok.fresh hp)) (I.hok.laid k hp c)
theorem Inv.write{x e:Y}{o:HO}{t':Nat}(I:Inv X pins σ H s)(d:pq (H x))(he:e=x\/H e=some (.own x))(k:∀b u,b≠e->s.heap.get? b=some u->h'.get? b=some u)(a:∃u,h'.get? e=some u)(c:qf X.prog X.w (upd H x o) h' x o):Inv X pins σ (upd H x o) {s with heap:=h',toks:=t'}:=I.un (Un.write d he k a) (I.hok.write d he k a c)
theorem Inv.pins_of(I:Inv X pins σ H s)(h:∀p∈cH,s.heap.get? p.1=some p.2/\H p.1=none/\p.1≠X.env.locals/\p.1 ∉ X.fs/\∀v,p.2.data≠ .cell v):Inv X cH σ H s:=⟨I.ok,I.os,I.bare,I.base,I.loc,I.cell,I.free,I.freeC,λp a=>(c4.mp a).elim (λz=>I.pin p (dj _ z)) (h p),I.hok,I.len⟩
theorem Aq(c:N.Nodup){j:Nat}(a:N[i]?=some x)(b:N[j]?=some x):i=j:=by obtain⟨g,e⟩:=cp.mp a;obtain⟨f,d⟩:=cp.mp b;exact(List.getElem_inj c).mp (e.trans d.symm)
theorem BC{M:Model}(I:Inv X pins σ H s)(hN:X.N.Nodup)(R:X.N[i]?=some x)(t:Loc X.env.scope x)(r:yq v u)(h:∀s',Inv X pins (σ.set i (some v)) H s'->(∃a,Heap.SameBut a s.heap s'.heap/\(a=X.env.locals\/X.env.cells.lookup x=some a))->Q () s') (hf:X.fn x=true\/X.env.scope.names.lookup x=some .local:=by first|exact .inl J|exact .inr J|assumption):wpAny M A (storeName X.env x u) Q E s:=by
 obtain⟨m,hn,hl⟩:=id I.loc;have N:(X.env.scope.kind==.class ||(X.env.scope.kind==.module && X.env.locals !=X.env.globals))=false:=by rw[I.ok.kind];rfl
 have C:i<σ.length:=by rw[I.len];grind
 have K:=I.cne;have g:∀{a:Y}{L:Heap},(∃o,s.heap.get? a=some o/\H a=none)->Heap.SameBut a s.heap L->cC X.prog X.w H L:=λ{a L} ha f b ob e=>by
  obtain⟨_,_,aq⟩:=ha;refine(I.hok b ob e).stay (λc U w q=>(f.2 c ?_).trans q) (λ_ q=>q) λ_ _ q=>q
  grind
 rcases t with hk|hk;refine wpAny_storeName_local hk hn (λL ap f=>?_) N;obtain⟨oL,_,_,ah,_⟩:=id hn;refine h _ ⟨I.ok,I.os,I.bare,⟨λb o e n G t=>?_,λb o e n G t=>?_,I.base.free,λb o e t=>?_,I.base.tups,I.base.frzs,I.base.tbls⟩,⟨_,ap,λj y W l B e3=>?_⟩,λy c e=>?_,I.free,I.freeC,λp hp=>?_,g ⟨oL,ah,I.free⟩ f,by simpa using I.len⟩ ⟨_,f,.inl J⟩;exact(f.2 b (bf (cf (ax e) I.ok.above))).trans (I.base.keep b o e n G t);obtain⟨sl,l⟩:=I.base.slot b o e n G t;exact⟨sl,(f.2 b (bf (cf (ax e) I.ok.above))).trans l⟩;obtain⟨o',l⟩:=I.base.there b o e t;exact⟨o',(f.2 b (bf (cf (ax e) I.ok.above))).trans l⟩;by_cases D:j=i;subst D;rw[R]at l;cases l;rw[List.getElem?_set_self C]at B;cases B;exact⟨u,r,.inl ⟨hk,by simp⟩⟩;rw[List.getElem?_set_ne (ak D)]at B;obtain⟨Z,r',q⟩:=hl j y W l B e3;refine⟨Z,r',?_⟩;rcases q with⟨k,e⟩|⟨k,c,e,z⟩;refine .inl ⟨k,?_⟩;have:y≠x:=λe=>D (Aq hN l (e▸R))
 simp_all
 exact .inr ⟨k,c,e,z.sameBut f (K y c e)⟩;obtain⟨U,z⟩:=I.cell y c e;exact⟨U,z.sameBut f (K y c e)⟩;obtain⟨e,n,P,nf,d⟩:=I.pin p hp;exact⟨(f.2 p.1 P).trans e,n,P,nf,d⟩;have F:X.fn x=true:=by simp_all
 obtain⟨c,w⟩:=I.ok.has x (.inl hk);obtain⟨U,z⟩:=I.cell x c w;refine wpAny_storeName_cell I.ok.kind hk w z (λL aw f=>?_);obtain⟨oc,aa,ay⟩:=id z;refine h {s with heap:=L} ⟨I.ok,I.os,I.bare,⟨λb o e n G t=>?_,λb o e n G t=>?_,I.base.free,λb o e t=>?_,I.base.tups,I.base.frzs,I.base.tbls⟩,⟨m,hn.sameBut f (ak (K x c w)),λj y W l B e3=>?_⟩,λy S e=>?_,I.free,I.freeC,λp hp=>?_,g ⟨oc,aa,I.freeC x c w⟩ f,by simpa using I.len⟩ ⟨c,f,.inr w⟩;exact(f.2 b (bf (cf (ax e) (I.ok.cab x c F w)))).trans (I.base.keep b o e n G t);obtain⟨sl,l⟩:=I.base.slot b o e n G t;exact⟨sl,(f.2 b (bf (cf (ax e) (I.ok.cab x c F w)))).trans l⟩;obtain⟨o',l⟩:=I.base.there b o e t;exact⟨o',(f.2 b (bf (cf (ax e) (I.ok.cab x c F w)))).trans l⟩;by_cases D:j=i;subst D;rw[R]at l;cases l;rw[List.getElem?_set_self C]at B;cases B;exact⟨u,r,.inr ⟨.inl hk,c,w,aw⟩⟩;rw[List.getElem?_set_ne (ak D)]at B;obtain⟨Z,r',q⟩:=hl j y W l B e3;refine⟨Z,r',?_⟩;rcases q with q|⟨k,S,e,z'⟩;exact .inl q;refine .inr ⟨k,S,e,z'.sameBut f ?_⟩;rintro rfl;exact D (Aq hN l (I.ok.inj _ _ _ e w▸R));by_cases av:S=c
 grind
 obtain⟨w2,z2⟩:=I.cell y S e;exact⟨w2,z2.sameBut f av⟩;obtain⟨e,n,P,nf,d⟩:=I.pin p hp;refine⟨(f.2 p.1 ?_).trans e,n,P,nf,d⟩
 grind
theorem Kl{M:Model}(I:Inv X pins σ H s)(d:X.N.Nodup)(b:X.N[i]?=some x)(a:Loc X.env.scope x)(r:yq v u)(h:∀s',Inv X pins (σ.set i (some v)) H s'->Q () s') (c:X.fn x=true\/X.env.scope.names.lookup x=some .local:=by first|exact .inl J|exact .inr J|assumption):wpAny M A (storeName X.env x u) Q E s:=
 BC I d b a r (λs' e _=>h s' e) c
theorem Inv.call'{a:Shared}(I:Inv X pins σ H s)(f:a.os=s.os)(u:Un (fW X.stack) ch H H' s.heap a.heap)(hok:cC X.prog X.w H' a.heap)(g:AllBare a.gens)(d:∀b∈ch,(b∈X.ex\/X.s₀.heap.objs.size<=b)/\b≠X.env.locals/\(∀x c,X.env.cells.lookup x=some c->c≠b)/\∀p∈X.pn++pins,p.1≠b):Inv X pins σ H' a:=by obtain⟨j,k,l,h,i⟩:=a;have e:=f;subst e;exact I.call u hok g d
end
abbrev XK:=Value->Option Addr->Hp->Prop
abbrev St:=List (Option V)
abbrev VK:=V->Hp->Prop
abbrev TE:=St->Hp->VK->Prop
abbrev TT:=St->Hp->(Bool->Hp->Prop)->Prop
abbrev TA:=St->Hp->(List V->Hp->Prop)->Prop
structure Ends where
 nx:St->Hp->Prop
 rt:VK
 bk:St->Hp->Prop:=λ_ _=>False
 ct:St->Hp->Prop:=λ_ _=>False
variable{X:Cx}{c e:Expr}{L1:List Stmt}{aD:Pos}{σ:St}{Q:Value->Shared->Prop}
abbrev TS:=Ends->St->Hp->Prop
abbrev Ends.sq(D:Ends)(u:TS):Ends:={D with nx:=u D}
abbrev Ends.lp(D:Ends)(N:St->Hp->Prop):Ends:={D with nx:=N,ct:=N,bk:=D.nx}
abbrev Ends.of(Q:VK):Ends:={nx:=λ_ H'=>Q .non H',rt:=Q}
inductive EP(X:Cx)(pins:List (Addr×Obj))(σ:St)(Q:VK)(u:Value)(s':Shared):Prop|mk:∀v H',Inv X pins σ H' s'->yq v u->Q v H'->EP X pins σ Q u s'
inductive TP(X:Cx)(pins:List (Addr×Obj))(σ:St)(Q:Bool->Hp->Prop)(b:Bool)(s':Shared):Prop|mk:∀H',Inv X pins σ H' s'->Q b H'->TP X pins σ Q b s'
inductive AP(X:Cx)(pins:List (Addr×Obj))(σ:St)(Q:List V->Hp->Prop)(us:List Value)(s':Shared):Prop|mk:∀vs H',Inv X pins σ H' s'->yu vs us->Q vs H'->AP X pins σ Q us s'
def SP(X:Cx)(B:List (Addr×Obj))(D:Ends)(f:Flow)(U:Shared):Prop:=match f with|.next=>∃σ' H',Inv X B σ' H' U/\D.nx σ' H'|.brk=>∃σ' H',Inv X B σ' H' U/\D.bk σ' H'|.cont=>∃σ' H',Inv X B σ' H' U/\D.ct σ' H'|.ret u=>∃v σ' H',Inv X B σ' H' U/\yq v u/\D.rt v H'
def PE(X:Cx)(e:Expr)(t:TE):Prop:=∀(pins:List (Addr×Obj))(s:Shared)(σ:St)(H:Hp)(Q:VK),Inv X pins σ H s->t σ H Q->wpAny (model X.prog X.w) X.A (eval e X.env) (EP X pins σ Q) X.xe s
def PT(X:Cx)(e:Expr)(t:TT):Prop:=∀(pins:List (Addr×Obj))(s:Shared)(σ:St)(H:Hp)(Q:Bool->Hp->Prop),Inv X pins σ H s->t σ H Q->wpAny (model X.prog X.w) X.A (isTrue e X.env (eval e X.env)) (TP X pins σ Q) X.xe s
def PW(X:Cx)(e:Expr)(t:TT):Prop:=∀(B:Sem Value)(pins:List (Addr×Obj))(s:Shared)(σ:St)(H:Hp)(Q:Bool->Hp->Prop),Inv X pins σ H s->t σ H Q->wpAny (model X.prog X.w) X.A (isTrue e X.env B) (TP X pins σ Q) X.xe s
theorem PW.pt{t:TT}(h:PW X e t):PT X e t:=h _
def PA(X:Cx)(es:List Expr)(t:TA):Prop:=∀(aD:Pos)(pins:List (Addr×Obj))(s:Shared)(σ:St)(H:Hp)(Q:List V->Hp->Prop),Inv X pins σ H s->t σ H Q->wpAny (model X.prog X.w) X.A (spliced (backTo aD (starEach es X.env))) (AP X pins σ Q) X.xe s
def PS(X:Cx)(st:Stmt)(t:TS):Prop:=∀(pins:List (Addr×Obj))(s:Shared)(σ:St)(H:Hp)(D:Ends),Inv X pins σ H s->t D σ H->wpAny (model X.prog X.w) X.A (exec st X.env) (SP X pins D) X.xe s
def eE(X:Cx)(st:List Stmt)(t:TS):Prop:=∀(pins:List (Addr×Obj))(s:Shared)(σ:St)(H:Hp)(D:Ends),Inv X pins σ H s->t D σ H->wpAny (model X.prog X.w) X.A (execs st X.env) (SP X pins D) X.xe s
theorem aF{b:Type}{t:Sem b}{Q c:b->Shared->Prop}{M:Model}(h:wpAny M A t Q E s)(d:∀a s,Q a s->c a s):wpAny M A t c E s:=db h d λ_ _ x=>x
section
def oV:Option (Option V)->(V->Prop)->Prop|some (some v),f=>f v|_,_=>False
theorem xO{o:Option (Option V)}{f:V->Prop}(h:oV o f):∃v,o=some (some v)/\f v:=by match o,h with|some (some v),h=>exact⟨v,J,h⟩
theorem Dn{o:Option (Option V)}{f:V->Prop}(e:o=some (some v))(h:f v):oV o f:=by rw[e];exact h
def Jq(i:Nat)(B:St)(H:Hp)(Q:VK):Prop:=oV B[i]? λv=>Q v H
def tC(v:V):TE:=λ_ H Q=>Q v H
theorem DZ(q:X.N[i]?=some x)(k:m9 X.env.scope x)(d:(x==("__debug__":Str))=false:=by decide)(f:(x==("__classdict__":Str))=false:=by decide):PE X (.Name x aD) (Jq i):=by
 intro b s j H Q I h;replace h:=xO h;obtain⟨v,e,h⟩:=h;obtain⟨m,n,p⟩:=I.loc;obtain⟨u,r,l⟩:=p i x v q e k;have fin:EP X b j Q u s:=⟨v,H,I,r,h⟩
 rcases l with⟨hk,o⟩|⟨hk,c,g,a⟩;exact wpAny_Name (wpAny_loadName_local I.ok.kind hk n o fin) d;rcases hk with hk|hk;exact wpAny_Name (wpAny_loadName_cell I.ok.kind hk g a fin) d;exact wpAny_Name (wpAny_loadName_free I.ok.kind hk g a fin f) d
theorem zh{i j a}:PE X (.Constant (.int i) j a) (tC (.int i)):=λ_ _ _ H _ I h=>wpAny_Constant_int ⟨.int i,H,I.tok _,⟨_,J⟩,h⟩
theorem wn{b j a}:PE X (.Constant (.bool b) j a) (tC (.bl b)):=λ_ _ _ H _ I h=>Constant_bool ⟨.bl b,H,I,J,h⟩
theorem Wt{j a}:PE X (.Constant .none j a) (tC .non):=λ_ _ _ H _ I h=>Constant_none ⟨.non,H,I,J,h⟩
theorem zy{x j a}:PE X (.Constant (.str x) j a) (tC (.str x)):=λ_ _ _ H _ I h=>Calls.Constant_str ⟨.str x,H,I.tok _,⟨_,J⟩,h⟩
def Gl(X:Cx)(x:Str):Prop:=X.env.kindOf x=some .globalImplicit
theorem ud(I:Inv X pins σ H s)(b:Gl X x)(a:X.mg x=some u)(h:Q u s)(c:(x==("__debug__":Str))=false:=by decide):wpAny (model X.prog X.w) X.A (eval (.Name x aD) X.env) Q E s:=
 Calls.Name_function_global I.ok.kind b (Calls.loadGlobal_global (by rw[I.ok.glob];exact I.mod.glob.keeps I.bk) a h) c
theorem Yz(I:Inv X pins σ H s)(d:Gl X x)(c:X.mg x=none)(a:bootBuiltins x=some u)(h:Q u s)(b:x≠"__name__":=by decide) (e:(x==("__debug__":Str))=false:=by decide):wpAny (model X.prog X.w) X.A (eval (.Name x aD) X.env) Q E s:=by obtain⟨i,g,f⟩:=I.mod.blt;exact Calls.Name_function_global I.ok.kind d (Calls.loadGlobal_builtin (by rw[I.ok.glob];exact I.mod.glob.keeps I.bk) c (by rw[I.ok.blt];exact g.keeps I.bk) ((f x b).trans a) h) e
theorem zH(b:Gl X x)(a:X.mg x=some u)(r:yq v u)(c:(x==("__debug__":Str))=false:=by decide):PE X (.Name x aD) (tC v):=λ_ _ _ H _ I h=>ud I b a ⟨v,H,I,r,h⟩ c
theorem EY(d:Gl X x)(c:X.mg x=none)(a:bootBuiltins x=some u)(r:yq v u)(b:x≠"__name__":=by decide)(e:(x==("__debug__":Str))=false:=by decide):PE X (.Name x aD) (tC v):=λ_ _ _ H _ I h=>Yz I d c a ⟨v,H,I,r,h⟩ b e
variable{a b:Expr}{ta tb:TE}
def PC(X:Cx)(U:CmpOp)(a b:Expr)(t:TE):Prop:=
 ∀ (pins:List (Addr×Obj)) (s:Shared) (σ:St) (H:Hp) (Q:VK),Inv X pins σ H s->t σ H Q->
   wpAny (model X.prog X.w) X.A (eval a X.env) (λv B=>wpAny (model X.prog X.w) X.A (eval b X.env) (λu s₂=>wpAny (model X.prog X.w) X.A (compareOp U v u) (EP X pins σ Q) X.xe s₂) X.xe B) X.xe s
theorem Ap(b:Expr){a:CmpOp}(h:a≠ .In)(e:a≠ .NotIn):behindInMarks a b=false:=by
 have d:(a==CmpOp.In)=false:=by simp_all
 have c:(a==CmpOp.NotIn)=false:=by simp_all
 cases b<;>simp[behindInMarks,d,c]
def vQ(ta:TE):TE:=λσ H Q=>ta σ H λx H1=>Q (.bl (decide (x=.non))) H1
def Dd(ta:TE):TE:=λσ H Q=>ta σ H λx H1=>Q (.bl (!decide (x=.non))) H1
theorem yq.none_iff{x:V}{v:Value}(r:yq x v):(v==Value.none)=decide (x=.non):=by cases x with|non=>cases r;rfl|bl _=>cases r;rfl|int _=>obtain⟨t,rfl⟩:=r;rfl|str _=>obtain⟨t,rfl⟩:=r;rfl|byt _=>obtain⟨t,rfl⟩:=r;rfl|flt _=>obtain⟨t,rfl⟩:=r;rfl|ref _=>cases r;rfl|ty _=>cases r;rfl
theorem nO{j g}(f:PE X a ta):PC X .Is a (.Constant .none j g) (vQ ta):=by intro b s c H Q I h;refine aF (f b s c H _ I h) λv l ⟨x,k,i,d,e⟩=>?_;exact Constant_none (is_none_gen ⟨.bl _,k,i,by rw[d.none_iff];rfl,e⟩)
theorem zG{j g}(f:PE X a ta):PC X .IsNot a (.Constant .none j g) (Dd ta):=by intro b s c H Q I h;refine aF (f b s c H _ I h) λv l ⟨x,k,i,d,e⟩=>?_;exact Constant_none (isnot_none_gen ⟨.bl _,k,i,by rw[d.none_iff];rfl,e⟩)
inductive BP(Q:Bool->Hp->Prop)(x:V)(H1:Hp):Prop|mk:∀c,x=.bl c->Q c H1->BP Q x H1
def tB(t:TE):TT:=λσ H Q=>t σ H λx H1=>BP Q x H1
theorem sL{d:CmpOp}{t:TE}(h:PC X d a b t)(g:behindInMarks d b=false:=by first|exact Ap _ (by decide) (by decide)|rfl):PE X (.Compare a [d] [b] aD) t:=λc s e H Q I f=>wpAny_Compare1 (h c s e H Q I f) g
theorem Xf{f:CmpOp}{t:TE}(h:PC X f a b t)(g:behindInMarks f b=false:=by first|exact Ap _ (by decide) (by decide)|rfl):PT X (.Compare a [f] [b] aD) (tB t):=by intro e s i H Q I l;refine wpAny_isTrue_Compare1 (aF (h e s i H _ I l) λv w g=>aF g λu r m=>aF m λc p ⟨x,o,n,j,k⟩=>?_) g;obtain⟨d,rfl,q⟩:=k;cases j;exact wpAny_truthy_bool ⟨o,n,q⟩
theorem y6{t:TE}(h:PE X e t)(he:∀a,isTrue e X.env a=(do let v<-a;standAt e.pos;holding [v] (truthy v)):=by intro _;rfl):PT X e (tB t):=by intro b s c H Q I i;refine isTrue_plain (aF (h b s c H _ I i) λv l ⟨x,k,j,f,g⟩=>?_) (he _);obtain⟨d,rfl,q⟩:=g;cases f;exact wpAny_truthy_bool ⟨k,j,q⟩
variable{tA qL:TT}{Zk:List Expr}
def CT(t u:TT):TT:=λσ H Q=>t σ H λc H1=>if c=true then u σ H1 Q else Q false H1
def LX(t u:TT):TT:=λσ H Q=>t σ H λc H1=>if c=true then Q true H1 else u σ H1 Q
def Cp(t:TT):TT:=λσ H Q=>t σ H λc H1=>Q (!c) H1
theorem Vt(f:PT X a tA):PW X (.BoolOp .And [a] aD) tA:=by intro g b s d H Q I h;refine isTrue_and (aF (f b s d H Q I h) λc i e=>?_);cases c with|true=>exact isTrue_and_nil e|false=>exact e
theorem j3(f:PT X a tA):PW X (.BoolOp .Or [a] aD) tA:=by intro g b s d H Q I h;refine isTrue_or (aF (f b s d H Q I h) λc i e=>?_);cases c with|false=>exact isTrue_or_nil e|true=>exact e
theorem Xe(m:PT X a tA)(l:PW X (.BoolOp .And (b::Zk) aD) qL):PW X (.BoolOp .And (a::b::Zk) aD) (CT tA qL):=by intro j d s e H Q I h;refine isTrue_and (aF (m d s e H _ I h) λc k ⟨i,g,f⟩=>?_);cases c with|true=>exact l j d k e i Q g f|false=>exact⟨i,g,f⟩
theorem Zt(m:PT X a tA)(l:PW X (.BoolOp .Or (b::Zk) aD) qL):PW X (.BoolOp .Or (a::b::Zk) aD) (LX tA qL):=by intro j d s e H Q I h;refine isTrue_or (aF (m d s e H _ I h) λc k ⟨i,g,f⟩=>?_);cases c with|true=>exact⟨i,g,f⟩|false=>exact l j d k e i Q g f
theorem xb(e:PT X a tA):PT X (.UnaryOp .Not a aD) (Cp tA):=by intro b s d H Q I h;exact isTrue_not (aF (e b s d H (λc f=>Q (!c) f) I h) λ_ _ ⟨g,i,q⟩=>⟨g,i,q⟩)
inductive gO(tb:TE)(σ:St)(Q:VK)(x:V)(H1:Hp):Prop|mk:∀c,x=.bl c->(if c=true then tb σ H1 Q else Q (.bl false) H1)->gO tb σ Q x H1
def C5(ta tb:TE):TE:=λσ H Q=>ta σ H λx H1=>gO tb σ Q x H1
inductive jY(tb:TE)(σ:St)(Q:VK)(x:V)(H1:Hp):Prop|mk:∀c,x=.bl c->(if c=true then Q (.bl true) H1 else tb σ H1 Q)->jY tb σ Q x H1
def Cq(ta tb:TE):TE:=λσ H Q=>ta σ H λx H1=>jY tb σ Q x H1
inductive gu(Q:VK)(x:V)(H1:Hp):Prop|mk:∀c,x=.bl c->Q (.bl (!c)) H1->gu Q x H1
def De(ta:TE):TE:=λσ H Q=>ta σ H λx H1=>gu Q x H1
theorem j6{d}{t:TE}(h:PE X a t):PE X (.BoolOp d [a] aD) t:=λb s c H Q I e=>BoolOp_one (h b s c H Q I e)
theorem ku(m:PE X a ta)(l:PE X (.BoolOp .And (b::Zk) aD) tb):PE X (.BoolOp .And (a::b::Zk) aD) (C5 ta tb):=by intro d s f H Q I h;refine BoolOp_and (aF (m d s f H _ I h) λv j ⟨x,i,g,k,e⟩=>?_);obtain⟨c,rfl,e⟩:=e;cases k;refine wpAny_truthy_bool ?_;cases c with|true=>exact l d j f i Q g e|false=>exact⟨.bl false,i,g,J,e⟩
theorem pR(m:PE X a ta)(l:PE X (.BoolOp .Or (b::Zk) aD) tb):PE X (.BoolOp .Or (a::b::Zk) aD) (Cq ta tb):=by intro d s f H Q I h;refine BoolOp_or (aF (m d s f H _ I h) λv j ⟨x,i,g,k,e⟩=>?_);obtain⟨c,rfl,e⟩:=e;cases k;refine wpAny_truthy_bool ?_;cases c with|false=>exact l d j f i Q g e|true=>exact⟨.bl true,i,g,J,e⟩
theorem xK(g:PE X a ta):PE X (.UnaryOp .Not a aD) (De ta):=by intro b s e H Q I h;refine UnaryOp_ (aF (g b s e H _ I h) λv k ⟨x,j,i,f,d⟩=>?_);obtain⟨c,rfl,d⟩:=d;cases f;exact not_of (wpAny_truthy_bool ⟨.bl (!c),j,i,J,d⟩)
def LY(t:TT)(ta tb:TE):TE:=λσ H Q=>t σ H λc H1=>if c=true then ta σ H1 Q else tb σ H1 Q
theorem Yi(l:PT X c tA)(n:PE X a ta)(m:PE X b tb):PE X (.IfExp c a b aD) (LY tA ta tb):=by intro e s f H Q I h;refine wpAny_IfExp (aF (l e s f H _ I h) λd g ⟨k,j,i⟩=>?_);cases d with|true=>exact n e g f k Q j i|false=>exact m e g f k Q j i
end
def aI(K:W.Frag)(H:Hp)(a:Addr)(xs:List V):Prop:=
 Rd H a (.lst xs)\/
  ∃(o:Obj)(its:Array Value)(n:Nat),K.lookup a=some o/\o.cls=.type "list"/\o.dict=none/\o.data=.seq its n/\its.size<=sizeLine/\yu xs its.toList
def aE(K:W.Frag)(H:Hp)(a:Addr)(xs:List V):Prop:=
 Rd H a (.tup xs)\/
  ∃(o:Obj)(its:Array Value)(n:Nat),K.lookup a=some o/\o.cls=.type "tuple"/\o.data=.seq its n/\its.size<=sizeLine/\yu xs its.toList
noncomputable def CH:Value->Option V|.none=>some .non|.bool b=>some (.bl b)|.int i _=>some (.int i)|.str x _=>some (.str x)|.bytes b _=>some (.byt b)|.float b _=>some (.flt b)|.ref a=>some (.ref a)|.type n=>some (.ty n)|_=>none
theorem yq.abs{x:V}(r:yq x u):CH u=some x:=by cases x with|non=>cases r;rfl|bl _=>cases r;rfl|int _=>obtain⟨t,rfl⟩:=r;rfl|str _=>obtain⟨t,rfl⟩:=r;rfl|byt _=>obtain⟨t,rfl⟩:=r;rfl|flt _=>obtain⟨t,rfl⟩:=r;rfl|ref _=>cases r;rfl|ty _=>cases r;rfl
theorem yq.inj{x y:V}{u:I}(r:yq x u)(q:yq y u):x=y:=Option.some.inj (r.abs.symm.trans q.abs)
theorem yu.inj:∀{xs a:List V}{b:List Value},yu xs b->yu a b->xs=a|_,_,_,.nil,.nil=>rfl|_,_,_,.cons r t,.cons d c=>by rw[r.inj d,yu.inj t c]
section
variable{xs ys:List V}
theorem aI.of{K:W.Frag}(h:H a=some (.lst xs)):aI K H a xs:=.inl (.inl h)
theorem aE.of{K:W.Frag}(h:H a=some (.tup xs)):aE K H a xs:=.inl (.inl h)
theorem Inv.list(I:Inv X pins σ H s)(h:aI X.K H a xs):∃its:O Value,yu xs its/\PlainL s.heap a its.toArray/\xs.length<=sizeLine:=by
 rcases h with h|⟨o,its,n,hk,c,b,f,d,r⟩;obtain⟨z,its,n,r,e⟩:=h.ok I.hok;exact⟨its,r,⟨_,n,e,J,J,J⟩,z⟩;refine⟨its.toList,r,⟨o,n,I.kIn a o hk,c,b,by omega⟩,?_⟩;have e:=r.length
 simp_all
theorem Inv.tuple(I:Inv X pins σ H s)(h:aE X.K H a xs):∃its:O Value,yu xs its/\IsTup s.heap a its.toArray/\xs.length<=sizeLine:=by
 rcases h with h|⟨o,its,n,hk,b,d,c,r⟩;obtain⟨z,its,r,p,_⟩:=h.ok I.hok
 grind
 refine⟨its.toList,r,⟨o,I.kIn a o hk,b,n,by omega⟩,?_⟩;have e:=r.length
 simp_all
theorem Inv.list_inj(I:Inv X pins σ H s)(h:aI X.K H a xs)(h':aI X.K H a ys):xs=ys:=by
 obtain⟨b,r,⟨o,n,e,_,_,d⟩,_⟩:=I.list h;obtain⟨i,g,⟨j,k,c,_,_,f⟩,_⟩:=I.list h';rw[e]at c;cases c;rw[d]at f;injection f with l _;have:b=i:=by simp_all
 subst this;exact r.inj g
theorem Inv.tuple_inj(I:Inv X pins σ H s)(h:aE X.K H a xs)(h':aE X.K H a ys):xs=ys:=by
 obtain⟨b,r,⟨o,e,_,n,d⟩,_⟩:=I.tuple h;obtain⟨i,g,⟨j,c,_,k,f⟩,_⟩:=I.tuple h';rw[e]at c;cases c;rw[d]at f;injection f with l _;have:b=i:=by simp_all
 subst this;exact r.inj g
end
abbrev Cx.wish(X:Cx)(E:Value->Shared->Prop):Cx:={X with xe:=E}
abbrev Cx.nox(X:Cx):Cx:=X.wish λ_ _=>False
theorem Cx.Ok.wish{X:Cx}(a:X.Ok)(E:I->Shared->Prop):(X.wish E).Ok:=⟨a.mod,a.kind,a.glob,a.blt,a.above,a.inj,a.has,a.cab,a.hd,a.frames,a.stk,a.exf,a.bs,a.bsz,a.noex,a.exfs,a.funs,a.frf⟩
theorem Cx.Ok.unwish(a:(X.wish E).Ok):X.Ok:=⟨a.mod,a.kind,a.glob,a.blt,a.above,a.inj,a.has,a.cab,a.hd,a.frames,a.stk,a.exf,a.bs,a.bsz,a.noex,a.exfs,a.funs,a.frf⟩
section
theorem Inv.wish(I:Inv X pins σ H s)(E:Value->Shared->Prop):Inv (X.wish E) pins σ H s:=⟨I.ok.wish E,I.os,I.bare,I.base,I.loc,I.cell,I.free,I.freeC,I.pin,I.hok,I.len⟩
theorem Inv.unwish(I:Inv (X.wish E) pins σ H s):Inv X pins σ H s:=⟨I.ok.unwish,I.os,I.bare,I.base,I.loc,I.cell,I.free,I.freeC,I.pin,I.hok,I.len⟩
theorem SP.unwish{D:Ends}{f:Flow}{c:Shared}(h:SP (X.wish E) pins D f c):SP X pins D f c:=by cases f with|next=>obtain⟨a,b,I,q⟩:=h;exact⟨a,b,I.unwish,q⟩|brk=>obtain⟨a,b,I,q⟩:=h;exact⟨a,b,I.unwish,q⟩|cont=>obtain⟨a,b,I,q⟩:=h;exact⟨a,b,I.unwish,q⟩|ret u=>obtain⟨v,a,b,I,r,q⟩:=h;exact⟨v,a,b,I.unwish,r,q⟩
theorem eE.nox{st:O Stmt}{t:TS}(h:eE X.nox st t):eE X st t:=λa s b H D I c=>db (h a s b H D (I.wish _) c) (λ_ _ q=>q.unwish) λ_ _ z=>False.elim z
end
section
variable{st:Stmt}{Zk:List Stmt}{t u:TS}{te:TE}
def pU:TS:=λD σ H=>D.nx σ H
def pK(t u:TS):TS:=λD σ H=>t (D.sq u) σ H
theorem zn:eE X [] pU:=λ_ _ a H _ I h=>wpAny_execs_nil ⟨a,H,I,h⟩
theorem zb(g:PS X st t)(e:eE X Zk u):eE X (st::Zk) (pK t u):=by intro a s c H D I h;refine wpAny_execs_cons (aF (g a s c H (D.sq u) I h) λf d q=>?_);cases f with| next=>obtain⟨b,j,i,q⟩:=q;exact e a d b j D i q|ret v=>exact q|brk=>exact q|cont=>exact q
theorem zf(c:PS X st t):eE X [st] t:=by intro a s b H D I h;refine wpAny_execs_cons (aF (c a s b H D I h) λf d q=>?_);cases f with|next=>exact wpAny_execs_nil q|ret v=>exact q|brk=>exact q|cont=>exact q
theorem Inv.quiet(I:Inv X pins σ H s):interactive X.env=false:=by simp[interactive,I.ok.kind]
def C8(B:TE):TS:=λD σ H=>B σ H λ_ H1=>D.nx σ H1
theorem we(he:PE X e te)(d:swapsWith e none aD.line X.env=pure false:=by rfl):PS X (.Expr e aD) (C8 te):=by intro a s b H D I h;exact wpAny_Expr_any (aF (he a s b H _ I h) λv i ⟨x,g,f,j,c⟩=>⟨b,g,f,c⟩) I.quiet d
def Cr(B:TE):TS:=λD σ H=>B σ H D.rt
theorem zj(he:PE X e te):PS X (.Return (some e) aD) (Cr te):=by intro a s b H D I h;exact wpAny_Return_some (aF (he a s b H _ I h) λv i ⟨x,g,f,c,d⟩=>⟨x,b,g,f,c,d⟩)
def pJ(c:TT)(t u:TS):TS:=λD σ H=>c σ H λb H1=>if b=true then t D σ H1 else u D σ H1
theorem yg{a b:List Stmt}{g:TT}(m:PT X c g)(o:eE X a t)(n:eE X b u):PS X (.If c a b aD) (pJ g t u):=by intro e s f H D I h;refine wpAny_If (aF (m e s f H _ I h) λd i ⟨l,k,j⟩=>?_);cases d with|true=>exact o e i f l D k j|false=>exact n e i f l D k j
def xZ:TS:=λ_ _ _=>False
theorem Ze:PS X st xZ:=λ_ _ _ _ _ _ h=>h.elim
theorem yy:eE X L1 xZ:=λ_ _ _ _ _ _ h=>h.elim
end
abbrev TG:=V->St->Hp->(St->Hp->Prop)->Prop
variable{es:List Expr}{fg:List Stmt}{cK:Pos}{te:TE}
abbrev nh:=List V->St->Hp->(St->Hp->Prop)->Prop
def PG(X:Cx)(B:Expr)(t:TG):Prop:=
 ∀ (pins:List (Addr×Obj)) (s:Shared) (σ:St) (H:Hp) (v:V) (u:Value) (Q:St->Hp->Prop),Inv X pins σ H s->yq v u->t v σ H Q->
   wpAny (model X.prog X.w) X.A (assign B X.env u) (λ_ s'=>∃σ' H',Inv X pins σ' H' s'/\Q σ' H') X.xe s
def qX(X:Cx)(B:List Expr)(t:nh):Prop:=
 ∀ (pins:List (Addr×Obj)) (s:Shared) (σ:St) (H:Hp) (vs:List V) (us:List Value) (Q:St->Hp->Prop),Inv X pins σ H s->yu vs us->t vs σ H Q->
   wpAny (model X.prog X.w) X.A (assignInOrder ((assignEach B X.env).map (·.2)) us) (λ_ s'=>∃σ' H',Inv X pins σ' H' s'/\Q σ' H') X.xe s
abbrev nz:=V->V->V->Hp->(Hp->Prop)->Prop
def rD(X:Cx)(t:nz):Prop:=
 ∀ (pins:List (Addr×Obj)) (s:Shared) (σ:St) (H:Hp) (o i v:V) (ov B u:Value) (Q:Hp->Prop),Inv X pins σ H s->yq o ov->yq i B->yq v u->t o i v H Q->
   wpAny (model X.prog X.w) X.A (setItem ov B u) (λ_ s'=>∃H',Inv X pins σ H' s'/\Q H') X.xe s
abbrev pi:=V->V->Hp->VK->Prop
def qV(X:Cx)(B:Operator)(t:pi):Prop:=
 ∀ (pins:List (Addr×Obj)) (s:Shared) (σ:St) (H:Hp) (x y:V) (v u:Value) (Q:VK),Inv X pins σ H s->yq x v->yq y u->t x y H Q->
   wpAny (model X.prog X.w) X.A (inplaceOp B v u) (EP X pins σ Q) X.xe s
section
def km(i:Nat):TG:=λv σ H Q=>Q (σ.set i (some v)) H
theorem zk(e:X.N.Nodup)(c:X.N[i]?=some x:=by rfl)(b:Loc X.env.scope x:=by first|exact Or.inl J|exact Or.inr J|assumption)(d:X.fn x=true\/X.env.scope.names.lookup x=some .local:=by first|exact .inl J|exact .inr J|assumption):PG X (.Name x aD) (km i):=by intro a s g H v u Q I r h;exact wpAny_assign_Name (Kl I e c b r (λj f=>⟨_,H,f,h⟩) d)
def mJ:nh:=λvs σ H Q=>vs=[]/\Q σ H
inductive bY(t:TG)(u:nh)(vs:List V)(σ:St)(H:Hp)(Q:St->Hp->Prop):Prop|mk:∀v r,vs=v::r->(t v σ H λσ' H'=>u r σ' H' Q)->bY t u vs σ H Q
theorem ql:qX X [] mJ:=by intro a s b H c d Q I r h;obtain⟨e,h⟩:=h;subst e;cases r;exact assignInOrder_nil ⟨b,H,I,h⟩
theorem yn{t:TG}{u:nh}(k:PG X e t)(j:qX X es u)(i:(assignEach (e::es) X.env).map (·.2)=assign e X.env::(assignEach es X.env).map (·.2):=by rfl):qX X (e::es) (bY t u):=by intro a s c H o q Q I r h;obtain⟨v,p,l,h⟩:=h;subst l;cases r with| cons r f=>rw[i];refine assignInOrder_cons (aF (k a s c H _ _ _ I r h) λ_ d ⟨b,n,m,g⟩=>?_);exact j a d b n _ _ Q m f g
inductive fe(K:W.Frag)(n:Nat)(t:nh)(v:V)(σ:St)(H:Hp)(Q:St->Hp->Prop):Prop|mk:∀a xs,v=.ref a->aE K H a xs->xs.length=n->t xs σ H Q->fe K n t v σ H Q
theorem jw{k:Nat}{t:nh}{n:Nat}(y:X.calm=true)(h:qX X es t)(w:(assignEach es X.env).length=n:=by rfl) (f:(assignEach es X.env).findIdx? (·.1)=none:=by rfl):PG X (.Tuple es k aD) (fe X.K n t):=by intro c s g H v u Q I r d;obtain⟨a,i,z,q,x,d⟩:=d;subst z;cases r;obtain⟨l,j,p,B⟩:=I.tuple q;refine assign_Tuple_tuple (I.ok.hd y) p (by simp[w,<-x,j.length]) f λC m=>?_;have A:=I.kept (t':=s.toks) λb o e=>m b o (bf (ax e)) e;exact h c _ g H i _ Q A (by omega) d
def CK(to B:TE)(t:nz):TG:=λv σ H Q=>to σ H λo H1=>B σ H1 λi H2=>t o i v H2 λU=>Q σ U
theorem D0{o i:Expr}{to d:TE}{t:nz}(p:PE X o to)(q:PE X i d)(n:rD X t)(w:∀v,assign (.Subscript o i aD) X.env v=(do
   let ov<-holding [v] (eval o X.env);let b<-holding [v,ov] (eval i X.env)
   standAt aD
   holding [v,ov,b] (setItem ov b v)
   release [v,ov,b] []):=by intro _;rfl):PG X (.Subscript o i aD) (CK to d t):=by intro a s c H v u Q I r h;rw[w];refine a4 (wpAny_holding (aF (p a s c H _ I h) λov f ⟨x,E,B,j,m⟩=>?_));refine a4 (wpAny_holding (aF (q a f c E _ B m) λb e ⟨y,D,A,g,l⟩=>?_));refine a4 (wpAny_standAt (a4 (wpAny_holding (aF (n a e c D x y v ov b u _ A j g r l) λ_ F ⟨C,z,k⟩=>?_))));exact wpAny_release ⟨c,C,z,k⟩
def nD(B:TE)(g:TG):TS:=λD σ H=>B σ H λx H1=>g x σ H1 D.nx
theorem sP{b:Expr}{g:TG}(he:PE X e te)(l:PG X b g)(k:swapsWithSole [b] e aD.line X.env=pure false:=by rfl)(j:swappedStores [b] e X.env=pure none:=by rfl)
  (m:(assignEach [b] X.env).map (·.2)=[assign b X.env]:=by rfl):PS X (.Assign [b] e aD) (nD te g):=by intro a s c H D I h;refine wpAny_Assign_stores (aF (he a s c H _ I h) λv d ⟨x,o,n,f,i⟩=>?_) k j;rw[m];exact aF (l a d c o x v _ n f i) λ_ p q=>q
theorem zr(l:X.N.Nodup)(he:PE X e te)(j:X.N[i]?=some x:=by rfl)(f:Loc X.env.scope x:=by first|exact Or.inl J|exact Or.inr J|assumption)(g:swapsWith e (some (.Name x cK)) aD.line X.env=pure false:=by rfl)(k:X.fn x=true\/X.env.scope.names.lookup x=some .local:=by first|exact .inl J|exact .inr J|assumption):PS X (.Assign [.Name x cK] e aD) (nD te (km i)):=by intro a s b H D I h;refine wpAny_Assign_Name (aF (he a s b H _ I h) λv q ⟨y,o,n,c,d⟩=>?_) g;exact Kl n l j f c (λp m=>⟨_,o,m,d⟩) k
def Ck(i:Nat)(Z:TE)(U:pi)(D:Ends)(B:St)(H:Hp):Prop:=oV B[i]? λx=>(Z B H λy H1=>U x y H1 λz H2=>D.nx (B.set i (some z)) H2)
theorem xX{j:Operator}{p:pi}(P:X.N.Nodup)(q:X.N[i]?=some x)(n:Loc X.env.scope x)(he:PE X e te)(F:qV X j p)(M:X.fn x=true\/X.env.scope.names.lookup x=some .local:=by first|exact .inl J|exact .inr J|assumption):PS X (.AugAssign (.Name x cK) j e aD) (Ck i te p):=by
 intro a s o H D I h;replace h:=xO h;obtain⟨v,Q,h⟩:=h;obtain⟨m,G,L⟩:=I.loc;have g:m9 X.env.scope x:=by rcases n with k|k;exact .inl k;exact .inr (.inl k)
 obtain⟨u,r,l⟩:=L i x v q Q g;refine wpAny_AugAssign_Name ?_;have go:wpAny (model X.prog X.w) X.A (eval e X.env) (λw f=>wpAny (model X.prog X.w) X.A (inplaceOp j u w) (λr d=>wpAny (model X.prog X.w) X.A (storeName X.env x r) (λ_=>SP X a D .next) X.xe d) X.xe f) X.xe s:=by refine aF (he a s o H _ I h) λw t ⟨y,Z,U,B,E⟩=>?_;refine aF (F a t o Z v y u w _ U r B E) λz s2 ⟨zv,W,S,A,C⟩=>?_;exact Kl S P q n A (λs3 R=>⟨_,W,R,C⟩) M
 rcases l with⟨hk,K⟩|⟨hk,c,N,b⟩;exact wpAny_loadName_local I.ok.kind hk G K go;rcases hk with hk|hk;exact wpAny_loadName_cell I.ok.kind hk N b go;rcases n with k|k;have:X.env.scope.names.lookup x=some .free:=hk
 simp_all
 have:X.env.scope.names.lookup x=some .free:=hk
 simp_all
def C6(to ti te:TE)(U:V->V->Hp->VK->Prop)(Z:pi)(B:nz):TS:=λD σ H=>to σ H λo H1=>ti σ H1 λi H2=>U o i H2 λx H3=>te σ H3 λy H4=>Z x y H4 λz H5=>B o i z H5 λH6=>D.nx σ H6
def vD(X:Cx)(t:V->V->Hp->VK->Prop):Prop:=
 ∀ (pins:List (Addr×Obj)) (s:Shared) (σ:St) (H:Hp) (o i:V) (ov B:Value) (Q:VK),Inv X pins σ H s->yq o ov->yq i B->t o i H Q->
   wpAny (model X.prog X.w) X.A (getItem ov B) (EP X pins σ Q) X.xe s
theorem Fu{o i:Expr}{to m:TE}{d:V->V->Hp->VK->Prop}{j:pi}{c:nz}{q:Operator}{W:Pos}(Q:PE X o to)(R:PE X i m)(S:vD X d)(he:PE X e te)(hp:qV X q j)(P:rD X c)(U:∀ov g b,augStore i ov g b=(do holding [b,ov,g] (setItem ov g b);release [b,ov,g] [];pure .next):=by intros;rfl):PS X (.AugAssign (.Subscript o i W) q e aD) (C6 to m te d j c):=by intro a s f H D I h;refine wpAny_AugAssign_SubscriptAny (aF (Q a s f H _ I h) λov A ⟨l,H1,I1,p,N⟩=>?_) U;refine aF (R a A f H1 _ I1 N) λg z ⟨k,H2,I2,n,M⟩=>?_;refine aF (S a z f H2 l k ov g _ I2 p n M) λZ y ⟨u,H3,I3,E,L⟩=>?_;refine aF (he a y f H3 _ I3 L) λv x ⟨t,H4,I4,C,K⟩=>?_;refine aF (hp a x f H4 u t Z v _ I4 E C K) λb w ⟨r,H5,I5,B,G⟩=>?_;exact aF (P a w f H5 l k r ov g b _ I5 p n B G) λ_ s6 ⟨H6,I6,F⟩=>⟨f,H6,I6,F⟩
inductive BU(f:Int->Int->Int)(x y:V)(H:Hp)(Q:VK):Prop|mk:∀i j,x=.int i->y=.int j->Q (.int (f i j)) H->BU f x y H Q
theorem wY:qV X .Add (BU λi j=>i+j):=by intro a s f H x y v u Q I c b h;obtain⟨i,j,e,d,q⟩:=h;subst e;subst d;obtain⟨t,rfl⟩:=c;obtain⟨g,rfl⟩:=b;exact iadd_int ⟨.int _,H,I.tok _,⟨_,J⟩,q⟩
end
section
inductive ge(c:TT)(tb:TS)(D:Ends)(σ:St)(H:Hp):Prop|mk:∀W:Nat->St->Hp->Prop,(∃m,W m σ H)->(∀m σ H,W m σ H-> c σ H λb H1=>if b=true then∃N:St->Hp->Prop,(∀σ' H',N σ' H'->∃m',m'<m/\W m' σ' H')/\tb (D.lp N) σ H1 else D.nx σ H1)->ge c tb D σ H
theorem K7{t:TT}{tb:TS}(hp:PassesOwn (model X.prog X.w) X.A X.env X.xe)(L:PT X c t)(M:eE X fg tb):PS X (.While c fg [] aD) (ge t tb):=by
 intro d s A H D I h;obtain⟨W,⟨K,C⟩,i⟩:=h;refine wpAny_While (codeAny_whileLoop (λn G=>∃g z,Inv X d g z G/\W n g z) ?_ K ⟨A,H,I,C⟩);rintro n F ⟨e,y,P,B⟩;refine wpAny_passesOwn hp (aF (L d F e y _ P (i n e y B)) λb E ⟨x,w,l⟩=>?_);cases b with
 | true=>
   obtain⟨N,u,l⟩:=l;rw[if_pos J];refine wpAny_passesOwn hp (aF (M d E e x _ w l) λf Q k=>?_);cases f with
   | next=>obtain⟨a,j,r,o⟩:=k;obtain⟨p,q,m⟩:=u a j o;exact⟨p,q,a,j,r,m⟩
   | cont=>obtain⟨a,j,r,o⟩:=k;obtain⟨p,q,m⟩:=u a j o;exact⟨p,q,a,j,r,m⟩
   |brk=>exact k
   |ret v=>exact k
 | false=>rw[if_neg bu];exact wpAny_execs_nil ⟨e,x,w,l⟩
end
structure It where
 go:Nat->Hp->Prop
 yld:Nat->Hp->V->Hp->Prop
 stop:Nat->Hp->Prop
def Jx(X:Cx)(B:List (Addr×Obj))(H:Hp)(b:Addr):Prop:=H b=none/\b≠X.env.locals/\b ∉ X.fs/\(b∈X.ex\/X.s₀.heap.objs.size<=b)/\(∀x c,X.env.cells.lookup x=some c->c≠b)/\∀p∈X.pn++B,p.1≠b
theorem Inv.fpOk{d:Hp}(I:Inv X pins σ H s)(a:s.heap.objs.size<=b)(g:d b=none):Jx X pins d b:=by refine⟨g,dc (cf I.lt a),I.nofs a,.inr (cj I.sz a),λx c e z=>?_,λp f z=>?_⟩;obtain⟨v,q⟩:=I.cell x c e;exact absurd (cf q.lt (by simp_all)) (d9 _);exact absurd (cf (ax (I.pin p f).1) (by simp_all)) (d9 _)
structure dI(P:Program)(w:World)(K:W.Frag)(tg:Expr)(J:It)(fp:List Addr)(it:Addr)(tn:Nat->Heap->Prop):Prop where
 mem:it∈fp
 obj:∀i h,tn i h->∀b∈fp,∃o,h.get? b=some o/\∀v,o.data≠ .cell v
 keep:∀i h h',tn i h->(∀b∈fp,∀o,h.get? b=some o->h'.get? b=some o)->tn i h'
 item:∀(X:Cx),X.prog=P->X.w=w->X.K=K->X.calm=true->∀(i:Nat)(pins:List (Addr×Obj))(s:Shared)(σ:St)(H:Hp)(E:Value->Shared->Prop),Inv X pins σ H s->(∀b∈fp,Jx X pins H b)->tn i s.heap->J.go i H->
  wpAny (model P w) X.A (pyNext (.ref it)) (λr s1=>∃u,r=some u/\ wpAny (model P w) X.A (letOwnedTupleGo tg (.ref it) u) (λ_ s2=>∃x H',Inv X pins σ H' s2/\yq x u/\J.yld i H x H'/\tn (i+1) s2.heap/\∀b∈fp,H' b=none) E s1) E s
 done:∀(X:Cx),X.prog=P->X.w=w->X.K=K->X.calm=true->∀(i:Nat)(pins:List (Addr×Obj))(s:Shared)(σ:St)(H:Hp)(E:Value->Shared->Prop),Inv X pins σ H s->(∀b∈fp,Jx X pins H b)->tn i s.heap->J.stop i H->
  wpAny (model P w) X.A (pyNext (.ref it)) (λr s1=>r=none/\Inv X pins σ H s1) E s
 self:∀(A:Around)(i:Nat)(s:Shared)(Q:Value->Shared->Prop)(E:Value->Shared->Prop),tn i s.heap->Q (.ref it) s->wpAny (model P w) A (pyIter (.ref it)) Q E s
abbrev TI:=St->Hp->(It->Hp->Prop)->Prop
inductive qW(X:Cx)(pins:List (Addr×Obj))(σ:St)(tg:Expr)(R:It->Hp->Prop)(itv:Value)(s2:Shared):Prop|mk:∀(it:Addr)(fp:List Addr)(tn:Nat->Heap->Prop)(J:It)(H':Hp),itv=.ref it->Inv X pins σ H' s2->dI X.prog X.w X.K tg J fp it tn->tn 0 s2.heap->(∀b∈fp,Jx X pins H' b)->R J H'->qW X pins σ tg R itv s2
variable{C dx:Addr}{osl:Array (Option Value)}{D:Ends}{env:Env}{l tg aY:Expr}{fd:FuncData}{base:Heap}{H':Hp}{lo:Int}{pl:List (Addr×Obj)}{kvs:List (aM×V)}{fp:List Addr}{outer:List Env}{ks:List aM}{ns ps:List Str}{vs xs:List V}{ds its us:List Value}{o:Option Value}{apos p:Pos}{prog:Program}{R:Result->Shared->Prop}{sc scope:Scope}{f m name qual:Str}{mA mg:Str->Option Value}{id:String}{ta tl tv:TE}{g:TG}{tb:TS}{y:V}{r:Value}
def PI(X:Cx)(U cA:Expr)(B:TI):Prop:=
 ∀ (pins:List (Addr×Obj)) (s:Shared) (σ:St) (H:Hp) (R:It->Hp->Prop),Inv X pins σ H s->B σ H R->
   wpAny (model X.prog X.w) X.A (eval cA X.env) (λv Z=>wpAny (model X.prog X.w) X.A (pyIter v) (qW X pins σ U R) X.xe Z) X.xe s
theorem dS{M:Model}{b:Y}{o:Obj}{n:String}{vs:Array I}{Q:Unit->Shared->Prop}(c:s.heap.get? b=some o)(f:o.cls=.type n)(e:o.data=.fields vs)
  (d:["enumerate","zip","dict_itemiterator","dict_reverseitemiterator","odict_iterator","itertools.zip_longest","itertools.pairwise"].contains n=false) (a:Q () s):wpAny M A (letOwnedTupleGo tg (.ref b) u) Q E s:=by
 unfold letOwnedTupleGo;cases tg<;>first
  |exact a9 a
  |(cases u<;>first
   |exact a9 a
   | (refine a4 (wpAny_load c ?_)
      rw[f,e];show wpAny M A (if(["enumerate","zip","dict_itemiterator","dict_reverseitemiterator","odict_iterator","itertools.zip_longest","itertools.pairwise"].contains n && vs[0]?==some (rawInt _))=true then _ else _) Q E s;rw[if_neg (by intro h;rw[d,Bool.false_and]at h;cases h)];exact a9 a))
noncomputable def re(K:W.Frag)(a:Addr):It:=⟨λi H=>∃xs x,aI K H a xs/\xs[i]?=some x,λi H x H'=>H'=H/\∀xs,aI K H a xs->xs[i]?=some x,λi H=>∃xs,aI K H a xs/\xs.length<=i⟩
noncomputable def nj(K:W.Frag)(a:Addr):It:=⟨λi H=>∃xs x,aE K H a xs/\xs[i]?=some x,λi H x H'=>H'=H/\∀xs,aE K H a xs->xs[i]?=some x,λi H=>∃xs,aE K H a xs/\xs.length<=i⟩
noncomputable def np(lo:Int)(n:Nat):It:=⟨λi _=>i<n,λi H x H'=>H'=H/\x=.int (lo+i),λi _=>n<=i⟩
theorem IC{K:W.Frag}(a f:Y):dI P w K tg (re K a) [f] f (λi h=>h.IsListIter f a i) where
 mem:=by simp
 obj:=λi h st b g=>by
  have e:b=f:=by simp_all
  subst e;obtain⟨o,e,c,d⟩:=st
  simp_all
 keep:=λi h M st k=>st.at λo e=>k f (by simp) o e
 item:=by intro X y t z L i l s N H E I n st v;subst y t z;obtain⟨Q,x,m,G⟩:=v;obtain⟨r,q,p,U⟩:=I.list m;obtain⟨u,hu,S⟩:=q.get G;obtain⟨F,D,f2,C,B,A⟩:=n f (by simp);refine wpAny_pyNext_list_item st p.isList (by simpa using hu) λM j R=>?_;have I1:=I.turned (t':=s.toks) (λb o g e=>(R.2 b g).trans e) F D C B A;obtain⟨o,e,c,d⟩:=id j;exact⟨u,J,dS e c d (by rfl) ⟨x,H,I1,S,⟨J,λys Z=>by rw[I.list_inj Z m];omega⟩,j,λb g=>(n b g).1⟩⟩
 done:=by intro X y t z L i l s N H E I n st v;subst y t z;obtain⟨Q,m,G⟩:=v;obtain⟨r,q,p,U⟩:=I.list m;obtain⟨F,D,f2,C,B,A⟩:=n f (by simp);have hl:=q.length;exact wpAny_pyNext_list_end (I.ok.hd L) st p.isList (by simp_all) λM eb=>⟨J,I.turned (λb o g e=>eb b o g e) F D C B A⟩
 self:=λ_ _ _ _ _ st h=>wpAny_pyIter_listiter st h
theorem JY{K:W.Frag}(a f:Y):dI P w K tg (nj K a) [f] f (λi h=>h.IsTupleIter f a i) where
 mem:=by simp
 obj:=λi h st b g=>by
  have e:b=f:=by simp_all
  subst e;obtain⟨o,e,c,d⟩:=st
  simp_all
 keep:=λi h M st k=>st.at λo e=>k f (by simp) o e
 item:=by intro X y t z L i l s N H E I n st v;subst y t z;obtain⟨Q,x,m,G⟩:=v;obtain⟨r,q,p,U⟩:=I.tuple m;obtain⟨u,hu,S⟩:=q.get G;obtain⟨F,D,f2,C,B,A⟩:=n f (by simp);refine wpAny_pyNext_tuple_item st (p) (by simpa using hu) λM j R=>?_;have I1:=I.turned (t':=s.toks) (λb o g e=>(R.2 b g).trans e) F D C B A;obtain⟨o,e,c,d⟩:=id j;exact⟨u,J,dS e c d (by rfl) ⟨x,H,I1,S,⟨J,λys Z=>by rw[I.tuple_inj Z m];omega⟩,j,λb g=>(n b g).1⟩⟩
 done:=by intro X y t z L i l s N H E I n st v;subst y t z;obtain⟨Q,m,G⟩:=v;obtain⟨r,q,p,U⟩:=I.tuple m;obtain⟨F,D,f2,C,B,A⟩:=n f (by simp);have hl:=q.length;exact wpAny_pyNext_tuple_end (I.ok.hd L) st (p) (by simp_all) λM eb=>⟨J,I.turned (λb o g e=>eb b o g e) F D C B A⟩
 self:=λ_ _ _ _ _ st h=>wpAny_pyIter_tupleiter st h
theorem JX{K:W.Frag}(c:Y)(lo:Int)(n:Nat):dI P w K tg (np lo n) [c] c (λi h=>IsRangeIter h c (lo+(i:Nat)*1) ((n:Int)-(i:Nat)) 1) where
 mem:=by simp
 obj:=λi h st b f=>by simp_all
 keep:=λi h r st k=>k c (by simp) _ st
 item:=by intro X p j q m i a s B H E I g st l;subst p j q;obtain⟨A,z,G,y,x,u⟩:=g c (by simp);have W:=Walks.range (prog:=X.prog) (w:=X.w) (I.ok.hd m) c lo 1 n;refine W.item i s _ _ l st λv r C F d D=>?_;obtain⟨t,rfl⟩:=F;have M:Inv X a B H {s with heap:=r,toks:=C}:=I.turned (λb o f e=>D b o (by simp_all) e) A z y x u;refine⟨_,J,dS d J J (by rfl) ⟨.int (lo+i),H,M,⟨t,?_⟩,⟨J,J⟩,d,λb f=>(g b f).1⟩⟩;rw[Int.mul_one]
 done:=by intro X p j q m i a s B H E I g st l;subst p j q;obtain⟨A,z,G,y,x,u⟩:=g c (by simp);exact wpAny_pyNext_range_end (I.ok.hd m) st (by have:n<=i:=l;omega) λr L=>⟨J,I.turned (λb o f e=>L b o f e) A z y x u⟩
 self:=λ_ _ _ _ _ st h=>wpAny_pyIter_rangeiter st h
section
inductive iA(K:W.Frag)(R:It->Hp->Prop)(x:V)(H1:Hp):Prop|mk:∀a,x=.ref a->(∃xs,aI K H1 a xs)->R (re K a) H1->iA K R x H1
def Dh(K:W.Frag)(B:TE):TI:=λσ H R=>B σ H λx H1=>iA K R x H1
inductive kY(K:W.Frag)(R:It->Hp->Prop)(x:V)(H1:Hp):Prop|mk:∀a,x=.ref a->(∃xs,aE K H1 a xs)->R (nj K a) H1->kY K R x H1
def CM(K:W.Frag)(B:TE):TI:=λσ H R=>B σ H λx H1=>kY K R x H1
theorem vy(hl:PE X l tl):PI X tg l (Dh X.K tl):=by
 intro c s g H R I h;refine aF (hl c s g H _ I h) λv f ⟨x,n,d,i,j⟩=>?_;obtain⟨a,e,⟨r,m⟩,q⟩:=j;subst e;cases i;obtain⟨k,t,p,u⟩:=d.list m;refine wpAny_pyIter_list p.isList ?_;refine⟨f.heap.objs.size,[f.heap.objs.size],_,_,n,J,d.kept λb o e=>au _ e,IC a _,⟨_,bq _ J,J,J⟩,λb w=>?_,q⟩;have e:b=f.heap.objs.size:=by simp_all
 subst e;exact d.fpOk (ag _) (d.hok.fresh (ag _))
theorem j5(hl:PE X l tl):PI X tg l (CM X.K tl):=by
 intro c s g H R I h;refine aF (hl c s g H _ I h) λv f ⟨x,n,d,i,j⟩=>?_;obtain⟨a,e,⟨r,m⟩,q⟩:=j;subst e;cases i;obtain⟨k,t,p,u⟩:=d.tuple m;refine wpAny_pyIter_tuple (p) ?_;refine⟨f.heap.objs.size,[f.heap.objs.size],_,_,n,J,d.kept λb o e=>au _ e,JY a _,⟨_,bq _ J,J,J⟩,λb w=>?_,q⟩;have e:b=f.heap.objs.size:=by simp_all
 subst e;exact d.fpOk (ag _) (d.hok.fresh (ag _))
theorem Aw{R:It->Hp->Prop}{a:Int}{t u v:Tok}{d:Nat}(I:Inv X pins σ H s)(i: -(2^62)<=lo)(h:lo<2^62)(g: -(2^62)<=a)(f:a<2^62)(q:R (np lo (a-lo).toNat) H):wpAny (model X.prog X.w) X.A (pyIter (.ref s.heap.objs.size)) (qW X pins σ tg R) E {s with heap:=s.heap.push {cls:=.type "range",data:=.fields #[.int lo t,.int a u,.int 1 v]},toks:=d}:=by
 refine wpAny_pyIter_range (IsRange.new ..) (small_one i h g f) ?_;have c:Inv X pins σ H {s with heap:=s.heap.push {cls:=.type "range",data:=.fields #[.int lo t,.int a u,.int 1 v]},toks:=d}:=I.kept λb o e=>au _ e;refine⟨(s.heap.push {cls:=.type "range",data:=.fields #[.int lo t,.int a u,.int 1 v]}).objs.size,[(s.heap.push {cls:=.type "range",data:=.fields #[.int lo t,.int a u,.int 1 v]}).objs.size],_,_,H,J,c.kept λb o e=>au _ e,JX _ lo (a-lo).toNat,?_,λb l=>?_,q⟩
 have k:lo+((0:Nat))*1=lo:=by simp
 have j:((a-lo).toNat:Int)-((0:Nat))=Builtin.Range.rangeSize lo a 1:=by rw[rangeSize_one];omega
 rw[k,j];exact bq _ J;have e:b=(s.heap.push {cls:=.type "range",data:=.fields #[.int lo t,.int a u,.int 1 v]}).objs.size:=by simp_all
 subst e;exact c.fpOk (ag _) (c.hok.fresh (ag _))
inductive ir(R:It->Hp->Prop)(vs:List V)(H1:Hp):Prop|mk:∀j:Int,vs=[.int j]-> -(2^62)<=j->j<2^62->R (np 0 j.toNat) H1->ir R vs H1
def Di(ta:TA):TI:=λσ H R=>ta σ H λvs H1=>ir R vs H1
inductive ip(R:It->Hp->Prop)(vs:List V)(H1:Hp):Prop|mk:∀i j:Int,vs=[.int i,.int j]->(-(2^62)<=i/\i<2^62/\ -(2^62)<=j/\j<2^62)->R (np i (j-i).toNat) H1->ip R vs H1
def Dj(ta:TA):TI:=λσ H R=>ta σ H λvs H1=>ip R vs H1
theorem wm{a:Expr}{ta:TA}(m:Gl X "range")(l:X.mg "range"=none)(n:PA X [a] ta)(k:starEach [a] X.env=[(false,eval a X.env)]:=by rfl):PI X tg (.Call (.Name "range" p) [a] [] aD) (Di ta):=by intro b s d H R I h;refine Call_ (Yz I m l boot_range (PyProof.Rows.callWith_type1 (aF (n aD b s d H _ I h) λv w ⟨u,x,o,g,c⟩=>?_) k J));obtain⟨j,e,c,i,q⟩:=c;subst e;cases g with| cons r f=>cases f;obtain⟨t,rfl⟩:=r;exact call_range_1 (Aw o (by omega) (by omega) c i (by simp_all))
theorem HY{a b:Expr}{ta:TA}(x:Gl X "range")(w:X.mg "range"=none)(y:PA X [a,b] ta)(v:starEach [a,b] X.env=[(false,eval a X.env),(false,eval b X.env)]:=by rfl)(d:starEach [b] X.env=[(false,eval b X.env)]:=by rfl):PI X tg (.Call (.Name "range" p) [a,b] [] aD) (Dj ta):=by intro c s k H R I h;refine Call_ (Yz I x w boot_range (PyProof.Rows.callWith_type1 (aF (y aD c s k H _ I h) λB D ⟨A,E,z,l,g⟩=>?_) (by rw[v,d]) (by rw[d];rfl)));obtain⟨i,j,e,⟨g,u,o,n⟩,q⟩:=g;subst e;cases l with| cons r f=>cases f with| cons m f=>cases f;obtain⟨t,rfl⟩:=r;obtain⟨C,rfl⟩:=m;exact call_range_2 (Aw z g u o n q)
inductive cG(g:TG)(tb:TS)(D:Ends)(σ:St)(J:It)(H1:Hp):Prop|mk:∀W:Nat->Nat->St->Hp->Prop,(∃m,W 0 m σ H1)->(∀i m σ H,W i m σ H-> (J.stop i H/\D.nx σ H)\/(J.go i H/\∃N:St->Hp->Prop,(∀σ' H',N σ' H'->∃m',m'<m/\W (i+1) m' σ' H')/\∀x H',J.yld i H x H'->g x σ H' λσ2 H2=>tb (D.lp N) σ2 H2))->cG g tb D σ J H1
def Cm(B:TI)(g:TG)(tb:TS):TS:=λD σ H=>B σ H λJ H1=>cG g tb D σ J H1
noncomputable def nP(B:List Addr)(h:Heap):List (Addr×Obj):=B.filterMap λb=>(h.get? b).map λo=>(b,o)
theorem Yy{o:Obj}(a:b∈fp)(e:h.get? b=some o):(b,o)∈nP fp h:=List.mem_filterMap.mpr ⟨b,a,by rw[e];rfl⟩
theorem Iv{p:Addr×Obj}(hp:p∈nP fp h):p.1∈fp/\h.get? p.1=some p.2:=by obtain⟨b,a,e⟩:=List.mem_filterMap.mp hp;cases q:h.get? b with|none=>simp_all| some o=>grind
theorem Inv.pinned(I:Inv X pins σ H s)(c:∀b∈fp,Jx X pins H b)(f:∀b∈fp,∃o,s.heap.get? b=some o/\∀v,o.data≠ .cell v):Inv X (pins++nP fp s.heap) σ H s:=
 I.pins_of λp a=>(c4.mp a).elim (λz=>I.pin p (d7 _ z)) λz=>by
  obtain⟨d,e⟩:=Iv z;obtain⟨i,h,g,_⟩:=c p.1 d
  grind
theorem Inv.unpinned(I:Inv X (pins++pl) σ H s):Inv X pins σ H s:=I.pins_of λp a=>I.pin p (d7 _ (dj _ a))
theorem wa{S:Expr}{wi:TI}(hp:PassesOwn (model X.prog X.w) X.A X.env X.xe)(hc:X.calm=true)(hi:PI X tg S wi)(hg:PG X tg g)(p:eE X fg tb)(hs:∀x,foldedSetIterable S X.env x=pure x:=by intro _;rfl):PS X (.For tg S fg [] aD) (Cm wi g tb):=by
 intro c s Z H D I h;refine wpAny_For (aF (hi c s Z H _ I h) λv s1 h1=>aF h1 λaa s2 h2=>?_) hs;obtain⟨it,G,tn,J,H2,e,I2,T,M,f2,W,⟨m0,w0⟩,A⟩:=h2;subst e;have l:∀{w:Hp},(∀b∈G,w b=none)->∀b∈G,Jx X c w b:=λhn b p=>⟨hn b p,(f2 b p).2⟩
 refine codeAny_forLoop_any (λn s'=>∃i k w,Inv X c k w s'/\tn i s'.heap/\(∀b∈G,w b=none)/\W i n k w) ?_ m0 ⟨0,Z,H2,I2,M,λb p=>(f2 b p).1,w0⟩;rintro n s3 ⟨i,j,K,I3,C,F,w3⟩;rcases A i n j K w3 with⟨B,qn⟩|⟨go,N,hN,step⟩;refine wpAny_passesOwn hp (aF (T.done X rfl rfl rfl hc i c s3 j K X.xe I3 (l F) C B) λr s4 ⟨Q,I4⟩=>?_);subst Q;exact wpAny_execs_nil ⟨j,K,I4,qn⟩
 . refine wpAny_passesOwn hp (aF (T.item X rfl rfl rfl hc i c s3 j K X.xe I3 (l F) C go) λr s4 ⟨u,Q,h4⟩=>?_);subst Q;refine wpAny_passesOwn hp (aF h4 λ_ s5 ⟨x,H5,I5,r5,y5,z,R⟩=>?_);have U:=I5.pinned (l R) (T.obj _ _ z);refine wpAny_passesOwn hp (aF (hg _ s5 j H5 x u _ U r5 (step x H5 y5)) λ_ s6 ⟨L,H6,I6,q6⟩=>?_);refine wpAny_passesOwn hp (aF (p _ s6 L H6 _ I6 q6) λf P y=>?_);have again:∀{a:St} {t:Hp},Inv X (c++nP G s5.heap) a t P->N a t->∃m,m<n/\∃i k w,Inv X c k w P/\tn i P.heap/\(∀b∈G,w b=none)/\W i m k w:=λ{a t} q E=>by obtain⟨m',hm,w7⟩:=hN a t E;refine⟨m',hm,i+1,a,t,q.unpinned,T.keep _ _ _ z λb p o e=>(q.pin (b,o) (d7 _ (d7 _ (Yy p e)))).1,λb p=>?_,w7⟩;obtain⟨o,e,d⟩:=T.obj _ _ z b p;exact(q.pin (b,o) (d7 _ (d7 _ (Yy p e)))).2.1
   cases f with|next=>obtain⟨a,t,q,E⟩:=y;exact again q E|cont=>obtain⟨a,t,q,E⟩:=y;exact again q E|brk=>obtain⟨a,t,q,y⟩:=y;exact⟨a,t,q.unpinned,y⟩|ret v=>obtain⟨x7,a,t,q,r7,y⟩:=y;exact⟨x7,a,t,q.unpinned,r7,y⟩
end
theorem kf{K:W.Frag}(Pv:Nat->St->Hp->Prop)(h0:Pv 0 σ H)(hl:∀i σ H,i<=xs.length->Pv i σ H->aI K H a xs)(l:∀i x σ H,xs[i]?=some x->Pv i σ H->g x σ H λb H2=>tb (D.lp (Pv (i+1))) b H2) (j:∀σ H,Pv xs.length σ H->D.nx σ H):
  cG g tb D σ (re K a) H:=by
 refine⟨λi m σ H=>m=xs.length-i/\i<=xs.length/\Pv i σ H,⟨xs.length,by simp,bj _,h0⟩,?_⟩;rintro i m σ H ⟨rfl,h,p⟩;have q:=hl i σ H h p;by_cases c:i<xs.length;refine .inr ⟨⟨xs,xs[i],q,by simp⟩,Pv (i+1),λd k f=>⟨xs.length-(i+1),by omega,J,c,f⟩,λx k y=>?_⟩;obtain⟨e,y⟩:=y
 grind
 have e:i=xs.length:=by omega
 subst e;exact .inl ⟨⟨xs,q,ag _⟩,j σ H p⟩
theorem X5{K:W.Frag}(Pv:Nat->St->Hp->Prop)(h0:Pv 0 σ H)(hl:∀i σ H,i<=xs.length->Pv i σ H->aE K H a xs)(l:∀i x σ H,xs[i]?=some x->Pv i σ H->g x σ H λb H2=>tb (D.lp (Pv (i+1))) b H2) (j:∀σ H,Pv xs.length σ H->D.nx σ H):
  cG g tb D σ (nj K a) H:=by
 refine⟨λi m σ H=>m=xs.length-i/\i<=xs.length/\Pv i σ H,⟨xs.length,by simp,bj _,h0⟩,?_⟩;rintro i m σ H ⟨rfl,h,p⟩;have q:=hl i σ H h p;by_cases c:i<xs.length;refine .inr ⟨⟨xs,xs[i],q,by simp⟩,Pv (i+1),λd k f=>⟨xs.length-(i+1),by omega,J,c,f⟩,λx k y=>?_⟩;obtain⟨e,y⟩:=y
 grind
 have e:i=xs.length:=by omega
 subst e;exact .inl ⟨⟨xs,q,ag _⟩,j σ H p⟩
theorem Zn{n:Nat}(Pv:Nat->St->Hp->Prop)(h0:Pv 0 σ H)(j:∀i σ H,i<n->Pv i σ H->g (.int (lo+i)) σ H λb H2=>tb (D.lp (Pv (i+1))) b H2) (f:∀σ H,Pv n σ H->D.nx σ H):
  cG g tb D σ (np lo n) H:=by
 refine⟨λi m σ H=>m=n-i/\i<=n/\Pv i σ H,⟨n,by simp,bj _,h0⟩,?_⟩;rintro i m σ H ⟨rfl,k,p⟩;by_cases a:i<n;refine .inr ⟨a,Pv (i+1),λc h d=>⟨n-(i+1),by omega,J,a,d⟩,λx h y=>?_⟩;obtain⟨e,y⟩:=y
 simp_all
 have e:i=n:=by omega
 subst e;exact .inl ⟨ag _,f σ H p⟩
abbrev R2:=V->V->Hp->VK->Prop
def cE(X:Cx)(f:Value->Value->Sem Value)(r:R2):Prop:=
 ∀ (pins:List (Addr×Obj)) (s:Shared) (σ:St) (H:Hp) (x y:V) (v u:Value) (Q:VK),Inv X pins σ H s->yq x v->yq y u->r x y H Q->
   wpAny (model X.prog X.w) X.A (f v u) (EP X pins σ Q) X.xe s
def uO(X:Cx)(f:Value->Sem Value)(r:V->Hp->VK->Prop):Prop:=
 ∀ (pins:List (Addr×Obj)) (s:Shared) (σ:St) (H:Hp) (x:V) (v:Value) (Q:VK),Inv X pins σ H s->yq x v->r x H Q->
   wpAny (model X.prog X.w) X.A (f v) (EP X pins σ Q) X.xe s
def jp(X:Cx)(f:Value)(r:List V->Hp->VK->Prop):Prop:=
 ∀ (pins:List (Addr×Obj)) (s:Shared) (σ:St) (H:Hp) (xs:List V) (us:List Value) (Q:VK),Inv X pins σ H s->yu xs us->r xs H Q->
   wpAny (model X.prog X.w) X.A (call f us) (EP X pins σ Q) X.xe s
def CG(X:Cx)(r:V->Hp->(Bool->Hp->Prop)->Prop):Prop:=
 ∀ (pins:List (Addr×Obj)) (s:Shared) (σ:St) (H:Hp) (x:V) (v:Value) (Q:Bool->Hp->Prop),Inv X pins σ H s->yq x v->r x H Q->
   wpAny (model X.prog X.w) X.A (truthy v) (TP X pins σ Q) X.xe s
def qJ(r:R2)(ta tb:TE):TE:=λσ H Q=>ta σ H λx H1=>tb σ H1 λy H2=>r x y H2 Q
def LV(r:V->Hp->VK->Prop)(ta:TE):TE:=λσ H Q=>ta σ H λx H1=>r x H1 Q
inductive rI(C:Int->Int->Prop)(g:Int->Int->V)(x y:V)(H:Hp)(Q:VK):Prop|mk:∀i j,x=.int i->y=.int j->C i j->Q (g i j) H->rI C g x y H Q
inductive jM(g:Int->Int->V)(x y:V)(H:Hp)(Q:VK):Prop|mk:∀i j,x=.int i->y=.int j->Q (g i j) H->jM g x y H Q
inductive rU(g:Int->V)(x:V)(H:Hp)(Q:VK):Prop|mk:∀i,x=.int i->Q (g i) H->rU g x H Q
section
variable{a b:Expr}{tb tc:TE}
theorem rF(j:PE X a ta)(i:PE X b tb){R:V->V->Hp->Prop}(I:Inv X pins σ H s)(h:ta σ H λx H1=>tb σ H1 λy H2=>R x y H2) {f:Value->Value->Sem Value}
  (o:∀v u d x y H2,Inv X pins σ H2 d->yq x v->yq y u->R x y H2->wpAny (model X.prog X.w) X.A (f v u) Q X.xe d):
  wpAny (model X.prog X.w) X.A (eval a X.env) (λv c=>wpAny (model X.prog X.w) X.A (eval b X.env) (λu s₂=>wpAny (model X.prog X.w) X.A (f v u) Q X.xe s₂) X.xe c) X.xe s:=by
 refine aF (j pins s σ H _ I h) λv e ⟨x,H1,k,m,g⟩=>?_;refine aF (i pins e σ H1 _ k g) λu d ⟨y,H2,p,l,n⟩=>?_
 grind
theorem yk{d:Operator}{r:R2}(j:cE X (binaryOp d) r)(l:PE X a ta)(k:PE X b tb):PE X (.BinOp a d b aD) (qJ r ta tb):=by intro c s e H Q I h;exact wpAny_BinOp (rF l k I h λv u f x y n m i g q=>j c f e n x y v u Q m i g q)
theorem rX{d:UnaryOp}{r:V->Hp->VK->Prop}(i:uO X (unaryOp d) r)(j:PE X a ta):PE X (.UnaryOp d a aD) (LV r ta):=by intro b s c H Q I h;exact UnaryOp_ (aF (j b s c H _ I h) λv e ⟨x,l,k,f,g⟩=>i b e c l x v Q k f g)
theorem qN{f:Value->Value->Sem Value}{C:Int->Int->Prop}{g:Int->Int->Int}(rule:∀(i j:Int)(t u:Tok)(s:Shared)(Q:Value->Shared->Prop)(E:Value->Shared->Prop),C i j->Q (.int (g i j) s.toks) {s with toks:=s.toks+1}->wpAny (model X.prog X.w) X.A (f (.int i t) (.int j u)) Q E s):
  cE X f (rI C λi j=>.int (g i j)):=by intro a s k H x y v u Q I d c h;obtain⟨i,j,rfl,rfl,e,q⟩:=h;obtain⟨t,rfl⟩:=d;obtain⟨b,rfl⟩:=c;exact rule i j t b s _ _ e ⟨.int (g i j),H,I.tok _,⟨_,J⟩,q⟩
theorem vJ{f:Value->Value->Sem Value}{g:Int->Int->Int}(rule:∀(i j:Int)(t u:Tok)(s:Shared)(Q:Value->Shared->Prop)(E:Value->Shared->Prop),Q (.int (g i j) s.toks) {s with toks:=s.toks+1}->wpAny (model X.prog X.w) X.A (f (.int i t) (.int j u)) Q E s):
  cE X f (jM λi j=>.int (g i j)):=by intro a s e H x y v u Q I d c h;obtain⟨i,j,rfl,rfl,q⟩:=h;obtain⟨t,rfl⟩:=d;obtain⟨b,rfl⟩:=c;exact rule i j t b s _ _ ⟨.int (g i j),H,I.tok _,⟨_,J⟩,q⟩
theorem pH{f:Value->Value->Sem Value}{g:Int->Int->Bool}(rule:∀(i j:Int)(t u:Tok)(s:Shared)(Q:Value->Shared->Prop)(E:Value->Shared->Prop),Q (.bool (g i j)) s->wpAny (model X.prog X.w) X.A (f (.int i t) (.int j u)) Q E s):
  cE X f (jM λi j=>.bl (g i j)):=by intro a s e H x y v u Q I d c h;obtain⟨i,j,rfl,rfl,q⟩:=h;obtain⟨t,rfl⟩:=d;obtain⟨b,rfl⟩:=c;exact rule i j t b s _ _ ⟨.bl (g i j),H,I,J,q⟩
def Ci(i j:Int):Prop:=0<j/\j<1073741824
def jQ(i j:Int):Prop:=(-(2^64)<i/\i<2^64)\/(-(2^64)<j/\j<2^64)
theorem jQ.ok{i j:Int}(h:jQ i j):IntMulOk i j:=by rcases h with⟨b,a⟩|⟨b,a⟩;exact .of_left (intBits_le_64 b a);exact .of_right (intBits_le_64 b a)
theorem wr:cE X (binaryOp .Add) (jM λi j=>.int (i+j)):=vJ λ_ _ _ _ _ _ _ q=>add_int q
theorem Wu:cE X (binaryOp .Sub) (jM λi j=>.int (i-j)):=vJ λ_ _ _ _ _ _ _ q=>sub_int q
theorem qm:cE X (binaryOp .Mult) (rI jQ λi j=>.int (i*j)):=qN λ_ _ _ _ _ _ _ a q=>mul_int q a.ok
theorem Af:cE X (binaryOp .FloorDiv) (rI Ci λi j=>.int (i/j)):=qN λi j _ _ _ _ _ a q=>by have c:=a.1;have b:=a.2;exact floordiv_int (by omega) (by grind) (.inl (PyProof.noPylong_small (by omega)))
theorem Q2:cE X (binaryOp .Mod) (rI (λ_ j=>0<j) λi j=>.int (i%j)):=qN λi j _ _ _ _ _ a q=>by exact mod_int' (by omega) (by grind)
theorem E9:cE X (inplaceOp .Mult) (rI jQ λi j=>.int (i*j)):=qN λ_ _ _ _ _ _ _ a q=>imul_int q a.ok
theorem LU{f:Value->Sem Value}{g:Int->Int}(rule:∀(i:Int)(t:Tok)(s:Shared)(Q:Value->Shared->Prop)(E:Value->Shared->Prop),Q (.int (g i) s.toks) {s with toks:=s.toks+1}->wpAny (model X.prog X.w) X.A (f (.int i t)) Q E s):
  uO X f (rU λi=>.int (g i)):=by intro a s c H x v Q I b h;obtain⟨i,rfl,q⟩:=h;obtain⟨t,rfl⟩:=b;exact rule i t s _ _ ⟨.int (g i),H,I.tok _,⟨_,J⟩,q⟩
theorem tz:uO X (unaryOp .USub) (rU λi=>.int (-i)):=LU λ_ _ _ _ _ q=>neg_int q
end
noncomputable def vM:V->V->Bool|.non,.non=>true|.non,.int _=>true|.int _,.non=>true|.non,.bl _=>true|.bl _,.non=>true|.non,.str _=>true|.str _,.non=>true|.int _,.int _=>true|.bl _,.bl _=>true|.str _,.str _=>true|.byt _,.byt _=>true|.int _,.str _=>true|.str _,.int _=>true|.bl _,.str _=>true|.str _,.bl _=>true|_,_=>false
def L5:R2:=λx y H Q=>vM x y=true/\Q (.bl (decide (x=y))) H
def L4:R2:=λx y H Q=>vM x y=true/\Q (.bl (!decide (x=y))) H
theorem tF{i j:Int}:decide (V.int i=V.int j)=(i==j):=by grind
theorem xG{i j:Bool}:decide (V.bl i=V.bl j)=(i==j):=by grind
theorem yK{i j:Str}:decide (V.str i=V.str j)=(i==j):=by grind
theorem yJ{i j:Array UInt8}:decide (V.byt i=V.byt j)=(i.toList==j.toList):=by rw[Bool.eq_iff_iff];simp
section
variable{a b:Expr}{tb tc:TE}
theorem xn{Q:VK}{k a:Bool}(I:Inv X pins σ H s)(q:Q (.bl k) H)(e:k=a):EP X pins σ Q (.bool a) s:=by subst e;exact⟨.bl k,H,I,J,q⟩
theorem xz:cE X (compareOp .Eq) L5:=by
 intro e s f H x y v u Q I d a h;obtain⟨c,q⟩:=h;cases x with
 | non=>
   cases d;cases y with
   |non=>cases a;exact EqNone.eq_none_none (xn I q (by simp))
   |bl j=>cases a;exact EqNone.eq_none_bool (xn I q (by simp))
   |int j=>obtain⟨b,rfl⟩:=a;exact EqNone.eq_none_int (xn I q (by simp))
   |str j=>obtain⟨b,rfl⟩:=a;exact EqNone.eq_none_str (xn I q (by simp))
   |_=>exact absurd (c) bu
 | bl i=>
   cases d;cases y with
   |non=>cases a;exact EqNone.eq_bool_none (xn I q (by simp))
   |bl j=>cases a;exact eq_bool (xn I q xG)
   |str j=>obtain⟨b,rfl⟩:=a;exact EqMixed.eq_bool_str (xn I q (by simp))
   |_=>exact absurd (c) bu
 | int i=>
   obtain⟨t,rfl⟩:=d;cases y with
   |non=>cases a;exact EqNone.eq_int_none (xn I q (by simp))
   |int j=>obtain⟨b,rfl⟩:=a;exact eq_int (xn I q tF)
   |str j=>obtain⟨b,rfl⟩:=a;exact EqMixed.eq_int_str (xn I q (by simp))
   |_=>exact absurd (c) bu
 | str i=>
   obtain⟨t,rfl⟩:=d;cases y with
   |non=>cases a;exact EqNone.eq_str_none (xn I q (by simp))
   |bl j=>cases a;exact EqMixed.eq_str_bool (xn I q (by simp))
   |int j=>obtain⟨b,rfl⟩:=a;exact EqMixed.eq_str_int (xn I q (by simp))
   |str j=>obtain⟨b,rfl⟩:=a;exact eq_str (xn I q yK)
   |_=>exact absurd (c) bu
 | byt i=>
   obtain⟨t,rfl⟩:=d;cases y with
   |byt j=>obtain⟨b,rfl⟩:=a;exact W.eq_bytes (xn I q yJ)
   |_=>exact absurd (c) bu
 |_=>cases y<;>exact absurd (c) bu
theorem Wd:cE X (compareOp .NotEq) L4:=by
 intro e s f H x y v u Q I d a h;obtain⟨c,q⟩:=h;cases x with
 | non=>
   cases d;cases y with
   |non=>cases a;exact EqNone.ne_none_none (xn I q (by simp))
   |bl j=>cases a;exact EqNone.ne_none_bool (xn I q (by simp))
   |int j=>obtain⟨b,rfl⟩:=a;exact EqNone.ne_none_int (xn I q (by simp))
   |str j=>obtain⟨b,rfl⟩:=a;exact EqNone.ne_none_str (xn I q (by simp))
   |_=>exact absurd (c) bu
 | bl i=>
   cases d;cases y with
   |non=>cases a;exact EqNone.ne_bool_none (xn I q (by simp))
   |bl j=>cases a;exact ne_bool (xn I q (congrArg not xG))
   |str j=>obtain⟨b,rfl⟩:=a;exact EqMixed.ne_bool_str (xn I q (by simp))
   |_=>exact absurd (c) bu
 | int i=>
   obtain⟨t,rfl⟩:=d;cases y with
   |non=>cases a;exact EqNone.ne_int_none (xn I q (by simp))
   |int j=>obtain⟨b,rfl⟩:=a;exact ne_int (xn I q (congrArg not tF))
   |str j=>obtain⟨b,rfl⟩:=a;exact EqMixed.ne_int_str (xn I q (by simp))
   |_=>exact absurd (c) bu
 | str i=>
   obtain⟨t,rfl⟩:=d;cases y with
   |non=>cases a;exact EqNone.ne_str_none (xn I q (by simp))
   |bl j=>cases a;exact EqMixed.ne_str_bool (xn I q (by simp))
   |int j=>obtain⟨b,rfl⟩:=a;exact EqMixed.ne_str_int (xn I q (by simp))
   |str j=>obtain⟨b,rfl⟩:=a;exact ne_str (xn I q (congrArg not yK))
   |_=>exact absurd (c) bu
 | byt i=>
   obtain⟨t,rfl⟩:=d;cases y with
   |byt j=>obtain⟨b,rfl⟩:=a;exact W.ne_bytes (xn I q (congrArg not yJ))
   |_=>exact absurd (c) bu
 |_=>cases y<;>exact absurd (c) bu
theorem We:cE X (compareOp .Lt) (jM λi j=>.bl (decide (i<j))):=pH λ_ _ _ _ _ _ _ q=>lt_int q
theorem ly:cE X (compareOp .LtE) (jM λi j=>.bl (decide (i<=j))):=pH λ_ _ _ _ _ _ _ q=>le_int q
theorem rO:cE X (compareOp .Gt) (jM λi j=>.bl (decide (j<i))):=pH λ_ _ _ _ _ _ _ q=>gt_int q
theorem CY:cE X (compareOp .GtE) (jM λi j=>.bl (decide (j<=i))):=pH λ_ _ _ _ _ _ _ q=>ge_int q
theorem EW:cE X (compareOp .IsNot) (λx y H Q=>y=.non/\Q (.bl (!decide (x=.non))) H):=by intro b s d H x y v u Q I a c h;obtain⟨rfl,q⟩:=h;cases c;refine isnot_none_gen (xn I q ?_);cases x<;>first|(cases a;rfl)|(obtain⟨t,rfl⟩:=a;rfl)
theorem zx(b:Expr){a:CmpOp}(h:a≠ .In:=by decide)(e:a≠ .NotIn:=by decide):behindInMarks a b=false:=by
 have d:(a==CmpOp.In)=false:=by simp_all
 have c:(a==CmpOp.NotIn)=false:=by simp_all
 cases b<;>simp[behindInMarks,d,c]
theorem qg{d:CmpOp}{r:R2}(j:cE X (compareOp d) r)(m:PE X a ta)(l:PE X b tb)(k:behindInMarks d b=false):PE X (.Compare a [d] [b] aD) (qJ r ta tb):=by intro c s e H Q I h;exact wpAny_Compare1 (rF m l I h λv u f x y o n i g q=>j c f e o x y v u Q n i g q) k
inductive gp(Q:Bool->Hp->Prop)(x:V)(H':Hp):Prop|mk:∀k,x=.bl k->Q k H'->gp Q x H'
def DM(t:TE):TT:=λσ H Q=>t σ H λx H'=>gp Q x H'
theorem zo{g:CmpOp}{r:R2}(t:cE X (compareOp g) r)(B:PE X a ta)(A:PE X b tb)(w:behindInMarks g b=false):PT X (.Compare a [g] [b] aD) (DM (qJ r ta tb)):=by
 intro d s f H Q I h;refine wpAny_isTrue_Compare1 (aF (B d s f H _ I h) λv j ⟨x,K,E,n,q⟩=>aF (A d j f K _ E q) λu i ⟨y,G,D,m,p⟩=>aF (t d i f G x y v u _ D n m p) λc L ⟨z,F,C,l,k,e,o⟩=>?_) w
 subst e;cases l;exact wpAny_truthy_bool ⟨F,C,o⟩
inductive fz(r':R2)(tc:TE)(σ:St)(Q:VK)(y z:V)(H3:Hp):Prop|mk:∀k,z=.bl k->(if k=true then tc σ H3 λw' H4=>r' y w' H4 Q else Q (.bl false) H3)->fz r' tc σ Q y z H3
def D5(r U:R2)(ta tb B:TE):TE:=λσ H Q=>ta σ H λx H1=>tb σ H1 λy H2=>r x y H2 λz Z=>fz U B σ Q y z Z
theorem uw{j g:CmpOp}{r n:R2}(N:cE X (compareOp j) r)(l:cE X (compareOp g) n)(U:PE X a ta)(S:PE X b tb)(R:PE X c tc)(P:lastMarks [j,g] [b,c]=false:=by with_unfolding_all rfl):PE X (.Compare a [j,g] [b,c] aD) (D5 r n ta tb tc):=by
 intro f s i H Q I h;refine Compare_chain (aF (U f s i H _ I h) λv D ⟨x,H1,I1,G,M⟩=>chain_link (aF (S f D i H1 _ I1 M) λu C ⟨y,H2,Z,m,L⟩=>aF (N f C i H2 x y v u _ Z G m L) λd B ⟨z,q,p,F,k,e,o⟩=>?_)) P
 subst e;cases F;refine wpAny_truthy_bool ?_;cases k with|false=>exact ite_ff ⟨.bl false,q,p,J,o⟩|true=>exact ite_tt (chain_last (aF (R f B i q _ p o) λw A ⟨t,H4,W,E,K⟩=>l f A i H4 y t u w Q W m E K))
def vF(K:W.Frag)(x:V)(H:Hp)(k:Bool):Prop:=match x with|.non=>k=false|.bl b=>k=b|.int i=>k=(i !=0)|.str y=>y.length<=sizeLine/\k=((y.length:Int) !=0)|.byt y=>y.size<=sizeLine/\k=((y.size:Int) !=0)|.ref p=>(∃xs,aI K H p xs/\k= !xs.isEmpty)\/(∃xs,aE K H p xs/\k= !xs.isEmpty)\/∃kvs,H p=some (.dK kvs)/\k= !kvs.isEmpty|_=>False
theorem IN{a:Type}{kvs:O (a×V)}{vs:O (a×I)}(r:KV kvs vs):(!vs.isEmpty)= !kvs.isEmpty:=by cases r<;>rfl
theorem BJ(r:yu xs its):(!its.toArray.isEmpty)= !xs.isEmpty:=by cases r<;>simp
theorem Q4:(sizeLine:Nat)<2^63:=by rw[sizeLine_eq];decide
theorem Ee:CG X (λx H Q=>∃k,vF X.K x H k/\Q k H):=by intro o s B H x v Q I d h;obtain⟨k,e,q⟩:=h;have C:=sizeLine_eq;cases x with| non=>cases d;have a:=e;subst a;exact truthy_none ⟨H,I,q⟩| bl b=>cases d;have a:=e;subst a;exact wpAny_truthy_bool ⟨H,I,q⟩| int i=>obtain⟨t,rfl⟩:=d;have a:=e;subst a;exact P.truthy_int ⟨H,I,q⟩| str y=>obtain⟨t,rfl⟩:=d;obtain⟨z,a⟩:y.length<=sizeLine/\k=((y.length:Int) !=0):=e;subst a;exact P.truthy_str (by omega) ⟨H,I.tok _,q⟩| byt y=>obtain⟨t,rfl⟩:=d;obtain⟨z,a⟩:y.size<=sizeLine/\k=((y.size:Int) !=0):=e;subst a;exact W.truthy_bytes (by omega) ⟨H,I.tok _,q⟩| ref p=>cases d;have a:=e;rcases a with⟨w,g,a⟩|⟨w,g,a⟩|⟨f,g,a⟩;subst a;obtain⟨n,r,l,u⟩:=I.list g;have c:=r.length;exact wpAny_truthy_list l.isList (by grind) ⟨H,I.tok _,by rw[BJ r];exact q⟩;subst a;obtain⟨n,r,l,u⟩:=I.tuple g;have c:=r.length;exact truthy_tuple l (by grind) ⟨H,I.tok _,by rw[BJ r];exact q⟩;subst a;obtain⟨u,A,j,r,m⟩:f.length<=sizeLine/\(p==sysModules)=false/\∃j,KV f j/\s.heap.DictOf (ya X.prog X.w) p j:=I.hok p _ g;have c:=Paired.length r;exact wpAny_truthy_dict A m (by omega) ⟨H,I.tok _,by rw[IN r];exact q⟩|_=>exact(e).elim
theorem GP(g:PE X a ta)(he:∀b,isTrue a X.env b=(do let v<-b;standAt a.pos;holding [v] (truthy v))):PT X a (λσ H Q=>ta σ H λx H'=>∃k,vF X.K x H' k/\Q k H'):=by intro c s σ H Q I h;exact isTrue_plain (aF (g c s σ H _ I h) λv d ⟨x,j,i,e,f⟩=>Ee c d σ j x v Q i e f) (he _)
theorem jz{x:V}(r:yu [x] us):∃u,us=[u]/\yq x u:=by cases r with|cons b a=>cases a;simp_all
theorem rY{x:V}(r:yu [x,y] us):∃u a,us=[u,a]/\yq x u/\yq y a:=by cases r with| cons e c=>cases c with|cons d b=>cases b;grind
theorem Bc(c:X.calm=true):jp X (.builtin "max") (λxs H Q=>∃i j,xs=[.int i,.int j]/\Q (.int (if j>i then j else i)) H):=by
 intro b s d H xs f Q I r h;obtain⟨i,j,rfl,q⟩:=h;obtain⟨u,e,rfl,⟨t,rfl⟩,⟨l,rfl⟩⟩:=rY r;refine max_two_ints (I.ok.hd c) λm g k=>⟨_,H,I.kept k,?_,q⟩
 by_cases a:j>i;rw[if_pos a,if_pos a];exact⟨_,J⟩;rw[if_neg a,if_neg a];exact⟨_,J⟩
theorem GU(c:X.calm=true):jp X (.builtin "min") (λxs H Q=>∃i j,xs=[.int i,.int j]/\Q (.int (if j<i then j else i)) H):=by
 intro b s d H xs f Q I r h;obtain⟨i,j,rfl,q⟩:=h;obtain⟨u,e,rfl,⟨t,rfl⟩,⟨l,rfl⟩⟩:=rY r;refine min_two_ints (I.ok.hd c) λm g k=>⟨_,H,I.kept k,?_,q⟩
 by_cases a:j<i;rw[if_pos a,if_pos a];exact⟨_,J⟩;rw[if_neg a,if_neg a];exact⟨_,J⟩
end
structure fi(h:Heap)(x dx C:Addr)(mA:Str->Option Value):Prop where
 obj:h.get? x=some (W.instObj C dx)
 ns:h.Ns1 dx mA
 ne:dx≠x
theorem Iq(n:h.Ns1 dx mA):∃od,h.get? dx=some od/\∀name,W.lookIn name od=some (mA name):=by
 obtain⟨o,i,j,d,g,hk,_,f⟩:=n;refine⟨o,d,λname=>?_⟩;have e:=f name;unfold nsFind findBy at e;rw[<-Array.find?_toList]at e;unfold W.lookIn;rw[g];dsimp only;split
 simp_all
 rename_i q
 rw[q]at e;have a:i.toList.any (·.refKey)=false:=by rw[List.any_eq_false];intro y c;obtain⟨z,t,b⟩:=hk y (Array.mem_toList_iff.mp c);simp[DictEntry.refKey,b]
 simp_all
theorem fi.look{x:Y}(I:fi h x dx C mA):∃od,W.InstAt h x (W.instObj C dx) C (some od)/\∀name,W.lookIn name od=some (mA name):=
 let⟨od,a,b⟩:=Iq I.ns
 ⟨od,⟨I.obj,J,J,a⟩,b⟩
section
variable{K:W.Frag}{x f:Addr}{v:Value}
theorem EG{a:Bool}(X:K.In s.heap)(I:fi s.heap x dx C mA)(e:W.plainGet K C name=true)(hh:W.hasDictIn K C=true)(f:W.findIn K (.ref C) name=some none) (c:mA name=some v) (b:W.handedIn v=true) (h:Q v {s with toks:=s.toks+1}):
  wpAny (model prog w) A (getAttr (.ref x) name a) Q E s:=by obtain⟨g,J,d⟩:=I.look;exact W.get_value X J (W.plainGet_of e).1 (W.findObj_own hh f rfl (by rw[d,c])) b h
theorem FM{b:Sem Bool}{Q:Value×O Value->Shared->Prop}(X:K.In s.heap)(I:fi s.heap x dx C mA)(a:W.plainGet K C name=true)(i:W.findIn K (.ref C) name=some (some (.ref f))) (e:W.isFn K (.ref f)=true) (d:mA name=none) (h:Q (.ref f,[.ref x]) s):
  wpAny (model prog w) A (getMethod (.ref x) name b) Q E s:=by obtain⟨c,J,g⟩:=I.look;exact W.method_fn X J (W.plainGet_of a).1 (W.plainGet_of a).2 i (beq_iff_eq.mp e) (by show(W.lookIn name c).map (·.isSome)=some false;rw[g,d];rfl) h
theorem FB{Q:Unit->Shared->Prop}(X:K.In s.heap)(I:fi s.heap x dx C mA)(m:W.findIn K (.ref C) "__setattr__"=some (some (.builtin "object.__setattr__"))) (hp:W.plainOver K C=true) (k:W.takerIn K C name=some none) (hh:W.hasDictIn K C=true)
  (j:PySem.Within mA ns) (l:ns.length<=sizeLine)
  (h:∀h',fi h' x dx C (λy=>if y=name then some v else mA y)->Heap.SameBut dx s.heap h'->Q () {s with heap:=h',toks:=s.toks+2}):
  wpAny (model prog w) A (setAttr (.ref x) name v) Q E s:=by obtain⟨q,J,t⟩:=I.look;refine W.set_plain X J m (W.osa_open X J hp k λb=>?_);obtain⟨u,n,f⟩:=W.any_some hh;have i:=I.obj;refine a4 (a9 (a4 (a4 (wpAny_loadPart i (a4 (W.Looks.here (W.looks_clsIn X n) ?_))))));rw[f];refine a9 (a4 (a9 (a4 ?_)));refine wpAny_nsSet1 I.ns λh' c a=>?_;obtain⟨r,o,p,d,e,g⟩:=c.count (PySem.Within.cons name v j);refine a4 (wpAny_lookBehind d (by rw[e];exact pastItsLine_dict (cj g (by simp_all))) ?_);exact a9 (h _ ⟨(a.2 _ (ak I.ne)).trans I.obj,c,I.ne⟩ a)
theorem FS{vs:O I}{b:O (Str×I)}(X:K.In s.heap)(c:W.makesIn K C=true)(e:W.findIn K (.ref C) "__init__"=some (some (.ref f))) (i:W.typeIn K (.ref f)=some (.type "function"))
  (h:codeAny (model prog w) (A.under (.builtin "type.__call__" ⟨.ref C::vs,b⟩)) (.call (.ref f) ⟨.ref (s.heap.objs.size+1)::vs,b⟩) (W.InitBack (s.heap.objs.size+1) R) {s with heap:=(s.heap.push W.emptyDict).push (W.instObj C s.heap.objs.size)}):
  codeAny (model prog w) A (.call (.ref C) ⟨vs,b⟩) R s:=by obtain⟨j,g,d,t,os⟩:=s;exact W.make_core (W.makes_of X c) (W.looks_findIn X e) (λa=>W.bind_fn X a i) (.inl J) h
end
noncomputable def qr(f:Str)(v:V):List (Str×V)->List (Str×V)|[]=>[(f,v)]|(g,x)::r=>if g=f then(g,v)::r else(g,x)::qr f v r
theorem Jk(f g:Str)(v:V):∀fs:List (Str×V),(qr f v fs).lookup g=if g=f then some v else fs.lookup g
 | []=>by
   show List.lookup g [(f,v)]=_
   grind
 | (k,x)::r=>by
   have a:=Jk f g v r;rw[show qr f v ((k,x)::r)=(if k=f then(k,v)::r else(k,x)::qr f v r)from rfl]
   grind
theorem Q7(f:Str)(v:V):∀fs:List (Str×V),f∈(qr f v fs).map (·.1)/\∀g,g∈fs.map (·.1)->g∈(qr f v fs).map (·.1)
 |[]=>⟨by simp[qr],λg h=>by grind⟩
 | (k,x)::r=>by
   obtain⟨b,a⟩:=Q7 f v r;rw[show qr f v ((k,x)::r)=(if k=f then(k,v)::r else(k,x)::qr f v r)from rfl]
   grind
theorem Jl(f:Str)(v:V):∀fs:List (Str×V),(qr f v fs).length<=fs.length+1
 |[]=>by simp[qr]
 | (k,x)::r=>by
   have a:=Jl f v r;rw[show qr f v ((k,x)::r)=(if k=f then(k,v)::r else(k,x)::qr f v r)from rfl]
   grind
theorem Y3.some_of(r:Y3 (some v) o):∃u,o=some u/\yq v u:=by cases o with|none=>exact(r).elim|some u=>exact⟨u,J,r⟩
theorem Y3.none_of(r:Y3 none o):o=none:=by cases o with|none=>rfl|some u=>exact(r).elim
theorem Hu(r:yq v u):W.handedIn u=true:=by cases v with|non=>cases(r);rfl|bl b=>cases(r);rfl|int i=>obtain⟨t,e⟩:=(r);cases e;rfl|str x=>obtain⟨t,e⟩:=(r);cases e;rfl|byt b=>obtain⟨t,e⟩:=(r);cases e;rfl|flt b=>obtain⟨t,e⟩:=(r);cases e;rfl|ref a=>cases(r);rfl|ty n=>cases(r);rfl
section
variable{fs Mb:List (Str×V)}
theorem Ka(b:cC P w H h)(e:H a=some (.ins C dx fs)):∃mA,fi h a dx C mA/\(∀f,Y3 (fs.lookup f) (mA f))/\PySem.Within mA (fs.map (·.1))/\fs.length<=1000/\H dx=some (.own a):=by
 obtain⟨d,z,g,c,mA,n,r,q⟩:=(b a _ e)
 exact⟨mA,⟨c,n,g⟩,r,q,z,d⟩
end
structure fU(K:W.Frag)(C:Addr):Prop where
 pg:W.plainGet K C Str.empty=true
 hd:W.hasDictIn K C=true
 po:W.plainOver K C=true
 sa:W.findIn K (.ref C) "__setattr__"=some (some (.builtin "object.__setattr__"))
theorem fU.get{K:W.Frag}(c:fU K C)(f:Str):W.plainGet K C f=true:=c.pg
def Y4(K:W.Frag)(C:Addr)(f:Str):Prop:=W.findIn K (.ref C) f=some none
theorem Y4.taker{K:W.Frag}(n:Y4 K C f):W.takerIn K C f=some none:=by unfold W.takerIn;rw[(n)];rfl
structure iH(K:W.Frag)(C:Addr)(m:Str)(f:Addr):Prop where
 at_:W.findIn K (.ref C) m=some (some (.ref f))
 fn:W.isFn K (.ref f)=true
 kp:W.keepIn K (.ref f)=true
section
variable{fs:List (Str×V)}
theorem IM{b:Bool}(I:Inv X pins σ H s)(e:H a=some (.ins C dx fs))(c:fU X.K C)(n:Y4 X.K C f)(l:fs.lookup f=some v)(h:∀u s',Inv X pins σ H s'->yq v u->Q u s'):wpAny (model X.prog X.w) A (getAttr (.ref a) f b) Q E s:=by obtain⟨i,O,r,_,_,_⟩:=Ka I.hok e;obtain⟨u,g,d⟩:=Y3.some_of (by rw[<-l];exact r f);exact EG I.kIn O (c.get f) c.hd n g (Hu d) (h u _ (I.tok _) d)
theorem BH{g:Y}{b:Sem Bool}{Q:Value×List Value->Shared->Prop}(I:Inv X pins σ H s)(e:H a=some (.ins C dx fs))(c:fU X.K C)(k:iH X.K C m g)(l:fs.lookup m=none)(h:Q (.ref g,[.ref a]) s):wpAny (model X.prog X.w) A (getMethod (.ref a) m b) Q E s:=by obtain⟨f,O,r,_,_,_⟩:=Ka I.hok e;have d:=Y3.none_of (by rw[<-l];exact r m);exact FM I.kIn O (c.get m) k.at_ k.fn d h
theorem KM{Q:Unit->Shared->Prop}(I:Inv X pins σ H s)(e:H a=some (.ins C dx fs))(c:fU X.K C)(n:Y4 X.K C f)(hl:fs.length<1000)(k:yq y u)(h:∀s',Inv X pins σ (upd H a (.ins C dx (qr f y fs))) s'->Q () s'):wpAny (model X.prog X.w) A (setAttr (.ref a) f u) Q E s:=by
 obtain⟨B,O,r,i,_,m⟩:=Ka I.hok e;have l:(fs.map (·.1)).length<=sizeLine:=by rw[ae,sizeLine_eq];omega
 refine FB I.kIn O c.sa c.po n.taker c.hd i l λw d j=>h _ ?_;have t:∃o,w.get? dx=some o:=let⟨o,_,_,x,_⟩:=d.ns;⟨o,x⟩;refine I.write (by rw[e];exact True.intro) (.inr m) (λb q v z=>(j.2 b v).trans z) t ?_;refine⟨by rw[upd_ne O.ne];omega,?_,O.ne,d.obj,_,d.ns,λg=>?_,λg p=>?_⟩;have:=Jl f y fs;omega;rw[Jk];by_cases q:g=f;rw[if_pos q,if_pos q];exact k
 simp_all
 by_cases q:g=f;rw[q];exact(Q7 f y fs).1;refine(Q7 f y fs).2 g (i g λz=>p ?_)
 simp_all
theorem Inv.made(I:Inv X pins σ H s):Inv X pins σ (upd (upd H s.heap.objs.size (.own (s.heap.objs.size+1))) (s.heap.objs.size+1) (.ins C s.heap.objs.size []))
  {s with heap:=(s.heap.push W.emptyDict).push (W.instObj C s.heap.objs.size)}:=by
 have c:(s.heap.push W.emptyDict).get? s.heap.objs.size=some W.emptyDict:=bq s.heap J;have h:((s.heap.push W.emptyDict).push (W.instObj C s.heap.objs.size)).get? (s.heap.objs.size+1)=some (W.instObj C s.heap.objs.size):=by
  have:=bq (s.heap.push W.emptyDict) (o:=W.instObj C s.heap.objs.size) J
  rwa[dy]at this
 have g:(s.heap.push W.emptyDict).Ns s.heap.objs.size (λ_=>none):=⟨W.emptyDict,#[],_,c,J,(λe f=>absurd f (by simp)),λ_=>rfl⟩
 have i:=I.laid (o:=.own (s.heap.objs.size+1)) (t':=s.toks) (λb u q=>au _ q) (ag _) ⟨_,c⟩;refine i.laid (λb u q=>au _ q) (Nat.le_of_eq (dy _ _)) ?_;have a:s.heap.objs.size≠s.heap.objs.size+1:=bf (eq _);refine⟨by rw[upd_ne a,zd],bj _,a,h,λ_=>none,(Heap.Ns1.of_empty g).at λo q=>au _ q,λ_=>True.intro,λy d=>absurd J d⟩
theorem Er(b:attributeBase e f env (eval e env)=eval e env)(h:wpAny (model prog w) A (eval e env) (λo a=>wpAny (model prog w) A (getAttr o f true) Q E a) E s):wpAny (model prog w) A (eval (.Attribute e f aD) env) Q E s:=
 Attribute_any_ h (by rw[arm_eval_Attribute,b])
end
inductive kC(K:W.Frag)(f:Str)(Q:VK)(x:V)(H1:Hp):Prop|mk:∀a C dx fs v,x=.ref a->H1 a=some (.ins C dx fs)->fU K C->Y4 K C f->fs.lookup f=some v->Q v H1->kC K f Q x H1
def ln(K:W.Frag)(ta:TE)(f:Str):TE:=λσ H Q=>ta σ H λx H1=>kC K f Q x H1
inductive kE(K:W.Frag)(f:Str)(D:Ends)(σ:St)(y x:V)(H2:Hp):Prop|mk:∀a C dx fs,x=.ref a->H2 a=some (.ins C dx fs)->fU K C->Y4 K C f->fs.length<1000->D.nx σ (upd H2 a (.ins C dx (qr f y fs)))->kE K f D σ y x H2
def CQ(K:W.Frag)(ta B:TE)(f:Str):TS:=λD σ H=>B σ H λy H1=>ta σ H1 λx H2=>kE K f D σ y x H2
section
variable{o:Expr}{dD:Pos}
theorem zu(he:PE X e ta)(j:attributeBase e f X.env (eval e X.env)=eval e X.env):PE X (.Attribute e f aD) (ln X.K ta f):=by intro b s d H Q I h;refine Er j (aF (he b s d H _ I h) λu y ⟨x,r,p,g,a,C,A,z,v,k,m,c,n,l,q⟩=>?_);subst k;obtain rfl:u=Value.ref a:=g;exact IM p m c n l λt w o i=>⟨v,r,o,i,q⟩
theorem qb(r:PE X o ta)(m:PE X aY tv)(p:swapsWith aY (some (.Attribute o f cK)) aD.line X.env=pure false):PS X (.Assign [.Attribute o f cK] aY aD) (CQ X.K ta tv f):=by intro b s d H D I h;refine plainObj_wpAny_Assign_Attribute (aF (m b s d H _ I h) λu e ⟨y,B,A,g,q⟩=>aF (r b e d B _ A q) λk F ⟨x,L,z,i,a,C,K,G,t,v,c,n,l,j⟩=>?_) p;subst t;obtain rfl:k=Value.ref a:=i;exact KM z v c n l g λE w=>⟨d,_,w,j⟩
end
section
variable{c:Value}{b:Bool}
inductive cM(K:W.Frag)(H:Hp):V->Value->Prop where|non:cM K H .non (.type "NoneType")|bl (x:Bool):cM K H (.bl x) (.type "bool")|int (i:Int):cM K H (.int i) (.type "int")|str (x:Str):cM K H (.str x) (.type "str")|flt (x:UInt64):cM K H (.flt x) (.type "float")|lst {a:Addr} {xs:List V} (e:H a=some (.lst xs)):cM K H (.ref a) (.type "list")|frz {a:Addr} {o:Obj} {xs:List V} (e:H a=some (.frz o (.lst xs))):cM K H (.ref a) (.type "list")|tup {a:Addr} {xs:List V} (e:H a=some (.tup xs)):cM K H (.ref a) (.type "tuple")|dK {a:Addr} {kvs:List (aM×V)} (e:H a=some (.dK kvs)):cM K H (.ref a) (.type "dict")|dT {a:Addr} {kvs:List (List aM×V)} (e:H a=some (.dT kvs)):cM K H (.ref a) (.type "dict")|ins {a C dx:Addr} {fs:List (Str×V)} (e:H a=some (.ins C dx fs)) (cl:fU K C) (ha:W.findIn K (.ref C) "__class__"=some (some (.builtin "object.__class__")))
  (hn:W.specialIn K (.builtin "object.__class__") "__get__"=some (some (.builtin "getset_descriptor.__get__"))) (htk:W.takesIn K (.builtin "object.__class__")=some true)
  (hm:W.mroIn K C (.type "object")=some true):cM K H (.ref a) (.ref C)
theorem Hx{x:V}{t:Value}(I:Inv X pins σ H s)(d:yq x u)(v:cM X.K H x t)(e:W.kitOne X.K t c=some b)(h:∀tk,Q (.bool b) {s with toks:=tk}):wpAny (model X.prog X.w) A (call (.builtin "isinstance") [u,c]) Q E s:=by
 cases v with|non=>cases(d);exact W.kia_one W.kitx_none I.kIn True.intro e (λz=>nomatch z) h|bl y=>cases(d);exact W.kia_one W.kitx_bool I.kIn True.intro e (λz=>nomatch z) h|int i=>obtain⟨t,q⟩:=(d);cases q;exact W.kia_one W.kitx_int I.kIn True.intro e (λz=>nomatch z) h|str y=>obtain⟨t,q⟩:=(d);cases q;exact W.kia_one W.kitx_str I.kIn True.intro e (λz=>nomatch z) h|flt y=>obtain⟨t,q⟩:=(d);cases q;exact W.kia_one W.kitx_float I.kIn True.intro e (λz=>nomatch z) h| @lst a k f=>
   cases(d);obtain⟨_,_,n,_,g⟩:=(I.hok a _ f)
   exact W.kia_one W.kitx_list I.kIn ⟨_,g,rfl⟩ e (λz=>nomatch z) h| @frz a M k f=>
   cases(d);obtain⟨_,_,_,n,_,g⟩:=(I.hok a _ f)
   exact W.kia_one W.kitx_list I.kIn ⟨_,g,rfl⟩ e (λz=>nomatch z) h| @tup a k f=>
   cases(d);obtain⟨_,_,_,p⟩:=(I.hok a _ f)
   obtain⟨⟨o,g,j,_⟩,_⟩:=p;exact W.kia_one W.kitx_tuple I.kIn ⟨o,g,j⟩ e (λz=>nomatch z) h| @dK a l f=>
   cases(d);obtain⟨_,_,K,_,p⟩:=(I.hok a _ f)
   obtain⟨o,F,G,g,j,_⟩:=p;exact W.kia_one W.kitx_dict I.kIn ⟨o,g,j.1⟩ e (λz=>nomatch z) h| @dT a l f=>
   cases(d);obtain⟨_,_,k,_,o,F,G,g,j,_⟩:=(I.hok a _ f)
   exact W.kia_one W.kitx_dict I.kIn ⟨o,g,j.1⟩ e (λz=>nomatch z) h| @ins a C R P f r D w m B=>cases(d);obtain⟨N,O,_⟩:=Ka I.hok f;obtain⟨L,J,_⟩:=O.look;exact W.kia_one (W.kitx_own (r.get _) r.hd D w m B) I.kIn J e (λz=>nomatch z) h
end
structure aQ(k:Nat)(A:Around):Prop where
 hd:A.handled=none
 dp:A.depth+3*k+5<recursionLimit
 un:A.units+16*k+200<cLine
theorem aQ.mono{j k:Nat}(r:aQ k A)(h:j<=k):aQ j A:=⟨r.hd,by have:=r.dp;omega,by have:=r.un;omega⟩
theorem aQ.deeper{k:Nat}{A:Around}(r:aQ (k+1) A)(a:Env):aQ k (A.deeper a):=⟨r.hd,by have:=r.dp;show A.depth+1+3*k+5<_;omega,by have:=r.un;show A.units+3+16*k+200<_;omega⟩
theorem IO{a:O (Str×I)}:(A.under (.builtin "type.__call__" ⟨.ref C::us,a⟩)).depth=A.depth+1:=by rfl
theorem IP{a:O (Str×I)}:(A.under (.builtin "type.__call__" ⟨.ref C::us,a⟩)).units=A.units+1:=by rfl
theorem aQ.make{k:Nat}(r:aQ (k+1) A)(C:Y)(a:O I)(b:O (Str×I)):aQ k (A.under (.builtin "type.__call__" ⟨.ref C::a,b⟩)):=⟨r.hd,by have:=r.dp;rw[IO];omega,by have:=r.un;rw[IP];omega⟩
theorem aQ.depth{k:Nat}{A:Around}(r:aQ k A):A.depth<recursionLimit:=by have:=r.dp;omega
theorem aQ.units{k:Nat}{A:Around}(r:aQ k A):A.units+64<cLine:=by have:=r.un;omega
def lr:TA:=λ_ H Q=>Q [] H
def Kk(ta:TE)(B:TA):TA:=λσ H Q=>ta σ H λx H1=>B σ H1 λxs H2=>Q (x::xs) H2
section
variable{t:TA}
theorem zc:PA X [] lr:=λ_ _ _ _ H Q I h=>Calls.spliced_nil ⟨[],H,I,.nil,h⟩
theorem za(m:PE X e te)(l:PA X es t)(k:starEach (e::es) X.env=(false,eval e X.env)::starEach es X.env:=by rfl):PA X (e::es) (Kk te t):=by intro n a s b H Q I h;rw[k];refine Calls.spliced_cons (aF (m a s b H _ I h) λu d ⟨x,r,p,g,j⟩=>?_);exact aF (l n a d b r _ p j) λv w ⟨c,q,o,f,i⟩=>⟨x::c,q,o,.cons g f,i⟩
def Cs(t:TA):TE:=λσ H Q=>t σ H λxs H1=>xs.length<=sizeLine/\∀p,H1 p=none->Q (.ref p) (upd H1 p (.tup xs))
def Co(t:TA):TE:=λσ H Q=>t σ H λxs H1=>xs.length<=sizeLine/\∀p,H1 p=none->Q (.ref p) (upd H1 p (.lst xs))
theorem jx{i}(h:PA X es t):PE X (.Tuple es i aD) (Cs t):=by intro a s f H Q I k;refine wpAny_Tuple_spliced (aF (h aD a s f H _ I k) λj c ⟨g,m,d,r,z,q⟩=>⟨by rw[<-r.length];exact z,?_⟩);have l:=d.hok.fresh (ag _);refine⟨.ref c.heap.objs.size,upd m c.heap.objs.size (.tup g),d.laid (λb u e=>au _ e) (ag _) ?_,J,q _ l⟩;exact⟨z,j,r,⟨_,bq _ J,J,_,J⟩,iF.push⟩
theorem Xh(h:PA X es t):PE X (.List es aD) (Co t):=by intro a s f H Q I j;refine wpAny_List_spliced (aF (h aD a s f H _ I j) λi c ⟨g,l,d,r,z,q⟩=>⟨by rw[<-r.length];exact z,?_⟩);have k:=d.hok.fresh (ag _);refine⟨.ref c.heap.objs.size,upd l c.heap.objs.size (.lst g),d.laid (λb u e=>au _ e) (ag _) ?_,J,q _ k⟩;exact⟨z,i,0,r,bq _ J⟩
end
abbrev Sp:=List V->Hp->VK->XK->Prop
abbrev iJ:=List Env->Hp->Shared->XK->Value->Shared->Prop
structure fk(P:Program)(w:World)(K:W.Frag)(mg:Str->Option Value)(base:Heap)(A:Around)(outer:List Env)(s:Shared)(H:Hp):Prop where
 frames:A.frames=some outer
 mod:Mod K mg base
 bs:∀b o,base.get? b=some o->s.heap.get? b=some o/\H b=none
 bsz:base.objs.size<=s.heap.objs.size
 funs:s.heap.FunFrames base outer
 frf:∀b∈fW outer,H b=none
 hok:cC P w H s.heap
 bare:AllBare s.gens
inductive CE(outer:List Env)(P:Program)(w:World)(H:Hp)(s:Shared)(Q:VK)(u:Value)(s':Shared):Prop|mk:∀v H',s'.os=s.os->AllBare s'.gens->Un (fW outer) [] H H' s.heap s'.heap->cC P w H' s'.heap->yq v u->Q v H'->CE outer P w H s Q u s'
def CR(CX:iJ)(outer:List Env)(P:Program)(w:World)(H:Hp)(s:Shared)(Q:VK)(E:XK)(r:Result)(B:Shared):Prop:=match r with|.ok (.ret u)=>CE outer P w H s Q u B|.ok _=>False|.error e=>CX outer H s E e B
structure cF(P:Program)(w:World)(K:W.Frag)(mg:Str->Option Value)(base:Heap)(CX:iJ)(k:Nat)(f:Addr)(fd:FuncData)(ps:List Str)(sp:Sp):Prop where
 len:∀vs H Q E,sp vs H Q E->vs.length=ps.length
 run:∀(A:Around)(outer:List Env)(s:Shared)(H:Hp)(args:Args)(us:List Value)(vs:List V)(Q:VK)(E:XK),aQ k A->fk P w K mg base A outer s H->BindsTo s fd args (ps.zip us)->yu vs us->sp vs H Q E->
  codeAny (model P w) A (.call (.ref f) args) (CR CX outer P w H s Q E) s
theorem fk.make{K:W.Frag}(e:fk P w K mg base A outer s H)(C:Y)(a:O I)(b:O (Str×I)):fk P w K mg base (A.under (.builtin "type.__call__" ⟨.ref C::a,b⟩)) outer s H:=⟨by first|exact e.frames|(simpa[Around.under,Code.envs,Code.isFrame,pushEnvs]using e.frames),e.mod,e.bs,e.bsz,e.funs,e.frf,e.hok,e.bare⟩
section
variable{s':Shared}
theorem Inv.env0(I:Inv X pins σ H s):fk X.prog X.w X.K X.mg X.base X.A X.stack s H:=⟨I.ok.frames,I.ok.mod,I.bs,cj I.ok.bsz I.sz,I.stack,I.stkFree,I.hok,I.bare⟩
theorem Inv.after{Q:VK}(I:Inv X pins σ H s)(h:CE X.stack X.prog X.w H s Q u s'):EP X pins σ Q u s':=by obtain⟨v,c,os,bare,un,hok,r,q⟩:=h;obtain⟨e,g,d,t,a⟩:=s';obtain rfl:a=s.os:=os;exact⟨v,c,I.call un hok bare (λb z=>absurd z (by simp)),r,q⟩
end
def rW(sp:Sp)(B:List V)(E:XK)(t:TA):TE:=λσ H Q=>t σ H λvs H1=>sp (vs++B) H1 Q E
inductive gw(C:Addr)(m:Str)(sp:Sp)(dvs:List V)(E:XK)(t:TA)(σ:St)(Q:VK)(x:V)(H1:Hp):Prop|mk:∀a dx fs,x=.ref a->H1 a=some (.ins C dx fs)->fs.lookup m=none->(t σ H1 λvs H2=>sp (x::(vs++dvs)) H2 Q E)->gw C m sp dvs E t σ Q x H1
def pS(C:Addr)(m:Str)(sp:Sp)(B:List V)(E:XK)(ta:TE)(t:TA):TE:=λσ H Q=>ta σ H λx H1=>gw C m sp B E t σ Q x H1
def vY(C:Addr)(sp:Sp)(B:List V)(E:XK)(t:TA):TE:=λσ H Q=>t σ H λvs H1=>∀x dx,H1 x=none->H1 dx=none->dx≠x->
 sp (.ref x::(vs++B)) (upd (upd H1 dx (.own x)) x (.ins C dx [])) (λv H2=>v=.non/\Q (.ref x) H2) E
def Y6(K:W.Frag)(Z:FuncData)(B:List Str)(U:List Value):Prop:=∀(s:Shared)(us:List Value),K.In s.heap->(us++U).length=B.length->BindsTo s Z ⟨us,[]⟩ (B.zip (us++U))
theorem Y6.all{K:W.Frag}(h:∀us:O I,us.length=ps.length->bindArgs fd ⟨us,[]⟩=pure (ps.zip us)):Y6 K fd ps []:=λs us _ a=>by rw[cq]at a⊢;exact .of_eq (h us a)
def Vb(CX:iJ)(X:Cx)(E:XK):Prop:=∀(pins:List (Addr×Obj))(σ:St)(H:Hp)(s:Shared)(e:Value)(s':Shared),Inv X pins σ H s->CX X.stack H s E e s'->X.xe e s'
section
variable{CX:iJ}{k:Nat}{f:Addr}{sp:Sp}{dvs:List V}{E:XK}{o:Expr}{t:TA}
theorem sR{Q:VK}(F:cF X.prog X.w X.K X.mg X.base CX k f fd ps sp)(g:aQ k X.A)(l:Y6 X.K fd ps ds)(j:yu dvs ds)(d:Vb CX X E)(I:Inv X pins σ H s) (r:yu vs us) (h:sp (vs++dvs) H Q E):wpAny (model X.prog X.w) X.A (call (.ref f) us) (EP X pins σ Q) X.xe s:=by
 have b:=r.append j;have i:(us++ds).length=ps.length:=by rw[<-b.length];exact F.len _ _ _ _ h
 refine wpAny_call (codeAny_mono (F.run X.A X.stack s H ⟨us,[]⟩ (us++ds) (vs++dvs) Q E g I.env0 (l s us I.kIn i) b h) λr c a=>?_);cases r with|error e=>exact d pins σ H s e c I a| ok m=>cases m with|ret u=>exact I.after a|next=>exact False.elim a|brk=>exact False.elim a|cont=>exact False.elim a
theorem EZ(F:cF X.prog X.w X.K X.mg X.base CX k f fd ps sp)(j:aQ k X.A)(m:Gl X x)(l:X.mg x=some (.ref f))(hk:W.keepIn X.K (.ref f)=true)(o:Y6 X.K fd ps ds)(n:yu dvs ds)(i:Vb CX X E)(u:PA X (e::es) t) (c:(x==("__debug__":Str))=false:=by decide) (he:starEach (e::es) X.env=(false,eval e X.env)::starEach es X.env:=by rfl) (b:(backTo aD (starEach es X.env)).any (·.1)=false:=by rfl):
  PE X (.Call (.Name x p) (e::es) [] aD) (rW sp dvs E t):=by intro a s g H Q I h;refine wpAny_Call_Name_kw (ud I m l ?_ c);refine W.callWith_K I.ok.mod.kin hk (aF (u aD a s g H _ I h) λw y ⟨v,z,d,r,q⟩=>⟨d.kIn,?_⟩) he b;exact sR F j o n i d r q
theorem E4{A:Sem Bool}(he:PE X o ta)(c:fU X.K C)(j:iH X.K C m f)(F:cF X.prog X.w X.K X.mg X.base CX k f fd ps sp)(G:aQ k X.A)(L:Y6 X.K fd ps ds)(K:yu dvs ds)(B:Vb CX X E)(M:PA X (e::es) t)(d:starEach (e::es) X.env=(false,eval e X.env)::starEach es X.env:=by rfl) (g:(backTo aD (starEach es X.env)).any (·.1)=false:=by rfl)
  (D:eval (.Call (.Attribute o m apos) (e::es) [] aD) X.env=(do
   let ov<-eval o X.env
   standAt apos.atName
   let(f,first)<-holding [ov] (getMethod ov m A)
   callWith aD f first (backTo aD (starEach (e::es) X.env)) (backToKw aD (keywordEach [] X.env))):=by rfl):
  PE X (.Call (.Attribute o m apos) (e::es) [] aD) (pS C m sp dvs E ta t):=by intro b s i H Q I h;refine W.methodCall_KW (aF (he b s i H _ I h) λu w ⟨x,R,p,y,a,dx,Z,N,P,l,q⟩=>?_) D;subst N;obtain rfl:u=Value.ref a:=y;refine BH p P c j l ?_;refine W.callWith_K I.ok.mod.kin j.kp (aF (M aD b w i R _ p q) λS U ⟨v,H2,n,r,z⟩=>⟨n.kIn,?_⟩) d g;exact sR (vs:=.ref a::v) F G L K B n (.cons J r) z
theorem Gj{j:Sem Bool}(he:PE X o ta)(c:fU X.K C)(e:iH X.K C m f)(F:cF X.prog X.w X.K X.mg X.base CX k f fd ps sp)(r:aQ k X.A)(v:Y6 X.K fd ps ds)(t:yu dvs ds)(n:Vb CX X E)(p:eval (.Call (.Attribute o m apos) [] [] aD) X.env=(do
   let ov<-eval o X.env
   standAt apos.atName
   let(f,first)<-holding [ov] (getMethod ov m j)
   callWith aD f first (backTo aD (starEach [] X.env)) (backToKw aD (keywordEach [] X.env))):=by rfl):
  PE X (.Call (.Attribute o m apos) [] [] aD) (pS C m sp dvs E ta lr):=by intro b s g H Q I h;refine W.methodCall_KW (aF (he b s g H _ I h) λu z ⟨x,D,d,i,a,B,A,w,y,l,q⟩=>?_) p;subst w;obtain rfl:u=Value.ref a:=i;refine BH d y c e l ?_;exact W.callWith_K0 d.kIn e.kp (sR (vs:=[.ref a]) F r v t n d (.cons J .nil) q)
structure Mk(K:W.Frag)(C f:Addr):Prop where
 makes:W.makesIn K C=true
 init:W.findIn K (.ref C) "__init__"=some (some (.ref f))
 fn:W.isFn K (.ref f)=true
 kp:W.keepIn K (.ref C)=true
theorem Gv{Q:VK}(M:Mk X.K C f)(F:cF X.prog X.w X.K X.mg X.base CX k f fd ps sp)(m:aQ (k+1) X.A)(p:Y6 X.K fd ps ds)(o:yu dvs ds)(l:Vb CX X E) (I:Inv X pins σ H s) (r:yu vs us)
  (h:∀x dx,H x=none->H dx=none->dx≠x->sp (.ref x::(vs++dvs)) (upd (upd H dx (.own x)) x (.ins C dx [])) (λv H2=>v=.non/\Q (.ref x) H2) E):
  wpAny (model X.prog X.w) X.A (call (.ref C) us) (EP X pins σ Q) X.xe s:=by
 have d:=h (s.heap.objs.size+1) s.heap.objs.size (I.hok.fresh (Nat.le_succ _)) (I.hok.fresh (ag _)) (bf (eq _));have b:=Inv.made (C:=C) I;have c:yu (V.ref (s.heap.objs.size+1)::(vs++dvs)) (Value.ref (s.heap.objs.size+1)::(us++ds)):=.cons J (r.append o);have n:(Value.ref (s.heap.objs.size+1)::us++ds).length=ps.length:=by
  have e:=c.length;rw[F.len _ _ _ _ d]at e
  simp_all
 refine wpAny_call (FS I.kIn M.makes M.init (beq_iff_eq.mp M.fn) (codeAny_mono (F.run _ X.stack _ _ ⟨Value.ref (s.heap.objs.size+1)::us,[]⟩ (Value.ref (s.heap.objs.size+1)::(us++ds)) _ _ E (m.make C us []) (b.env0.make C us []) (p _ (Value.ref (s.heap.objs.size+1)::us) b.kIn n) c d) λr g a=>?_))
 cases r with|error e=>exact l pins σ _ _ e g b a| ok q=>cases q with| ret u=>obtain⟨v,y,w,i,t,j⟩:=b.after a;subst t;exact⟨i,⟨V.ref (s.heap.objs.size+1),y,w,J,j⟩⟩|next=>exact False.elim a|brk=>exact False.elim a|cont=>exact False.elim a
theorem E2(M:Mk X.K C f)(F:cF X.prog X.w X.K X.mg X.base CX k f fd ps sp)(j:aQ (k+1) X.A)(m:Gl X x)(l:X.mg x=some (.ref C))(o:Y6 X.K fd ps ds)(n:yu dvs ds)(i:Vb CX X E)(u:PA X (e::es) t) (c:(x==("__debug__":Str))=false:=by decide) (he:starEach (e::es) X.env=(false,eval e X.env)::starEach es X.env:=by rfl) (b:(backTo aD (starEach es X.env)).any (·.1)=false:=by rfl):
  PE X (.Call (.Name x p) (e::es) [] aD) (vY C sp dvs E t):=by intro a s g H Q I h;refine wpAny_Call_Name_kw (ud I m l ?_ c);refine W.callWith_K I.ok.mod.kin M.kp (aF (u aD a s g H _ I h) λw y ⟨v,z,d,r,q⟩=>⟨d.kIn,?_⟩) he b;exact Gv M F j o n i d r q
end
section
variable{CX:iJ}{k:Nat}{f:Addr}{ks:List Str}{sp:Sp}{E:XK}{oz:Pos}{o:Expr}{Mj:List Keyword}{t tk:TA}{nm:Option Str}
variable{g:List Value->List Value->List Value}{gV:List V->List V->List V}
end
structure aA(N P:List Str)(sc:Scope):Prop where
 kind:sc.kind=.function
 co:sc.isCoroutine=false
 gen:sc.isGenerator=false
 nd:N.Nodup
 pre:N.take P.length=P
 par:∀x∈P,sc.names.lookup x=some .local\/sc.names.lookup x=some .cell
 nofree:∀y∈sc.names,y.2≠ .free
theorem aA.of{P:O Str}(g:sc.kind=.function:=by rfl)(f:sc.isCoroutine=false:=by rfl)(e:sc.isGenerator=false:=by rfl)(d:N.Nodup:=by decide+kernel)(c:N.take P.length=P:=by rfl)(b:∀x∈P,sc.names.lookup x=some .local\/sc.names.lookup x=some .cell:=by decide+kernel)(a:∀y∈sc.names,y.2≠ .free:=by decide+kernel):aA N P sc:=⟨g,f,e,d,c,b,a⟩
theorem Bb{kindOf:Str->Option NameKind}{x:Str}:∀{a:List (Str×Value)}{m:Str->Option Value},(∀v,(x,v) ∉ a)->bindL kindOf a m x=m x
 |[],_,_=>rfl
 | (n,v)::r,m,h=>by
   unfold bindL;rw[Bb λw b=>h w (bv _ b)];split
   grind
   rfl
theorem A9{kindOf:Str->Option NameKind}{x:Str}:∀{a:List (Str×Value)}{m:Str->Option Value},(∀v,(x,v) ∉ a)->bindC kindOf a m x=m x
 |[],_,_=>rfl
 | (n,v)::r,m,h=>by
   unfold bindC;rw[A9 λw b=>h w (bv _ b)];split;rfl
   grind
theorem Ba{kindOf:Str->Option NameKind}{x:Str}{v:Value}:∀{P:List Str}{vs:List Value}{i:Nat}{m:Str->Option Value},P.Nodup->P[i]?=some x->vs[i]?=some v->kindOf x=some .local->
  bindL kindOf (P.zip vs) m x=some v|[],_,_,_,_,h,_,_=>by simp at h|_::_,[],_,_,_,_,h,_=>by simp at h| p::P,w::vs,0,m,c,b,a,hk=>by simp at b a;subst b;subst a;show bindL kindOf ((p,w)::P.zip vs) m p=_;unfold bindL;rw[Bb λv d=>(c9.mp c).1 (List.of_mem_zip d).1,if_pos hk];simp| p::P,w::vs,i+1,m,c,b,a,hk=>by show bindL kindOf ((p,w)::P.zip vs) m x=_;unfold bindL;exact Ba (i:=i) (c9.mp c).2 (by simpa using b) (by simpa using a) hk
theorem A8{kindOf:Str->Option NameKind}{x:Str}{v:Value}:∀{P:List Str}{vs:List Value}{i:Nat}{m:Str->Option Value},P.Nodup->P[i]?=some x->vs[i]?=some v->kindOf x≠some .local->
  bindC kindOf (P.zip vs) m x=some v|[],_,_,_,_,h,_,_=>by grind|_::_,[],_,_,_,_,h,_=>by grind| p::P,w::vs,0,m,b,a,c,hk=>by simp at a c;subst a;subst c;show bindC kindOf ((p,w)::P.zip vs) m p=_;unfold bindC;rw[A9 λv d=>(c9.mp b).1 (List.of_mem_zip d).1,if_neg hk];simp| p::P,w::vs,i+1,m,b,a,c,hk=>by unfold bindC;exact A8 (c9.mp b).2 (by simpa using a) (by simp_all) hk
noncomputable def start(N:List Str)(vs:List V):St:=vs.map some++List.replicate (N.length-vs.length) none
noncomputable def iK(CX:iJ)(P:Program)(w:World)(K:W.Frag)(mg:Str->Option Value)(base:Heap)(N:List Str)(U:Str)(B:Scope)(f:Addr)(cd:Value)(A:Around)(outer:List Env)(s:Shared)(H:Hp)(E:XK):Cx where
 prog:=P
 w:=w
 K:=K
 mg:=mg
 base:=base
 A:=A.deeper (envOfC U B s.heap.objs.size f cd)
 N:=N
 s₀:=s
 H₀:=H
 env:=envOfC U B s.heap.objs.size f cd
 outer:=outer
 stack:=envOfC U B s.heap.objs.size f cd::outer
 ex:=[]
 calm:=true
 fn:=λ_=>true
 pn:=[]
 xe:=λe s'=>wpAny (model P w) (A.deeper (envOfC U B s.heap.objs.size f cd)) (leaving (envOfC U B s.heap.objs.size f cd) e) (λ_ Z=>CX outer H s E e Z) (λe' Z=>CX outer H s E e' Z) s'
theorem Ag{n:Nat}(h:sc.names.lookup x=some .cell):∃c,(cellsFrom n sc.names []).lookup x=some c:=by have q:=W.cellsFrom_some sc.names n [] (.inl h);exact Option.isSome_iff_exists.mp q
theorem Hw{CX:iJ}{K:W.Frag}{f:Y}{o:I}{t:Shared}{E:XK}(S:aA N ps scope) (F:A.handled=none) (a:fk P w K mg base A outer s H) (hl:vs.length=ps.length) (r:yu vs us)
  (x:InCallC s s.heap.objs.size (bindL (envOfC qual scope s.heap.objs.size f o).kindOf (ps.zip us) λ_=>none) (cellsFrom (s.heap.objs.size+1) scope.names []) (bindC (envOfC qual scope s.heap.objs.size f o).kindOf (ps.zip us) λ_=>none) t):
  Inv (iK CX P w K mg base N qual scope f o A outer s H E) [] (start N vs) H t:=by
 have D:ps.length<=N.length:=by have:=congrArg List.length S.pre;grind
 obtain⟨n,L,rfl,hk⟩:=x.done;have d:∀b:Y,b ∉ (iK CX P w K mg base N qual scope f o A outer s H E).ex:=λb z=>absurd (show b∈[]from z) (by simp);refine⟨⟨a.mod,S.kind,J,J,ag _,λy z c n m=>?_,λy j=>?_,λy c _ h=>?_,λ_=>F,Around.frames_deeper a.frames,.inr ⟨J,J⟩,λb z=>absurd z (d b),a.bs,a.bsz,λb _ _=>d b,λb z=>absurd z (d b),a.funs,a.frf⟩,J,a.bare,Un.kept hk,⟨_,x.toInCall.ns,λi y v n m Q=>?_⟩,λy c h=>⟨_,x.cell y c h⟩,a.hok.fresh (ag _),λy c h=>?_,λp l=>absurd (show p∈[]from l) (by simp),a.hok.kept hk,?_⟩
 exact name_of_addr x.apart (PySem.mem_of_lookup n) (PySem.mem_of_lookup m);rcases j with j|j;exact Ag j;exact absurd J (S.nofree _ (PySem.mem_of_lookup j));exact Nat.le_of_lt (x.above y c (PySem.mem_of_lookup h));have M:i<vs.length:=by
  unfold start at m
  grind
 have G:vs[i]?=some v:=by
  unfold start at m
  grind
 obtain⟨u,B,C⟩:=r.get G;have l:ps[i]?=some y:=by rw[<-S.pre,List.getElem?_take_of_lt (by omega)];exact n
 have g:ps.Nodup:=by rw[<-S.pre];exact S.nd.sublist (List.take_sublist _ _)
 refine⟨u,C,?_⟩;rcases S.par y (br l)with k|k;exact .inl ⟨k,Ba g l B k⟩;obtain⟨c,e⟩:=Ag k;refine .inr ⟨.inl k,c,e,?_⟩;have q:=x.cell y c e;rw[A8 g l B (by show scope.names.lookup y≠_;rw[k];decide)]at q;exact q;exact a.hok.fresh (Nat.le_of_lt (x.above y c (PySem.mem_of_lookup h)));unfold start;show _=N.length
 simp_all
theorem Cz{CX:iJ}{K:W.Frag}{k:Nat}{f:Addr}{a:Arguments}{dV kV p L cdv M oc:Value}{U od:Option Addr}{sp:Sp} (lk:K.lookup f=some ⟨oc,od,.func (W.fnOf name qual a fg scope dV kV p L U cdv M),osl⟩) (F:W.codeIn K cdv qual=true) (S:aA N ps scope)
  (j:∀vs H Q E,sp vs H Q E->vs.length=ps.length)
  (g:∀(A:Around) (outer:List Env) (s:Shared) (H:Hp) (vs:List V) (Q:VK) (E:XK),aQ k (A.deeper (envOfC qual scope s.heap.objs.size f cdv))->sp vs H Q E-> ∃t,eE (iK CX P w K mg base N qual scope f cdv A outer s H E) fg t/\t (.of Q) (start N vs) H):
  cF P w K mg base CX (k+1) f (W.fnOf name qual a fg scope dV kV p L U cdv M) ps sp:=by
 refine⟨j,λA outer s H R Z vs Q E D m hb r l=>?_⟩;have hl:=j _ _ _ _ l;have X:=m.mod.kin.keeps λb o e=>(m.bs b o e).1;have C:=m.mod.nolimit.keeps λb o e=>(m.bs b o e).1;have d:∀y∈ps.zip Z,scope.names.lookup y.1=some .local\/(scope.names.lookup y.1=some .cell/\((cellsFrom (s.heap.objs.size+1) scope.names []).lookup y.1).isSome=true):=λ⟨n,v⟩ hy=>by
  rcases S.par n (List.of_mem_zip hy).1 with q|q
  simp_all
  exact .inr ⟨q,W.cellsFrom_some _ _ _ (.inl q)⟩
 refine codeAny_call_function D.depth (X _ _ lk) rfl S.co S.gen rfl (W.codeRec_of X F) (hb _ _ _ _ ?_);refine wpAny_newFunctionEnv_cells S.kind d λaa he G x=>?_;subst he;refine⟨C.keeps x.toInCall.keep,codeAny_func ?_⟩;obtain⟨t,ht,hq⟩:=g A outer s H vs Q E (D.deeper _) l;have I:Inv (iK CX P w K mg base N qual scope f cdv A outer s H E) [] (start N vs) H G:=Hw S D.hd m hl r x;refine db (ht [] G (start N vs) H _ I hq) (λfl z h=>?_) λe z h=>h;have fin:∀{c:St}{i:Hp}{v:V}{u:Value},Inv (iK CX P w K mg base N qual scope f cdv A outer s H E) [] c i z->yq v u->Q v i->CE outer P w H s Q u z:=
  λ{c i v u} J B q=>⟨v,i,J.os,J.bare,J.base,J.hok,B,q⟩
 cases fl with
 | ret u=>obtain⟨v,c,i,J,B,q⟩:=h;exact fin J B q
 | next=>obtain⟨c,i,J,q⟩:=h;exact fin (v:=V.non) J rfl q
 | brk=>
   obtain⟨_,_,_,q⟩:=h
   simp_all
 | cont=>
   obtain⟨_,_,_,q⟩:=h
   simp_all
section
variable{t:TA}{T:String}{r:List V->Hp->VK->Prop}
def qK(r:List V->Hp->VK->Prop)(t:TA):TE:=λσ H Q=>t σ H λvs H1=>r vs H1 Q
theorem yd(q:jp X (.builtin id) r)(o:Gl X x)(n:X.mg x=none)(l:bootBuiltins x=some (.builtin id))(u:PA X (e::es) t)(m:x≠"__name__":=by decide)(c:(x==("__debug__":Str))=false:=by decide)
  (he:starEach (e::es) X.env=(false,eval e X.env)::starEach es X.env:=by rfl) (b:(backTo aD (starEach es X.env)).any (·.1)=false:=by rfl):PE X (.Call (.Name x p) (e::es) [] aD) (qK r t):=by intro a s d H Q I h;refine wpAny_Call_Name_kw (Yz I o n l ?_ m c);exact PyProof.Rows.callWith_builtin1 (aF (u aD a s d H _ I h) λg i ⟨f,w,v,j,k⟩=>q a i d w f g Q v j k) he b
theorem w9(q:jp X (.type T) r)(o:Gl X x)(n:X.mg x=none)(l:bootBuiltins x=some (.type T))(u:PA X (e::es) t)(m:x≠"__name__":=by decide)(c:(x==("__debug__":Str))=false:=by decide)
  (he:starEach (e::es) X.env=(false,eval e X.env)::starEach es X.env:=by rfl) (b:(backTo aD (starEach es X.env)).any (·.1)=false:=by rfl):PE X (.Call (.Name x p) (e::es) [] aD) (qK r t):=by intro a s d H Q I h;refine wpAny_Call_Name_kw (Yz I o n l ?_ m c);exact PyProof.Rows.callWith_type1 (aF (u aD a s d H _ I h) λg i ⟨f,w,v,j,k⟩=>q a i d w f g Q v j k) he b
end
section
variable{κ:Type}[DecidableEq κ]
noncomputable def yz(kvs:List (κ×V))(k:κ):Option V:=(kvs.find? λB=>decide (B.1=k)).map (·.2)
noncomputable def vi(kvs:List (κ×V))(k:κ)(v:V):List (κ×V):=if(kvs.any λB=>decide (B.1=k))=true then kvs.map (λB=>if B.1=k then(B.1,v)else B)else kvs++[(k,v)]
noncomputable def mO(kvs:List (κ×V))(k:κ):List (κ×V):=kvs.filter λB=>decide (B.1≠k)
theorem wg{p:κ×V}{r:O (κ×V)}{k:κ}(e:p.1=k):yz (p::r) k=some p.2:=by simp[yz,List.find?_cons,e]
theorem xu{p:κ×V}{r:O (κ×V)}{k:κ}(e:¬p.1=k):yz (p::r) k=yz r k:=by simp[yz,List.find?_cons,e]
theorem Zp(k:κ):∀kvs:List (κ×V),(kvs.any λa=>decide (a.1=k))=(yz kvs k).isSome|[]=>rfl| p::r=>by rw[List.any_cons];by_cases e:p.1=k;simp only[wg e,bn e,Bool.true_or,Option.isSome_some];rw[xu e,c6 e,Bool.false_or];exact Zp k r
theorem AO(k j:κ)(y:V):∀kvs:List (κ×V),yz (kvs.map λa=>if a.1=k then(a.1,y)else a) j=(yz kvs j).map λx=>if j=k then y else x|[]=>rfl| p::r=>by have b:=AO k j y r;rw[cb];by_cases h:p.1=k;rw[if_pos h];by_cases e:p.1=j;rw[wg (p:=(p.1,y)) e,wg e,Option.map_some,if_pos (e.symm.trans h)];rw[xu (p:=(p.1,y)) e,xu e,b];rw[if_neg h];by_cases e:p.1=j;rw[wg e,wg e,Option.map_some,if_neg (λz=>h (e.trans z))];rw[xu e,xu e,b]
theorem BE(k j:κ)(y:V):∀kvs:List (κ×V),yz kvs k=none->yz (kvs++[(k,y)]) j=if j=k then some y else yz kvs j
 | [],_=>by by_cases e:k=j;rw[if_pos e.symm];exact wg e;rw[if_neg (λz=>e z.symm)];exact xu e
 | p::r,a=>by
   rw[List.cons_append];have hk:¬p.1=k:=λz=>by rw[wg z]at a;grind
   rw[xu hk]at a;have b:=BE k j y r a;by_cases e:p.1=j;rw[wg e,wg e,if_neg (λz=>hk (e.trans z))];rw[xu e,xu e,b]
theorem j0(kvs:O (κ×V))(k j:κ)(y:V):yz (vi kvs k y) j=if j=k then some y else yz kvs j:=by
 unfold vi;by_cases a:(kvs.any λb=>decide (b.1=k))=true;rw[if_pos a,AO];rw[Zp]at a;by_cases e:j=k;obtain⟨x,c⟩:=Option.isSome_iff_exists.mp a;rw[if_pos e,e,c,Option.map_some,if_pos J]
 simp_all
 rw[if_neg a];refine BE k j y kvs ?_;rw[Zp]at a
 simp_all
theorem xy(kvs:O (κ×V))(k:κ)(v:V):(vi kvs k v).length<=kvs.length+1:=by
 unfold vi
 grind
theorem Zu{kvs:O (κ×V)}{k:κ}(v:V)(h:yz kvs k=none):vi kvs k v=kvs++[(k,v)]:=by unfold vi;rw[Zp,h];rfl
theorem Y3.isSome_eq{o:Option V}{u:Option Value}(r:Y3 o u):o.isSome=u.isSome:=by
 cases o with
 | none=>cases u with
   |none=>rfl
   |some _=>exact(r).elim
 | some _=>cases u with
   |none=>exact(r).elim
   |some _=>rfl
theorem Y3.getD{o:Option V}{u:Option Value}{d:V}{a:Value}(r:Y3 o u)(b:yq d a):yq (o.getD d) (u.getD a):=by
 cases o with
 | none=>cases u with
   |none=>grind
   |some _=>exact(r).elim
 | some _=>cases u with
   |none=>exact(r).elim
   |some _=>exact r
theorem KV.val{kvs:List (κ×V)}{vs:List (κ×Value)}(r:KV kvs vs)(k:κ):Y3 (yz kvs k) (valueAt vs k):=by
 unfold KV at r;induction r with|nil=>exact True.intro| @cons p q g a h t i=>
   obtain⟨d,f⟩:=h;by_cases e:p.1=k;have c:=d.symm.trans e;have b:valueAt (q::a) k=some q.2:=by simp[valueAt,List.find?_cons,c]
   rw[wg e,b];exact f;have c:¬q.1=k:=λz=>e (d.trans z);have b:valueAt (q::a) k=valueAt a k:=by simp[valueAt,List.find?_cons,c]
   rw[xu e,b];omega
theorem KV.any{kvs:List (κ×V)}{vs:List (κ×Value)}(r:KV kvs vs)(k:κ):(kvs.any λa=>decide (a.1=k))=vs.any λa=>decide (a.1=k):=by unfold KV at r;induction r with|nil=>rfl|cons h t b=>rw[List.any_cons,List.any_cons,b,h.1]
theorem KV.repl{kvs:List (κ×V)}{vs:List (κ×Value)}(r:KV kvs vs)(k:κ)(c:yq y u):KV (kvs.map λa=>if a.1=k then(a.1,y)else a) (vs.map λa=>if a.1=k then(a.1,u)else a):=by
 unfold KV at r⊢;induction r with|nil=>exact .nil| @cons p q e d h t b=>
   rw[cb,cb];refine .cons ?_ b
   grind
theorem KV.put{kvs:O (κ×V)}{vs:O (κ×I)}(r:KV kvs vs)(k:κ)(a:yq y u):KV (vi kvs k y) (stored vs k u):=by unfold vi stored;rw[r.any k];by_cases e:(vs.any λb=>decide (b.1=k))=true;rw[if_pos e,if_pos e];exact r.repl k a;rw[if_neg e,if_neg e];exact Paired.snoc r ⟨J,a⟩
theorem KV.length{kvs:O (κ×V)}{vs:O (κ×I)}(r:KV kvs vs):kvs.length=vs.length:=Paired.length r
theorem FV(kvs:O (κ×V))(k:κ):(mO kvs k).length<=kvs.length:=dm _ _
end
theorem Xm{k:aM}(r:yq (kV k) u):(ya P w).is k u=true:=by cases k with|inl i=>obtain⟨t,e⟩:=(r);subst e;exact KN P w i t|inr x=>obtain⟨t,e⟩:=(r);subst e;exact KO P w x t
theorem Bj{P:Program}{w:World}:∀{a:List aM}{b:List Value},yu (a.map kV) b->ItemsAre (ya P w) a b|[],_,r=>by rw[List.map_nil]at r;cases r;exact .nil| k::a,_,r=>by rw[cb]at r;cases r with|cons h t=>exact .cons (Xm h) (Bj t)
abbrev KT(H:Hp):List (List aM×V)->List (List aM×Addr×Value)->Prop:=Paired λp q=>p.1=q.1/\H q.2.1=some (.tup (p.1.map kV))/\yq p.2 q.2.2
theorem KT.val{kvs:List (List aM×V)}{xs:List (List aM×Addr×Value)}(r:KT H kvs xs)(k:List aM):Y3 (yz kvs k) ((atKey xs k).map (·.2)):=by
 induction r with|nil=>exact True.intro| @cons p q g a h t i=>
   obtain⟨d,_,f⟩:=h;by_cases e:p.1=k;have c:=d.symm.trans e;have b:atKey (q::a) k=some q.2:=by simp[atKey,List.find?_cons,c]
   rw[wg e,b];exact f;have c:¬q.1=k:=λz=>e (d.trans z);have b:atKey (q::a) k=atKey a k:=by simp[atKey,List.find?_cons,c]
   rw[xu e,b];omega
theorem KT.repl{kvs:List (List aM×V)}{xs:List (List aM×Addr×Value)}(r:KT H kvs xs)(k:List aM)(d:yq y u):KT H (kvs.map λb=>if b.1=k then(b.1,y)else b) (xs.map (putAt k u)):=by induction r with|nil=>exact .nil| @cons p q j i h t f=>rw[cb,cb];refine .cons ?_ f;obtain⟨a,c,g⟩:=h;unfold putAt;by_cases e:p.1=k;rw[if_pos e,if_pos (a.symm.trans e)];exact⟨a,c,d⟩;rw[if_neg e,if_neg (λz=>e (a.trans z))];exact⟨a,c,g⟩
theorem KT.put{kvs:O (O aM×V)}{xs:O (O aM×Y×I)}(r:KT H kvs xs)(k:O aM)(d:H b=some (.tup (k.map kV)))(a:yq y u):KT H (vi kvs k y) (storedH xs k b u):=by
 have e:(kvs.any λc=>decide (c.1=k))=(atKey xs k).isSome:=by rw[Zp,(r.val k).isSome_eq,Option.isSome_map]
 unfold vi storedH;rw[e];by_cases q:(atKey xs k).isSome=true;rw[if_pos q,if_pos q];exact r.repl k a;rw[if_neg q,if_neg q];exact Paired.snoc r ⟨J,d,a⟩
theorem KT.keeps{kvs:O (O aM×V)}{xs:O (O aM×Y×I)}(r:KT H kvs xs)(a:∀b ys,H b=some (.tup ys)->H' b=some (.tup ys)):KT H' kvs xs:=Paired.mapP r λ_ _ z=>⟨z.1,a _ _ z.2.1,z.2.2⟩
section
theorem wC{u:HO}(b:cC P w H h)(e:Rd H a u):qf P w H h a u:=e.ok b
theorem Jm(b:cC P w H h)(e:Rd H a (.dK kvs)):kvs.length<=sizeLine/\(a==sysModules)=false/\∃vs,KV kvs vs/\h.DictOf (ya P w) a vs:=(wC b e)
theorem rM(b:cC P w H h)(e:H a=some (.dK kvs)):kvs.length<=sizeLine/\(a==sysModules)=false/\∃vs,KV kvs vs/\h.DictOf (ya P w) a vs:=Jm b (.inl e)
theorem Y0(c:cC P w H h)(e:H a=some (.tup (ks.map kV))):(tupleKind (ya P w)).is h ks a:=by
 obtain⟨_,b,r,⟨o,g,f,n,d⟩,_⟩:=(c a _ e)
 exact⟨o,b.toArray,n,g,f,d,by simpa using Bj r⟩
theorem Qb{kvs:O (O aM×V)}(c:cC P w H h)(e:Rd H a (.dT kvs)):kvs.length<=sizeLine/\(a==sysModules)=false/\
  ∃xs,KT H kvs xs/\h.DictOfH (tupleKind (ya P w)) a xs:=by
 obtain⟨z,y,xs,r,o,k,n,j,i,g,f,d⟩:=(wC c e)
 refine⟨z,y,xs,r,o,k,n,j,i,g,f,λx b=>?_,d⟩;have s:∀{l:O (O aM×V)}{m:O (O aM×Y×I)},KT H l m->∀x∈m,(tupleKind (ya P w)).is h x.1 x.2.1:=by
  intro l m q;induction q with|nil=>simp| @cons p q v u B t A=>
    intro x b;rcases az.mp b with e|b;subst e;exact Y0 c (by simp_all)
    grind
 grind
theorem rN{kvs:O (O aM×V)}(b:cC P w H h)(e:H a=some (.dT kvs)):kvs.length<=sizeLine/\(a==sysModules)=false/\
 ∃xs,KT H kvs xs/\h.DictOfH (tupleKind (ya P w)) a xs:=Qb b (.inl e)
end
def DGet(H:Hp)(a:Addr)(y:V)(r:Option V):Prop:=(∃kvs k,Rd H a (.dK kvs)/\y=kV k/\r=yz kvs k)\/∃kvs k b,Rd H a (.dT kvs)/\y=.ref b/\H b=some (.tup (k.map kV))/\r=yz kvs k
def Jc(H:Hp)(a:Addr)(y v:V)(B:Hp):Prop:=
 (∃kvs k,H a=some (.dK kvs)/\y=kV k/\kvs.length<sizeLine/\B=upd H a (.dK (vi kvs k v)))\/
 ∃kvs k b,H a=some (.dT kvs)/\y=.ref b/\H b=some (.tup (k.map kV))/\kvs.length<sizeLine/\B=upd H a (.dT (vi kvs k v))
theorem DGet.k{H:Hp}{a:Y}{kvs:O (aM×V)}{k:aM}(e:H a=some (.dK kvs)):DGet H a (kV k) (yz kvs k):=.inl ⟨kvs,k,.inl e,J,J⟩
theorem DGet.t{kvs:O (O aM×V)}{k:O aM}(e:H a=some (.dT kvs))(c:H b=some (.tup (k.map kV))):DGet H a (.ref b) (yz kvs k):=.inr ⟨kvs,k,b,.inl e,J,c,J⟩
theorem Jc.k{H:Hp}{a:Y}{kvs:O (aM×V)}{k:aM}{v:V}(e:H a=some (.dK kvs))(hl:kvs.length<sizeLine):Jc H a (kV k) v (upd H a (.dK (vi kvs k v))):=.inl ⟨kvs,k,e,J,hl,J⟩
theorem Jc.t{kvs:O (O aM×V)}{k:O aM}(e:H a=some (.dT kvs))(c:H b=some (.tup (k.map kV)))(hl:kvs.length<sizeLine):Jc H a (.ref b) v (upd H a (.dT (vi kvs k v))):=.inr ⟨kvs,k,b,e,J,c,hl,J⟩
section
variable{o:Option V}
theorem Inv.big(I:Inv X pins σ H s):sysModules<s.heap.objs.size:=by have h:=(I.mod.glob.keeps I.bk).lt;exact Nat.lt_trans (by decide) h
theorem GY(r:A.units+1<cLine)(I:Inv X pins σ H s)(g:DGet H a y (some v))(q:yq y u)(h:∀f s',Inv X pins σ H s'->yq v f->Q f s'):wpAny (model X.prog X.w) A (getItem (.ref a) u) Q E s:=by rcases g with⟨i,k,e,n,l⟩|⟨i,k,b,e,n,x,l⟩;subst n;obtain⟨z,w,C,d,o⟩:=Jm I.hok e;obtain⟨f,j,c⟩:=Y3.some_of (by rw[l];exact d.val k);exact wpAny_getItem_of (Xm q) o.mapOf j (h f _ (I.tok _) c);subst n;cases(q);obtain⟨z,w,B,d,o⟩:=Qb I.hok e;obtain⟨f,j,c⟩:=Y3.some_of (by rw[l];exact d.val k);obtain⟨p,t,m⟩:=cm.mp j;refine wpAny_getItem_heap (tupleKind_room_in1 r) (Y0 I.hok x) o t ?_;rw[m];exact h f _ (I.tok _) c
theorem CJ(n:A.units+1<cLine)(I:Inv X pins σ H s)(g:DGet H a y o)(m:yq y u)(h:∀s',Inv X pins σ H s'->Q (.bool o.isSome) s'):wpAny (model X.prog X.w) A (compareOp .In u (.ref a)) Q E s:=by rcases g with⟨d,k,e,i,l⟩|⟨d,k,b,e,i,p,l⟩;subst i;obtain⟨z,f,t,c,j⟩:=Jm I.hok e;refine wpAny_in_of (Xm m) f j.mapOf ?_;rw[<-(c.val k).isSome_eq,<-l];exact h _ (I.tok _);subst i;cases(m);obtain⟨z,f,r,c,j⟩:=Qb I.hok e;refine wpAny_in_heap (tupleKind_room_in1 n) (Y0 I.hok p) f j ?_;have q:=(c.val k).isSome_eq;rw[Option.isSome_map]at q;rw[<-q,<-l];exact h _ (I.tok _)
theorem Et(n:A.units+1<cLine)(I:Inv X pins σ H s)(g:DGet H a y o)(m:yq y u)(h:∀s',Inv X pins σ H s'->Q (.bool (!o.isSome)) s'):wpAny (model X.prog X.w) A (compareOp .NotIn u (.ref a)) Q E s:=by rcases g with⟨d,k,e,i,l⟩|⟨d,k,b,e,i,p,l⟩;subst i;obtain⟨z,f,t,c,j⟩:=Jm I.hok e;refine wpAny_notIn_of (Xm m) f j.mapOf ?_;rw[<-(c.val k).isSome_eq,<-l];exact h _ (I.tok _);subst i;cases(show u=Value.ref b from m);obtain⟨z,f,r,c,j⟩:=Qb I.hok e;refine wpAny_notIn_heap (tupleKind_room_in1 n) (Y0 I.hok p) f j ?_;have q:=(c.val k).isSome_eq;rw[Option.isSome_map]at q;rw[<-q,<-l];exact h _ (I.tok _)
theorem Z8{c:HO}(I:Inv X pins σ H s)(e:pq (H a))(f:Heap.SameBut a s.heap h')(he:∃q,h'.get? a=some q)(d:qf X.prog X.w (upd H a c) h' a c):Inv X pins σ (upd H a c) {s with heap:=h',toks:=t'}:=
 I.write e (.inl J) (λb q g z=>(f.2 b g).trans z) he d
theorem p9{vs:O (aM×I)}(z:kvs.length<=sizeLine)(c:(a==sysModules)=false)(b:KV kvs vs)(d:h'.DictOf (ya P w) a vs):qf P w H' h' a (.dK kvs):=⟨z,c,vs,b,d⟩
theorem GZ{Q:Unit->Shared->Prop}(K:A.units+1<cLine)(I:Inv X pins σ H s)(g:Jc H a y v H')(w:yq y u)(x:yq v r)(h:∀s',Inv X pins σ H' s'->Q () s'):wpAny (model X.prog X.w) A (setItem (.ref a) u r) Q E s:=by
 rcases g with⟨f,k,e,p,l,eH⟩|⟨f,k,b,e,p,C,l,eH⟩;subst p eH;obtain⟨z,o,F,d,t⟩:=rM I.hok e;have G:F.length<=sizeLine:=by rw[<-d.length];exact z
 have n:(vi f k v).length<=sizeLine:=by have:=xy f k v;omega
 refine wpAny_setItem_pairs (Xm w) t λB i m=>h _ ?_;have L:∃q,B.get? a=some q:=let⟨q,_,_,j,_⟩:=i;⟨q,j⟩;exact Z8 I (by rw[e];exact True.intro) m L (p9 n o (d.put k x) i);subst p eH;cases(w);obtain⟨z,o,D,d,t⟩:=rN I.hok e;have G:D.length<=sizeLine:=by rw[<-Paired.length d];exact z
 have n:(vi f k v).length<=sizeLine:=by have:=xy f k v;omega
 refine wpAny_setItem_heap (tupleKind_room_in1 K) (Y0 I.hok C) t λB i m=>h _ ?_;obtain⟨q,S,U,j,R,P,N,_,M⟩:=i;refine Z8 I (by rw[e];exact True.intro) m ⟨q,j⟩ ⟨n,o,_,(d.put k C x).keeps λc Z W=>?_,q,S,U,j,R,P,N,M⟩;rw[upd_ne (Xj W e (λz=>nomatch z))];omega
end
section
variable{k:aM}
end
def rA(i:Expr):Prop:=∀ov B,subscripted i false ov B=operate [ov,B] (getItem ov B)
theorem zT{a:Expr}{T:String}(hl:typeLookup (.type T) "__getitem__"=pure (some (.builtin id))) (g:rA a)
  (h:wpAny (model prog w) A (eval aY env) (λo d=>wpAny (model prog w) A (eval a env) (λi s₂=>s₂.TypeIs o T/\wpAny (model prog w) A (getItem o i) Q E s₂) E d) E s):
  wpAny (model prog w) A (eval (.Subscript aY a aD) env) Q E s:=by
 refine Subscript_ (db h (λo d f=>db f (λi s₂ b=>?_) λ_ _ x=>x) λ_ _ x=>x);obtain⟨hT,b⟩:=b;unfold subscriptTail;refine a4 ?_;rw[getitemInPython_of_ne hT.not_modules];refine a4 (wpAny_specialOf hT hl ?_);have fin:wpAny (model prog w) A (subscripted a false o i) (λr c=>wpAny (model prog w) A (letTemporaryGo aY o r>>=λ_=>pure r) Q E c) E s₂:=by rw[g o i];exact wpAny_operating (db b (λr c e=>a4 (wpAny_letTemporaryGo (a9 e))) λ_ _ x=>x)
 first|exact a9 (a4 fin)|exact a4 (a9 (a4 fin))|exact a4 fin
theorem KB{o:Option V}(I:Inv X pins σ H s)(g:DGet H a y o):s.TypeIs (.ref a) "dict":=by rcases g with⟨c,k,e,_,_⟩|⟨c,k,b,e,_,_,_⟩;obtain⟨_,_,h,_,d⟩:=Jm I.hok e;exact d.typeIs;obtain⟨_,_,f,_,d⟩:=Qb I.hok e;exact d.typeIs
inductive gH(Q:VK)(x y:V)(H2:Hp):Prop|mk:∀a v,x=.ref a->DGet H2 a y (some v)->Q v H2->gH Q x y H2
def wI(U B:TE):TE:=λσ H Q=>U σ H λx H1=>B σ H1 λy H2=>gH Q x y H2
inductive kD(Q:VK)(y x:V)(H2:Hp):Prop|mk:∀a o,x=.ref a->DGet H2 a y o->Q (.bl o.isSome) H2->kD Q y x H2
def vN(B U:TE):TE:=λσ H Q=>B σ H λy H1=>U σ H1 λx H2=>kD Q y x H2
inductive eK(Q:VK)(y x:V)(H2:Hp):Prop|mk:∀a o,x=.ref a->DGet H2 a y o->Q (.bl (!o.isSome)) H2->eK Q y x H2
def Fk(B U:TE):TE:=λσ H Q=>B σ H λy H1=>U σ H1 λx H2=>eK Q y x H2
inductive gY(D:Ends)(σ:St)(v x y:V)(H3:Hp):Prop|mk:∀a H4,x=.ref a->Jc H3 a y v H4->D.nx σ H4->gY D σ v x y H3
def C1(Z B U:TE):TS:=λD σ H=>U σ H λv H1=>Z σ H1 λx H2=>B σ H2 λy H3=>gY D σ v x y H3
section
variable{o i:Expr}{dD:Pos}{td ty:TE}
theorem wo(n:X.A.units+1<cLine)(q:PE X o td)(r:PE X i ty)(p:rA i:=by exact λ_ _=>rfl):PE X (.Subscript o i aD) (wI td ty):=by intro b s d H Q I h;refine zT PySem.F.slot_dict_getitem.lookup p (aF (q b s d H _ I h) λu f ⟨x,B,z,k,m⟩=>aF (r b f d B _ z m) λF E ⟨y,A,e,j,a,v,t,g,l⟩=>?_);subst t;obtain rfl:u=Value.ref a:=k;exact⟨KB e g,GY n e g j λC D w c=>⟨v,A,w,c,l⟩⟩
theorem DX(m:X.A.units+1<cLine)(p:PE X i ty)(n:PE X o td):PC X .In i o (vN ty td):=by intro b s c H Q I h;refine aF (p b s c H _ I h) λC d ⟨y,z,v,e,k⟩=>aF (n b d c z _ v k) λu B ⟨x,w,t,f,a,l,q,g,j⟩=>?_;subst q;obtain rfl:u=Value.ref a:=f;exact CJ m t g e λA r=>⟨.bl l.isSome,w,r,J,j⟩
theorem HV(m:X.A.units+1<cLine)(p:PE X i ty)(n:PE X o td):PC X .NotIn i o (Fk ty td):=by intro b s c H Q I h;refine aF (p b s c H _ I h) λC d ⟨y,z,v,e,k⟩=>aF (n b d c z _ v k) λu B ⟨x,w,t,f,a,l,q,g,j⟩=>?_;subst q;obtain rfl:u=Value.ref a:=f;exact Et m t g e λA r=>⟨.bl (!l.isSome),w,r,J,j⟩
theorem Yw(q:X.A.units+1<cLine)(w:PE X o td)(z:PE X i ty)(p:PE X aY tv)(t:swapsWith aY (some (.Subscript o i cK)) aD.line X.env=pure false):PS X (.Assign [.Subscript o i cK] aY aD) (C1 td ty tv):=by intro b s c H D I h;refine wpAny_Assign_Subscript (aF (p b s c H _ I h) λr e ⟨v,L,F,k,n⟩=>aF (w b e c L _ F n) λu d ⟨x,K,E,j,m⟩=>aF (z b d c K _ E m) λP N ⟨y,Q,C,f,a,G,A,g,l⟩=>?_) t;subst A;obtain rfl:u=Value.ref a:=j;exact GZ q C g f k λM B=>⟨c,G,B,l⟩
end
theorem uA(h:Heap)(a:sysModules<h.objs.size):qf P w H (h.push {cls:=.type "dict",data:=.dict #[]}) h.objs.size (.dK []):=⟨bj _,beq_eq_false_iff_ne.mpr (ak (bf a)),[],.nil,Heap.DictOf.new h⟩
theorem Ak(h:Heap)(a:sysModules<h.objs.size):qf P w H (h.push {cls:=.type "dict",data:=.dict #[]}) h.objs.size (.dT []):=⟨bj _,beq_eq_false_iff_ne.mpr (ak (bf a)),[],.nil,_,#[],0,bq _ J,⟨J,J,J⟩,J,J,List.nodup_nil⟩
def D7:TE:=λ_ H Q=>∀p,H p=none->Q (.ref p) (upd H p (.dK []))
def D8:TE:=λ_ H Q=>∀p,H p=none->Q (.ref p) (upd H p (.dT []))
section
theorem V0:PE X (.Dict [] [] aD) D7:=λa s b H Q I h=>wpAny_Dict_empty ⟨.ref s.heap.objs.size,_,I.laid (λ_ _ q=>au _ q) (ag _) (uA s.heap I.big),J,h _ (I.hok.fresh (ag _))⟩
theorem Xi:PE X (.Dict [] [] aD) D8:=λa s b H Q I h=>wpAny_Dict_empty ⟨.ref s.heap.objs.size,_,I.laid (λ_ _ q=>au _ q) (ag _) (Ak s.heap I.big),J,h _ (I.hok.fresh (ag _))⟩
end
def tm:List (TE×TE)->St->Hp->(List (V×V)->Hp->Prop)->Prop|[],_,H,Q=>Q [] H|(tk,tv)::r,σ,H,Q=>tk σ H λx H1=>tv σ H1 λy H2=>tm r σ H2 λps B=>Q ((x,y)::ps) B
abbrev VV:List (V×V)->List (Value×Value)->Prop:=Paired λp q=>yq p.1 q.1/\yq p.2 q.2
def qU(X:Cx)(aD:Pos)(U:List (Option Expr))(B:List Expr)(Z:List (TE×TE)):Prop:=
 ∀ (pins:List (Addr×Obj)) (s:Shared) (σ:St) (H:Hp) (Q:List (V×V)->Hp->Prop),Inv X pins σ H s->tm Z σ H Q->
   wpAny (model X.prog X.w) X.A (evalPairs (pairTrees U B X.env aD)) (λvs s'=>∃ps H',Inv X pins σ H' s'/\VV ps vs/\Q ps H') X.xe s
theorem E7:qU X aD [] [] []:=λa s b H Q I h=>pairTrees_nil_walk ⟨[],H,I,.nil,h⟩
theorem K8{k v:Expr}{f:O (Option Expr)}{vs:O Expr}{e:TE}{b:O (TE×TE)}(hk:PE X k e)(q:PE X v tv)(r:qU X aD f vs b):qU X aD (some k::f) (v::vs) ((e,tv)::b):=λa s c H Q I h=>pairTrees_cons_walk (aF (hk a s c H _ I h) λu i ⟨x,C,z,l,o⟩=>aF (q a i c C _ z o) λE g ⟨y,B,w,j,n⟩=>aF (r a g c B _ w n) λD F ⟨p,A,t,d,m⟩=>⟨(x,y)::p,A,t,.cons ⟨l,j⟩ d,m⟩)
noncomputable def jd(kvs B:List (aM×V)):List (aM×V):=B.foldl (λU Z=>vi U Z.1 Z.2) kvs
theorem KV.merge:∀{a:List (aM×V)}{b:List (aM×Value)}{kvs:List (aM×V)}{vs:List (aM×Value)},KV a b->KV kvs vs->KV (jd kvs a) (merged vs b):=by
 intro a b kvs vs r;unfold KV at r;induction r generalizing kvs vs with|nil=>intro q;exact q| @cons p q g f h t d=>
   intro c;have e:KV (vi kvs p.1 p.2) (stored vs q.1 q.2):=by
    have:=c.put p.1 h.2
    simp_all
   exact d e
theorem Wf:∀(a kvs:List (aM×V)),(jd kvs a).length<=kvs.length+a.length
 |[],kvs=>by show kvs.length<=kvs.length+0;omega
 | p::r,kvs=>by
   have c:=Wf r (vi kvs p.1 p.2);have b:=xy kvs p.1 p.2;show(jd (vi kvs p.1 p.2) r).length<=_
   grind
theorem BM{P:Program}{w:World}:∀{kvs:List (aM×V)}{e:List (Value×Value)},VV (kvs.map λf=>(kV f.1,f.2)) e->∃d,Carries (ya P w) e d/\KV kvs d|[],_,r=>by rw[List.map_nil]at r;cases r;exact⟨[],True.intro,.nil⟩| p ::kvs,_,r=>by rw[cb]at r;cases r with| @cons a b as i h t=>obtain⟨d,c,q⟩:=BM t;obtain⟨j,g⟩:=b;exact⟨(p.1,g)::d,⟨Xm h.1,J,c⟩,.cons ⟨J,h.2⟩ q⟩
def C7(B:List (TE×TE)):TE:=λσ H Q=>∀p,H p=none->tm B σ (upd H p (.dK [])) λps H2=>H2 p=some (.dK [])/\∃kvs:List (aM×V),ps=kvs.map (λU=>(kV U.1,U.2))/\kvs.length<=15/\Q (.ref p) (upd H2 p (.dK (jd [] kvs)))
theorem E1{a:O (Option Expr)}{b:O Expr}{d:O (TE×TE)}(h:qU X aD a b d)(i:a.all (·.isSome)=true)(hl:a.length=b.length)(h0:a≠[])(l:a.length<=15):PE X (.Dict a b aD) (C7 d):=by
 intro f s n H Q I q;have y:=I.hok.fresh (ag s.heap.objs.size);have G:=I.laid (t':=s.toks) (λ_ _ q=>au _ q) (ag _) (uA s.heap I.big);refine wpAny_Dict_walk (knd:=ya X.prog X.w) i hl h0 l (aF (h f _ n _ _ G (q _ y)) λK L ⟨M,P,m,k,e,g,E,N,u⟩=>?_);subst E;obtain⟨p,c,r⟩:=BM k;obtain⟨z,B,o,t,F⟩:=rM m.hok e;cases t;refine⟨p,c,F,λD j w=>⟨.ref s.heap.objs.size,_,?_,J,u⟩⟩;have v:(jd [] g).length<=sizeLine:=by have C:=Wf g [];rw[List.length_nil]at C;rw[sizeLine_eq];omega
 have A:∃q,D.get? s.heap.objs.size=some q:=let⟨q,_,_,x,_⟩:=j;⟨q,x⟩;exact Z8 m (by rw[e];exact True.intro) w A (p9 v B (r.merge .nil) j)
structure M1(X:Cx)(o:Expr)(m:Str)(apos:Pos)(e:Expr)(cpos:Pos):Prop where
 base:attributeBase o m X.env (eval o X.env)=eval o X.env
 few:((backTo cpos (starEach [e] X.env)).all (λx=> !x.1) && (backToKw cpos (keywordEach [] X.env)).all (λx=>x.1.isSome) && decide (([e]:List Expr).length+([]:List Keyword).length+(if([]:List Keyword).isEmpty then 0 else 1)<30))=true
 line:(apos.endLine==cpos.line)=true
 trees:backTo cpos (starEach [e] X.env)=[(false,eval e X.env)]
structure M2(X:Cx)(o:Expr)(m:Str)(apos:Pos)(e f:Expr)(cpos:Pos):Prop where
 base:attributeBase o m X.env (eval o X.env)=eval o X.env
 few:((backTo cpos (starEach [e,f] X.env)).all (λx=> !x.1) && (backToKw cpos (keywordEach [] X.env)).all (λx=>x.1.isSome) && decide (([e,f]:List Expr).length+([]:List Keyword).length+(if([]:List Keyword).isEmpty then 0 else 1)<30))=true
 line:(apos.endLine==cpos.line)=true
 trees:backTo cpos (starEach [e,f] X.env)=[(false,eval e X.env),(false,eval f X.env)]
def rn(H:Hp)(a:Addr):Prop:=(∃kvs,Rd H a (.dK kvs))\/∃kvs,Rd H a (.dT kvs)
theorem so(I:Inv X pins σ H s)(d:rn H a):s.TypeIs (.ref a) "dict"/\(∀b,Value.ref a=.ref b->∃c,s.heap.get? b=some c/\c.dict=none)/\(a==sysModules)=false:=by rcases d with⟨g,e⟩|⟨g,e⟩;obtain⟨_,h,l,_,f⟩:=Jm I.hok e;refine⟨f.typeIs,λb q=>?_,h⟩;cases q;obtain⟨c,_,_,j,i,_⟩:=f;exact⟨c,j,i.2.1⟩;obtain⟨_,h,k,_,f⟩:=Qb I.hok e;refine⟨f.typeIs,λb q=>?_,h⟩;cases q;obtain⟨c,_,_,j,i,_⟩:=f;exact⟨c,j,i.2.1⟩
section
variable{d:V}{o:Option V}
theorem Dt(q:A.units+1<cLine)(I:Inv X pins σ H s)(g:DGet H a y o)(n:yq y u)(h:∀m s',Inv X pins σ H s'->yq (o.getD .non) m->Q m s'):wpAny (model X.prog X.w) A (call (.builtin "dict.get") [.ref a,u]) Q E s:=by rcases g with⟨f,k,e,j,l⟩|⟨f,k,b,e,j,r,l⟩;subst j;obtain⟨z,i,t,c,d⟩:=Jm I.hok e;refine call_meetsIn PySem.F.slot_dict_get d.typeIs PySem.F.entry_dict_get (PySem.F.args_dict_get_2 _ _) (meets_dict_get (ya X.prog X.w) a (Xm n) i) ⟨_,d.mapOf,h _ _ (I.tok _) ?_⟩;rw[l];exact(c.val k).getD J;subst j;cases(n);obtain⟨z,i,p,c,d⟩:=Qb I.hok e;refine call_meetsIn PySem.F.slot_dict_get d.typeIs PySem.F.entry_dict_get (PySem.F.args_dict_get_2 _ _) (meetsH_dict_get (tupleKind (ya X.prog X.w)) a b i) ⟨tupleKind_room_in1 q,k,p,Y0 I.hok r,d,h _ _ (I.tok _) ?_⟩;rw[l];exact(c.val k).getD J
theorem Du(v:A.units+1<cLine)(I:Inv X pins σ H s)(g:DGet H a y o)(p:yq y u)(q:yq d r)(h:∀n s',Inv X pins σ H s'->yq (o.getD d) n->Q n s'):wpAny (model X.prog X.w) A (call (.builtin "dict.get") [.ref a,u,r]) Q E s:=by rcases g with⟨i,k,e,m,l⟩|⟨i,k,b,e,m,w,l⟩;subst m;obtain⟨z,j,x,c,f⟩:=Jm I.hok e;refine call_meetsIn PySem.F.slot_dict_get f.typeIs PySem.F.entry_dict_get (PySem.F.args_dict_get_3 _ _ _) (meets_dict_get_default (ya X.prog X.w) a (Xm p) j r) ⟨_,f.mapOf,h _ _ (I.tok _) ?_⟩;rw[l];exact(c.val k).getD q;subst m;cases(p);obtain⟨z,j,t,c,f⟩:=Qb I.hok e;refine call_meetsIn PySem.F.slot_dict_get f.typeIs PySem.F.entry_dict_get (PySem.F.args_dict_get_3 _ _ _) (meetsH_dict_get_default (tupleKind (ya X.prog X.w)) a b j r) ⟨tupleKind_room_in1 v,k,t,Y0 I.hok w,f,h _ _ (I.tok _) ?_⟩;rw[l];exact(c.val k).getD q
end
inductive fw(Q:VK)(a:Addr)(y:V)(H2:Hp):Prop|mk:∀o,DGet H2 a y o->Q (o.getD .non) H2->fw Q a y H2
inductive eM(ty:TE)(σ:St)(Q:VK)(x:V)(H1:Hp):Prop|mk:∀a,x=.ref a->rn H1 a->(ty σ H1 λy H2=>fw Q a y H2)->eM ty σ Q x H1
def xY(U B:TE):TE:=λσ H Q=>U σ H λx H1=>eM B σ Q x H1
inductive fu(Q:VK)(a:Addr)(y z:V)(H3:Hp):Prop|mk:∀o,DGet H3 a y o->Q (o.getD z) H3->fu Q a y z H3
inductive eL(ty tx:TE)(σ:St)(Q:VK)(x:V)(H1:Hp):Prop|mk:∀a,x=.ref a->rn H1 a->(ty σ H1 λy H2=>tx σ H2 λz H3=>fu Q a y z H3)->eL ty tx σ Q x H1
def D6(Z B U:TE):TE:=λσ H Q=>Z σ H λx H1=>eL B U σ Q x H1
section
variable{o f:Expr}{cpos:Pos}{td ty tx:TE}
theorem At(t:X.A.units+1<cLine)(v:PE X o td)(he:PE X e ty)(m:M1 X o "get" apos e cpos):PE X (.Call (.Attribute o "get" apos) [e] [] cpos) (xY td ty):=by intro b s f H Q I h;refine wpAny_Call_method m.base m.few m.line PySem.F.plainAttrs_dict PySem.F.slot_dict_get PySem.F.type_dict_get (aF (v b s f H _ I h) λu l ⟨x,C,i,p,a,w,d,r⟩=>?_);subst w;obtain rfl:u=Value.ref a:=p;obtain⟨k,j,_⟩:=so i d;refine⟨k,j,?_⟩;rw[m.trees];refine Calls.callWith_builtin J (Calls.evalArgs_plain (Calls.spliced_cons (aF (he b l f C _ i r) λK F ⟨y,B,A,n,G,g,q⟩=>Calls.spliced_nil ?_)));exact Dt t A g n λD E z c=>⟨_,B,z,c,q⟩
theorem V1(B:X.A.units+1<cLine)(C:PE X o td)(he:PE X e ty)(D:PE X f tx)(m:M2 X o "get" apos e f cpos):PE X (.Call (.Attribute o "get" apos) [e,f] [] cpos) (D6 td ty tx):=by
 intro b s c H Q I h;refine wpAny_Call_method m.base m.few m.line PySem.F.plainAttrs_dict PySem.F.slot_dict_get PySem.F.type_dict_get (aF (C b s c H _ I h) λu p ⟨x,N,j,t,a,E,d,A⟩=>?_);subst E;obtain rfl:u=Value.ref a:=t;obtain⟨l,k,_⟩:=so j d;refine⟨l,k,?_⟩;rw[m.trees];refine Calls.callWith_builtin J (Calls.evalArgs_plain (Calls.spliced_cons (aF (he b p c N _ j A) λW n ⟨y,M,K,r,w⟩=>Calls.spliced_cons (aF (D b n c M _ K w) λZ S ⟨z,L,G,q,U,g,v⟩=>Calls.spliced_nil ?_))))
 exact Du B G g r q λP R F i=>⟨_,L,F,i,v⟩
end
section
end
section
end
end L2
namespace HT
open PySem PyProof.Rows
variable{sl:Addr}{A:Around}{aC:Array Value}{s:Shared}{vl vu:Value}{E Q:Value->Shared->Prop}
section
open PySem.SeqAt
open PySem.AutoSeq1 (wpAny_loadPart')
open PySem.MeetsSeq PySem.MeetsSeq2 PySem.MeetsSeq3
end
section
variable{prog:Program}{w:World}
theorem qR{t b:Y}{vs a:O I}(u:IsTup s.heap t vs.toArray)(x:IsTup s.heap b a.toArray)(B:vs≠[])(y:a=[]->Q (.ref t) s) (C:a≠[]->Q (.ref s.heap.objs.size) {s with heap:=s.heap.push {cls:=.type "tuple",data:=.seq (vs++a).toArray}})
  (v:vs.length+a.length<=sizeLine):wpAny (model prog w) A (binaryOp .Add (.ref t) (.ref b)) Q E s:=by
 obtain⟨⟨z,o,p,j⟩,i,m,n,l⟩:=id u;obtain⟨⟨q,h,data2,d⟩,c,g,k,f⟩:=id x;simp only at m l g f;subst m l g f;have e:vs.toArray++a.toArray=(vs++a).toArray:=by simp
 by_cases r:a=[];exact concat_meets ⟨_,i,J⟩ ⟨_,c,J⟩ noFill_tuple_add seq_tuple_add PySem.F.slot_tuple_add PySem.F.entry_tuple_add (PySem.F.args_tuple_add_2 _ _)
  (tuple_addW1 t b vs.toArray a.toArray n k o h j d (by simp_all) (by grind)) ⟨i,c,y r⟩
 refine concat_meets ⟨_,i,J⟩ ⟨_,c,J⟩ noFill_tuple_add seq_tuple_add PySem.F.slot_tuple_add PySem.F.entry_tuple_add (PySem.F.args_tuple_add_2 _ _)
  (tuple_addW2 t b vs.toArray a.toArray n k o h j d (by simp_all) (by simp_all) (by omega)) ⟨i,c,?_⟩
 simp_all
noncomputable def bU(n d:Nat):Option Int->Nat|none=>d|some v=>if v<0 then(v+(n:Int)).toNat else min v.toNat n
theorem nV(n d:Nat):bU n d none=d:=rfl
theorem qM(n d k:Nat):bU n d (some (k:Int))=min k n:=by rfl
theorem D2(n d:Nat)(a:d<=n)(o:Option Int):bU n d o<=n:=by
 cases o with|none=>exact a| some v=>
   show(if v<0 then(v+n).toNat else min v.toNat n)<=n
   grind
theorem yG(v:Int)(n d:Nat):(if v<0 then max (v+(n:Int)) 0 else min v (n:Int))=((bU n d (some v):Nat):Int):=by
 show(if v<0 then max (v+n) 0 else min v n)=(((if v<0 then(v+n).toNat else min v.toNat n):Nat):Int)
 grind
theorem IT(lo a:Option Int)(n:Nat):Builtin.Slice.sliceAdjust lo a 1 (n:Int)=(((bU n 0 lo:Nat):Int),((bU n n a:Nat):Int)):=by
 have b:¬((1)<0):=by omega
 unfold Builtin.Slice.sliceAdjust;simp only[b,if_false];refine Prod.ext ?_ ?_;cases lo with|none=>rfl|some v=>exact yG v n 0
 cases a with|none=>rfl|some v=>exact yG v n n
theorem JF(i j:Nat):Builtin.Slice.slicePlaces (i:Int) (j:Int) 1=j-i:=by
 unfold Builtin.Slice.slicePlaces;have a:(1:Int)>0:=by omega
 simp only[a,if_true,Int.ediv_one];split<;>omega
theorem Ko{v:Value}{o:Option Int}{Q:Option Int->Shared->Prop}(p:IsPart v o)(h:Q o s):wpAny (model prog w) A (Builtin.Slice.slicePartIndex v) Q E s:=by cases p with|none=>exact slicePart_none h|int i t=>exact slicePart_int h
theorem Yf{lo b:Option Int}{n:Nat}{Q:Int×Int×Nat->Shared->Prop}(f:s.heap.IsSliceOf sl vl vu .none)(e:IsPart vl lo)(d:IsPart vu b)(h:Q (((bU n 0 lo:Nat):Int),1,bU n n b-bU n 0 lo) s):wpAny (model prog w) A (Builtin.Slice.sliceApplied (.ref sl) (pure (n:Int))) Q E s:=by obtain⟨os,a,g,c⟩:=id f;unfold Builtin.Slice.sliceApplied Builtin.Slice.sliceFields;refine a4 (a4 (wpAny_field a c J (a4 (wpAny_field a c J (a4 (wpAny_field a c J (a9 ?_)))))));refine a4 (slicePart_none ?_);rw[if_neg (by decide)];refine a4 (Ko e (a4 (Ko d (a4 (a9 ?_)))));show wpAny _ _ (match Builtin.Slice.sliceAdjust lo b 1 n with|(lo,b)=>pure (lo,(1:Int),Builtin.Slice.slicePlaces lo b 1)) _ _ s;rw[IT lo b n];show wpAny _ _ (pure (((bU n 0 lo):Int),(1),Builtin.Slice.slicePlaces ((bU n 0 lo:Nat)) ((bU n n b):Int) 1)) _ _ s;rw[JF];exact a9 h
theorem GK(xs:Array I)(i k:Nat):((List.range k).filterMap λ(m:Nat)=>xs[((i:Int)+(m:Int)*1).toNat]?).toArray=((xs.toList.drop i).take k).toArray:=by
 have e:(λ(m:Nat)=>xs[((i:Int)+m*1).toNat]?)=λm=>xs[i+m]?:=by grind
 rw[e];have:=pick_run xs i k;rw[List.filterMap_map]at this;have a:((λx=>xs[x]?)∘λx=>i+x)=λm=>xs[i+m]?:=rfl
 simp_all
theorem fG{t:Y}{lo b:Option Int}(c:IsTup s.heap t aC)(i:s.heap.IsSliceOf sl vl vu .none)(k:IsPart vl lo)(j:IsPart vu b)(l:¬(bU aC.size 0 lo=0/\bU aC.size aC.size b=aC.size))
  (h:Q (.ref s.heap.objs.size) {s with heap:=s.heap.push {cls:=.type "tuple",data:=.seq ((aC.toList.drop (bU aC.size 0 lo)).take (bU aC.size aC.size b-bU aC.size 0 lo)).toArray}})
  (m:aC.size<=sizeLine):wpAny (model prog w) A (getItem (.ref t) (.ref sl)) Q E s:=by
 have a:sizeOk (.seq ((aC.toList.drop (bU aC.size 0 lo)).take (bU aC.size aC.size b-bU aC.size 0 lo)).toArray):=by show((aC.toList.drop (bU aC.size 0 lo)).take (bU aC.size aC.size b-bU aC.size 0 lo)).toArray.size<=sizeLine;rw[d5,cx,List.length_drop,Array.length_toList];omega
 have r:bU aC.size aC.size b<=aC.size:=D2 _ _ (ag _) b;obtain⟨os,d,f,n⟩:=id i;have g:s.TypeIs (.ref sl) "slice":=⟨os,d,f⟩
 unfold getItem
 try with_reducible refine wpAny_holding ?_
 first|refine a4 (a9 ?_)|skip
 refine a4 (wpAny_sequenceKey c.typeIs (by decide) ?_);refine a4 (wpAny_callSpecial?_slot (name:=Str.ofString "__getitem__") c.typeIs PyProof.Rows.slot_tuple_getitem (cr PyProof.Rows.slot_tuple_getitem c.typeIs entry_tuple_getitem ?_ (args_tuple_getitem _ _)))
 show wpAny _ _ (Builtin.Tuple.tupleItemsOf (.ref t)>>=_) _ _ s;refine a4 (tupleItemsOf_ c ?_);refine a4 (wpAny_typeOf g ?_);rw[if_pos (by decide)];refine a4 (Yf i k j ?_);have e:¬((((bU aC.size 0 lo:Nat):Int)==0 && (1:Int)==1 && (bU aC.size aC.size b-bU aC.size 0 lo)==aC.size)=true):=by intro q;rw[cg,cg]at q;have p:((bU aC.size 0 lo:Nat):Int)=0:=eq_of_beq q.1.1;have o:bU aC.size aC.size b-bU aC.size 0 lo=aC.size:=eq_of_beq q.2;exact l ⟨by omega,by omega⟩
 show wpAny _ _ (if(((bU aC.size 0 lo:Nat):Int)==0 && (1:Int)==1 && (bU aC.size aC.size b-bU aC.size 0 lo)==aC.size)=true then _ else _) _ _ s;rw[if_neg e,GK];first|exact a4 (m:=Builtin.Tuple.tupleExact _) (d8 (a9 ⟨_,J,a9 h⟩) a)|exact a4 (m:=Builtin.Tuple.tupleExact _) (d8 (a4 (a9 (a9 ⟨_,J,a9 h⟩))) a)|exact a4 (a4 (m:=Builtin.Tuple.tupleExact _) (d8 (a9 (a9 ⟨_,J,a9 h⟩)) a))|exact a4 (a4 (m:=Builtin.Tuple.tupleExact _) (d8 (a9 ⟨_,J,a9 h⟩) a))
end
end HT
namespace L2
open PySem PySem.Spec PyProof.Rows
variable{A:Around}{X:Cx}{e:Expr}{H:Hp}{i:Int}{pins:List (Addr×Obj)}{es:List Expr}{ns:List Int}{xs ys:List V}{its dH us:List Value}{j t':Nat}{aD:Pos}{s:Shared}{σ:St}{x:V}{u v:Value}{E:Value->Shared->Prop}
abbrev TO:=St->Hp->(Option Int->Hp->Prop)->Prop
def PO(X:Cx)(e:Option Expr)(t:TO):Prop:=
 ∀ (pins:List (Addr×Obj)) (s:Shared) (σ:St) (H:Hp) (Q:Option Int->Hp->Prop),Inv X pins σ H s->t σ H Q->
   wpAny (model X.prog X.w) X.A (evalPart e X.env) (λu s'=>∃o H',Inv X pins σ H' s'/\IsPart u o/\Q o H') X.xe s
def Fm:TO:=λ_ H Q=>Q none H
inductive gr(Q:Option Int->Hp->Prop)(x:V)(H1:Hp):Prop|mk:∀i,x=.int i->Q (some i) H1->gr Q x H1
def Df(t:TE):TO:=λσ H Q=>t σ H λx H1=>gr Q x H1
theorem BI:∀{a:List Value},yu (ns.map V.int) a->IntsAre a ns:=by induction ns with|nil=>intro a r;rw[List.map_nil]at r;cases r;exact .nil| cons n ns d=>intro a r;rw[cb]at r;cases r with| cons c b=>obtain⟨t,e⟩:=c;subst e;exact .cons n t (d b)
section
variable{te:TE}{lo hi:Option Expr}{tl th:TO}{p2:Pos}
theorem Za:PO X none Fm:=by intro a s b H Q I h;rw[evalPart_none];exact a9 ⟨none,H,I,.none,h⟩
theorem k9(h:PE X e te):PO X (some e) (Df te):=by intro a s b H Q I f;rw[evalPart_some];refine aF (h a s b H _ I f) λu k ⟨x,j,g,c,d⟩=>?_;obtain⟨i,rfl,q⟩:=d;obtain⟨t,rfl⟩:=c;exact⟨some i,j,g,.int i t,q⟩
inductive pj(X:Cx)(pins:List (Addr×Obj))(s:Shared)(σ:St)(v:Value)(sl:Addr)(Q:VK):Prop|mk:∀T id,typeLookup (.type T) "__getitem__"=pure (some (.builtin id))->s.TypeIs v T->wpAny (model X.prog X.w) X.A (getItem v (.ref sl)) (EP X pins σ Q) X.xe s->pj X pins s σ v sl Q
def ni(X:Cx)(r:V->Option Int->Option Int->Hp->VK->Prop):Prop:=
 ∀ (pins:List (Addr×Obj)) (s:Shared) (σ:St) (H:Hp) (x:V) (v vl vu:Value) (lo hi:Option Int) (sl:Addr) (Q:VK),Inv X pins σ H s->yq x v->s.heap.IsSliceOf sl vl vu .none->IsPart vl lo->IsPart vu hi->r x lo hi H Q->
   pj X pins s σ v sl Q
def LW(r:V->Option Int->Option Int->Hp->VK->Prop)(Z:TE)(B U:TO):TE:=λσ H Q=>Z σ H λx H1=>B σ H1 λl H2=>U σ H2 λu H3=>r x l u H3 Q
theorem jo{r:V->Option Int->Option Int->Hp->VK->Prop}(A:ni X r)(he:PE X e te)(hl:PO X lo tl)(y:PO X hi th):PE X (.Subscript e (.Slice lo hi none p2) aD) (LW r te tl th):=by intro a s c H Q I h;refine Subscript_ (aF (he a s c H _ I h) λv k ⟨x,K,F,m,p⟩=>?_);refine wpAny_Slice (aF (hl a k c K _ F p) λg j ⟨l,G,E,w,o⟩=>aF (y a j c G _ E o) λf d ⟨u,i,D,t,n⟩=>?_);rw[evalPart_none];refine a9 ?_;have C:Inv X a c i {d with heap:=d.heap.push {cls:=.type "slice",data:=.fields #[g,f,.none]}}:=D.kept λb L q=>au _ q;obtain⟨T,id,hT,z,B⟩:=A a {d with heap:=d.heap.push {cls:=.type "slice",data:=.fields #[g,f,.none]}} c i x v g f l u d.heap.objs.size Q C m (Heap.IsSliceOf.new ..) w t n;exact tail_any z hT B (by rfl)
noncomputable def mH(xs:List V)(lo B:Option Int):List V:=(xs.drop (HT.bU xs.length 0 lo)).take (HT.bU xs.length xs.length B-HT.bU xs.length 0 lo)
theorem Jo(xs:O V)(lo a:Option Int):(mH xs lo a).length<=xs.length:=by unfold mH;rw[cx,List.length_drop];omega
inductive nZ(K:W.Frag)(x:V)(lo hi:Option Int)(H:Hp)(Q:VK):Prop|mk:∀a xs,x=.ref a->aE K H a xs->¬(HT.bU xs.length 0 lo=0/\HT.bU xs.length xs.length hi=xs.length)->(∀p,H p=none->Q (.ref p) (upd H p (.tup (mH xs lo hi))))->nZ K x lo hi H Q
theorem D4:ni X (nZ X.K):=by
 intro f s p H x v u t lo i w Q I j o l k h;obtain⟨a,c,rfl,n,z,q⟩:=h;cases j;obtain⟨e,r,g,m⟩:=I.tuple n;have d:e.toArray.size=c.length:=by rw[d5];exact r.length.symm
 refine⟨"tuple",_,PyProof.Rows.slot_tuple_getitem.lookup,g.typeIs,?_⟩;refine HT.fG g o l k (by simp_all) ?_ (by omega);rw[d];refine⟨.ref s.heap.objs.size,_,I.laid (λb y q=>au _ q) (ag _) ?_,J,q _ (I.hok.fresh (ag _))⟩;exact⟨cj (Jo c lo i) m,_,(r.drop (HT.bU c.length 0 lo)).take (HT.bU c.length c.length i-HT.bU c.length 0 lo),IsTup.new _ _,iF.push⟩
inductive kQ(K:W.Frag)(x y:V)(H:Hp)(Q:VK):Prop|mk:∀a b xs ys,x=.ref a->y=.ref b->aE K H a xs->aE K H b ys->xs≠[]->xs.length+ys.length<=sizeLine->(ys=[]->Q (.ref a) H)->(ys≠[]->∀p,H p=none->Q (.ref p) (upd H p (.tup (xs++ys))))->kQ K x y H Q
theorem yu.nil_iff(r:yu xs us):us=[]↔xs=[]:=by cases r with|nil=>simp|cons _ _=>simp
theorem Ae:cE X (binaryOp .Add) (kQ X.K):=by intro e s t H x y v u Q I i g h;obtain⟨a,b,B,A,rfl,rfl,r,p,o,D,k,j⟩:=h;cases i;cases g;obtain⟨n,d,m,_⟩:=I.tuple r;obtain⟨f,c,l,_⟩:=I.tuple p;refine HT.qR m l (λz=>o (d.nil_iff.mp z)) (λz=>⟨.ref a,H,I,J,k (c.nil_iff.mp z)⟩) (λz=>?_) (by rw[<-d.length,<-c.length];omega);refine⟨.ref s.heap.objs.size,_,I.laid (λb C q=>au _ q) (ag _) ?_,J,j (λw=>z (c.nil_iff.mpr w)) _ (I.hok.fresh (ag _))⟩;exact⟨by simp_all,_,d.append c,IsTup.new _ _,iF.push⟩
end
noncomputable def jN(n:Nat)(i:Int):Option Nat:=if 0<=i then(if i<n then some i.toNat else none)else if -(n:Int)<=i then some (i+n).toNat else none
noncomputable def cZ{B:Type}(xs:List B)(i:Int):Option B:=(jN xs.length i).bind λj=>xs[j]?
theorem zD{n:Nat}(h:jN n i=some j):seqIndex? i n=some j/\j<n/\ -(n:Int)<=i/\i<n:=by
 unfold jN at h;by_cases b:0<=i;rw[if_pos b]at h;by_cases a:i<n;rw[if_pos a]at h;have e:=Option.some.inj h;exact⟨by rw[seqIndex_of b a,e],by omega,by omega,a⟩
 simp_all
 rw[if_neg b]at h;by_cases a: -n<=i;rw[if_pos a]at h;have e:=Option.some.inj h;exact⟨by rw[seqIndex_neg (by omega) a,e],by omega,a,by omega⟩
 simp_all
theorem yE{a:Type}{xs:List a}{v:a}(h:cZ xs i=some v):∃j,seqIndex? i xs.length=some j/\xs[j]?=some v/\j<xs.length/\ -(xs.length:Int)<=i/\i<xs.length:=by
 unfold cZ at h;cases e:jN xs.length i with|none=>simp_all| some j=>
   rw[e]at h;obtain⟨f,d,c,b⟩:=zD e
   simp_all
theorem xt{a:Type}{xs:O a}{v:a}(h:xs[j]?=some v):cZ xs (j:Int)=some v:=by
 have b:=(cp.mp h).1;have e:jN xs.length j=some j:=by
  unfold jN
  simp_all
 unfold cZ;simp_all
def Eo(b:Expr):Prop:=∀o i,subscripted b false o i=operate [o,i] (getItem o i)
def qY(X:Cx)(r:R2):Prop:=
 ∀ (aY B:Expr) (pins:List (Addr×Obj)) (s:Shared) (σ:St) (H:Hp) (x y:V) (v u:Value) (Q:VK),Inv X pins σ H s->yq x v->yq y u->r x y H Q->
   subscripted B false v u=operate [v,u] (getItem v u)->wpAny (model X.prog X.w) X.A (subscriptTail aY B v u) (EP X pins σ Q) X.xe s
def uY(X:Cx)(id:String)(r:V->List V->Hp->VK->Prop):Prop:=
 ∀ (pins:List (Addr×Obj)) (s:Shared) (σ:St) (H:Hp) (x:V) (xs:List V) (v:Value) (us:List Value) (Q:VK),Inv X pins σ H s->yq x v->yu xs us->r x xs H Q->
   wpAny (model X.prog X.w) X.A (call (.builtin id) (v::us)) (EP X pins σ Q) X.xe s
section
variable{a b:Expr}{ta tb:TE}
theorem zt{r:R2}(j:qY X r)(l:PE X a ta)(k:PE X b tb)(i:Eo b:=by exact λ_ _=>rfl):PE X (.Subscript a b aD) (qJ r ta tb):=by intro c s d H Q I h;exact Subscript_ (rF l k I h λv u e x y n m g f q=>j a b c e d n x y v u Q m g f q (i _ _))
inductive om(K:W.Frag)(x y:V)(H:Hp)(Q:VK):Prop|mk:∀p xs i v,x=.ref p->y=.int i->aI K H p xs->cZ xs i=some v->Q v H->om K x y H Q
inductive cL(K:W.Frag)(x y:V)(H:Hp)(Q:VK):Prop|mk:∀p xs i v,x=.ref p->y=.int i->aE K H p xs->cZ xs i=some v->Q v H->cL K x y H Q
theorem Zb:qY X (om X.K):=by
 intro P b a s l H x y v u Q I n m h f;obtain⟨p,F,i,z,rfl,rfl,o,B,q⟩:=h;cases n;obtain⟨t,rfl⟩:=m;obtain⟨e,r,d,G⟩:=I.list o;obtain⟨j,g,E,M,D,C⟩:=yE B;obtain⟨w,N,c⟩:=r.get E;have L:=r.length;have K:=Q4;have fin:EP X a l Q w s:=⟨z,H,I,c,q⟩
 by_cases k:0<=i;have A:i.toNat=j:=by
  rw[seqIndex_of k C]at g
  simp_all
 exact item_listR d.isList k (by omega) (by simp_all) fin f;have A:(i+e.toArray.size).toNat=j:=by
  rw[seqIndex_neg (by omega) D]at g
  simp_all
 exact subscriptTail_builtinR d.isList.typeIs slot_list_getitem.lookup
  (wpAny_getItem_list_neg d.isList (by omega) (by simp_all) (by omega) (by simp_all) ⟨J,fin⟩) f
theorem zp:qY X (cL X.K):=by
 intro M b a s e H x y v u Q I g f h l;obtain⟨p,B,i,z,rfl,rfl,m,o,q⟩:=h;cases g;obtain⟨t,rfl⟩:=f;obtain⟨k,r,d,C⟩:=I.tuple m;obtain⟨j,K,A,G,F,E⟩:=yE o;obtain⟨w,L,c⟩:=r.get A;have n:=r.length;have D:=Q4;have fin:EP X a e Q w s:=⟨z,H,I,c,q⟩
 exact subscriptTail_builtinR d.typeIs slot_tuple_getitem.lookup
  (getItem_tuple d (by omega) (by omega) (by rw[d5,<-n];omega) (by simp_all) ⟨J,fin⟩) l
theorem IQ(its:O I)(n j:Nat)(u:I):Obj.mapSeq (·.setIfInBounds j u) {cls:=.type "list",data:=.seq its.toArray n}={cls:=.type "list",data:=.seq (its.set j u).toArray n}:=by simp[Obj.mapSeq]
theorem Inv.lst{a:O (Y×Obj)}{b:St}{H:Hp}{s:Shared}{p:Y}{xs:O V}(I:Inv X a b H s)(h:H p=some (.lst xs)):∃(its:O Value)(n:Nat),yu xs its/\s.heap.get? p=some {cls:=.type "list",data:=.seq its.toArray n}/\xs.length<=sizeLine:=by
 obtain⟨z,its,n,r,e⟩:=I.hok p _ h
 simp_all
theorem Inv.lstUpd{p:Y}{n a:Nat}{f:Obj->Obj}(I:Inv X pins σ H s)(h:H p=some (.lst xs))(d:s.heap.get? p=some {cls:=.type "list",data:=.seq its.toArray n}) (c:f {cls:=.type "list",data:=.seq its.toArray n}={cls:=.type "list",data:=.seq dH.toArray a}) (r:yu ys dH) (hz:ys.length<=sizeLine) (t:Nat):
  Inv X pins σ (upd H p (.lst ys)) {s with heap:=s.heap.update p f,toks:=t}:=by
 have e:(s.heap.update p f).get? p=some {cls:=.type "list",data:=.seq dH.toArray a}:=by rw[Heap.get?_update_self f d (by rw[c]<;>rfl),c]
 refine I.write (by rw[h];trivial) (.inl J) (λb u g q=>(Heap.get?_update_other _ _ (ak g)).trans q) ⟨_,e⟩ ?_;exact⟨hz,dH,a,r,e⟩
inductive kJ(o i v:V)(H:Hp)(Q:Hp->Prop):Prop|mk:∀p xs k j,o=.ref p->i=.int k->H p=some (.lst xs)->jN xs.length k=some j->Q (upd H p (.lst (xs.set j v)))->kJ o i v H Q
theorem AK:rD X kJ:=by
 intro c s z H o i v B C u Q I l m g h;obtain⟨p,A,k,j,rfl,rfl,d,w,q⟩:=h;cases l;obtain⟨t,rfl⟩:=m;obtain⟨a,n,r,b,D⟩:=I.lst d;obtain⟨e,G,y,x⟩:=zD w;have F:=r.length;have E:=Q4;have K:=
  I.lstUpd d b (IQ a n j u) (r.set g j) (by simp_all) s.toks
 by_cases f:0<=k;have hk:k.toNat=j:=by
  rw[seqIndex_of f x]at e
  simp_all
 exact W.ki_setAt b f (by omega) (by simp_all) (by grind);have hk:(k+a.toArray.size).toNat=j:=by
  rw[seqIndex_neg (by omega) y]at e
  simp_all
 exact W.ki_setBack b (by omega) (by simp_all) (by omega) (by grind)
theorem Lu(lo a:Option Int)(n:Nat):(sliceBounds lo a none n).1=((HT.bU n 0 lo:Nat):Int)/\(sliceBounds lo a none n).2.1=((HT.bU n n a:Nat):Int)/\(sliceBounds lo a none n).2.2=1:=by
 refine⟨?_,?_,J⟩;cases lo with|none=>rfl| some i=>
   simp only[sliceBounds,HT.bU,Option.getD_none,show(1)>0 by decide,if_true]
   grind
 cases a with|none=>rfl| some i=>
   simp only[sliceBounds,HT.bU,Option.getD_none,show(1)>0 by decide,if_true]
   grind
theorem LL(its:O I)(lo a:Option Int):slicePick its.toArray lo a none=((its.drop (HT.bU its.length 0 lo)).take (HT.bU its.length its.length a-HT.bU its.length 0 lo)).toArray:=by obtain⟨d,c,b⟩:=Lu lo a its.toArray.size;unfold slicePick;rw[d,c,b];simp only[sliceRange_one,pick_run,d5]<;>rfl
inductive og(K:W.Frag)(x:V)(lo hi:Option Int)(H:Hp)(Q:VK):Prop|mk:∀a xs,x=.ref a->aI K H a xs->(∀p,H p=none->Q (.ref p) (upd H p (.lst (mH xs lo hi))))->og K x lo hi H Q
theorem Fi:ni X (og X.K):=by intro e s p H x v u t lo g w Q I i o k j h;obtain⟨a,c,rfl,n,q⟩:=h;cases i;obtain⟨l,r,f,m⟩:=I.list n;have d:=r.length;refine⟨"list",_,slot_list_getitem.lookup,f.isList.typeIs,?_⟩;refine wpAny_getItem_list_slice f.isList o k j .none (by simp) ?_ (by simp_all);rw[LL,<-d];refine⟨.ref s.heap.objs.size,_,I.laid (λb y q=>au _ q) (ag _) ?_,J,q _ (I.hok.fresh (ag _))⟩;exact⟨cj (Jo c lo g) m,_,0,(r.drop (HT.bU c.length 0 lo)).take (HT.bU c.length c.length g-HT.bU c.length 0 lo),bq _ J⟩
noncomputable def Qa:V->Bool|.non=>true|.bl _=>true|.int _=>true|.str _=>true|_=>false
noncomputable def lb:V->V->Bool|.non,.non=>true|.bl a,.bl b=>a==b|.bl a,.int b=>(if a then 1 else 0)==b|.int a,.bl b=>a==(if b then 1 else 0)|.int a,.int b=>a==b|.str a,.str b=>a==b|_,_=>false
theorem Dy{y:V}(e:yq y u)(c:yq x v)(g:Qa y=true)(f:Qa x=true):SeqAt.EqAt A s u v (lb y x):=by
 cases y with
 | non=>
   cases e;cases x with
   |non=>cases c;exact SeqAt.EqAt.same _
   |bl b=>cases c;exact SeqAt.EqAt.none_bool b
   |int b=>obtain⟨t,rfl⟩:=c;exact SeqAt.EqAt.none_int b t
   |str b=>obtain⟨t,rfl⟩:=c;exact SeqAt.EqAt.none_str b t
   |_=>exact absurd (f) bu
 | bl a=>
   cases e;cases x with
   |non=>cases c;exact SeqAt.EqAt.bool_none a
   |bl b=>cases c;exact SeqAt.EqAt.bool_bool a b
   |int b=>obtain⟨t,rfl⟩:=c;exact SeqAt.EqAt.bool_int a b t
   |str b=>obtain⟨t,rfl⟩:=c;exact SeqAt.EqAt.bool_str a b t
   |_=>exact absurd (f) bu
 | int a=>
   obtain⟨d,rfl⟩:=e;cases x with
   |non=>cases c;exact SeqAt.EqAt.int_none a d
   |bl b=>cases c;exact SeqAt.EqAt.int_bool a d b
   |int b=>obtain⟨t,rfl⟩:=c;exact SeqAt.EqAt.int_int a d b t
   |str b=>obtain⟨t,rfl⟩:=c;exact SeqAt.EqAt.int_str a d b t
   |_=>exact absurd (f) bu
 | str a=>
   obtain⟨d,rfl⟩:=e;cases x with
   |non=>cases c;exact SeqAt.EqAt.str_none a d
   |bl b=>cases c;exact SeqAt.EqAt.str_bool a d b
   |int b=>obtain⟨t,rfl⟩:=c;exact SeqAt.EqAt.str_int a d b t
   |str b=>obtain⟨t,rfl⟩:=c;exact SeqAt.EqAt.str_str a d b t
   |_=>exact absurd (f) bu
 |_=>exact absurd (g) bu
noncomputable def ff(x:V)(u:Value):Bool:=match u with|.none=>lb .non x|.bool b=>lb (.bl b) x|.int i _=>lb (.int i) x|.str z _=>lb (.str z) x|_=>false
theorem xH{y:V}(r:yq y u)(f:Qa y=true):ff x u=lb y x:=by cases y with|non=>cases r;rfl|bl b=>cases r;rfl|int i=>obtain⟨t,rfl⟩:=r;rfl|str z=>obtain⟨t,rfl⟩:=r;rfl|_=>exact absurd (f) bu
theorem Qj{x:V}:∀{xs:List V}{a:List Value},yu xs a->xs.all Qa=true->a.any (ff x)=xs.any λy=>lb y x|_,_,.nil,_=>rfl| y::xs,u::a,.cons r t,f=>by rw[List.all_cons,cg]at f;rw[List.any_cons,List.any_cons,xH r f.1,Qj t f.2]
theorem Xk{A:Around}{s:Shared}{x:V}{v:Value}(c:yq x v)(d:Qa x=true):∀{xs:List V}{b:List Value},yu xs b->xs.all Qa=true->∀u∈b,SeqAt.EqAt A s u v (ff x u)|_,_,.nil,_=>λu a=>by grind| y::xs,u::b,.cons r t,f=>λe a=>by rw[List.all_cons,cg]at f;rcases az.mp a with rfl|a;rw[xH r f.1];exact Dy r c f.1 d;exact Xk c d t f.2 e a
noncomputable def qP(x:V)(xs:List V):Bool:=xs.any λy=>lb y x
inductive uH(K:W.Frag)(neg:Bool)(x y:V)(H:Hp)(Q:VK):Prop|mk:∀p xs,y=.ref p->(aI K H p xs\/aE K H p xs)->Qa x=true->xs.all Qa=true->Q (.bl (if neg then !qP x xs else qP x xs)) H->uH K neg x y H Q
theorem X2:cE X (compareOp .In) (uH X.K false):=by intro f s l H x y v u Q I e i h;obtain⟨p,m,rfl,b,g,c,q⟩:=h;cases i;rcases b with b|b;obtain⟨a,r,d,j⟩:=I.list b;refine SeqAt.in_listAt (ff x) d.isList (λw k=>Xk e g r c w (by simp_all)) ⟨.bl _,H,I,J,?_⟩;rw[show a.toArray.any (ff x)=a.any (ff x) by simp,Qj r c];exact q;obtain⟨a,r,d,j⟩:=I.tuple b;refine SeqAt.in_tupleAt (ff x) d (λw k=>Xk e g r c w (by simp_all)) ⟨.bl _,H,I,J,?_⟩;rw[show a.toArray.any (ff x)=a.any (ff x) by simp,Qj r c];exact q
theorem Lq:cE X (compareOp .NotIn) (uH X.K true):=by intro g s l H x y v u Q I f j h;obtain⟨p,m,rfl,b,i,c,q⟩:=h;cases j;rcases b with b|b;obtain⟨a,r,d,k⟩:=I.list b;refine SeqAt.notIn_listAt (ff x) d.isList (λw e=>Xk f i r c w (by simpa using e)) ⟨.bl _,H,I,J,?_⟩;rw[show a.toArray.any (ff x)=a.any (ff x) by simp,Qj r c];exact q;obtain⟨a,r,d,k⟩:=I.tuple b;refine SeqAt.notIn_tupleAt (ff x) d (λw e=>Xk f i r c w (by simpa using e)) ⟨.bl _,H,I,J,?_⟩;rw[show a.toArray.any (ff x)=a.any (ff x) by simp,Qj r c];exact q
theorem yp:jp X (.builtin "len") (λxs H Q=>∃p ys,xs=[.ref p]/\(aI X.K H p ys\/aE X.K H p ys)/\Q (.int ys.length) H):=by intro f s j H xs k Q I r h;obtain⟨p,ys,rfl,b,q⟩:=h;obtain⟨u,rfl,g⟩:=jz r;cases g;have l:=Q4;rcases b with b|b;obtain⟨e,c,d,i⟩:=I.list b;have a:=c.length;exact Calls.call_len_list d.isList (by grind) ⟨.int ys.length,H,I.tok _,⟨s.toks+1,by rw[d5,a]⟩,q⟩;obtain⟨e,c,d,i⟩:=I.tuple b;have a:=c.length;exact len_tuple d (by grind) ⟨.int ys.length,H,I.tok _,⟨s.toks+1,by rw[d5,a]⟩,q⟩
theorem Qg:jp X (.builtin "len") (λxs H Q=>∃z,xs=[.str z]/\z.length<=sizeLine/\Q (.int z.length) H):=by intro a s b H xs c Q I r h;obtain⟨z,rfl,d,q⟩:=h;obtain⟨u,rfl,t,rfl⟩:=jz r;have e:=Q4;exact len_str (by omega) ⟨.int z.length,H,I.tok _,⟨_,J⟩,q⟩
theorem Lh:jp X (.type "list") (λxs H Q=>∃p ys,xs=[.ref p]/\(aI X.K H p ys\/aE X.K H p ys)/\∀l,H l=none->Q (.ref l) (upd H l (.lst ys))):=by
 intro g s z H xs B Q I r h;obtain⟨p,ys,rfl,k,q⟩:=h;obtain⟨u,rfl,A⟩:=jz r;cases A;have fin:∀(a:O Value),yu ys a->ys.length<=sizeLine->∀(c:Heap)(f:Nat),(∀b y,s.heap.get? b=some y->c.get? b=some y)->
   c.get? s.heap.objs.size=some {cls:=.type "list",dict:=none,data:=.seq a.toArray f,slots:=#[]}->EP X g z Q (.ref s.heap.objs.size) {s with heap:=c}:=λa d j c f i e=>⟨.ref s.heap.objs.size,_,I.laid i (ag _) (show qf X.prog X.w _ c _ (.lst ys)from⟨j,a,f,d,e⟩),J,q _ (I.hok.fresh (ag _))⟩
 rcases k with k|k;obtain⟨a,d,t,j⟩:=I.list k;have m:=d.length;obtain⟨o,v,x,n,w⟩:=t.isList;exact call_list_seq p (.inl J) v x w (λc f i e=>fin a d j c f i e) (by simp_all);obtain⟨a,d,t,j⟩:=I.tuple k;have m:=d.length;obtain⟨o,v,x,n,w⟩:=t;exact call_list_seq p (.inr J) v x w (λc f i e=>fin a d j c f i e) (by simp_all)
theorem Yb:jp X (.type "tuple") (λxs H Q=>∃p ys,xs=[.ref p]/\((aI X.K H p ys/\∀l,H l=none->Q (.ref l) (upd H l (.tup ys)))\/(aE X.K H p ys/\Q (.ref p) H))):=by
 intro g s w H xs x Q I r h;obtain⟨p,ys,rfl,h⟩:=h;obtain⟨u,rfl,m⟩:=jz r;cases m;rcases h with⟨f,q⟩|⟨f,q⟩;obtain⟨a,c,d,i⟩:=I.list f;have j:=c.length;refine call_tuple_list d.isList (λt n=>?_) (by simp_all);have k:=I.kept (t':=s.toks) n;have v:=
  k.laid (t':=s.toks) (λb o e=>au _ e) (ag _) (show qf X.prog X.w _ _ _ (.tup ys)from⟨i,a,c,IsTup.new _ _,iF.push⟩)
 exact⟨.ref t.objs.size,_,v,J,q _ (k.hok.fresh (ag _))⟩;obtain⟨a,c,d,i⟩:=I.tuple f;exact call_tuple_same d ⟨.ref p,H,I,J,q⟩
def uF(K:W.Frag)(T:String)(x:V)(H:Hp):Prop:=match x with|.str _=>T="str"|.int _=>T="int"|.ref p=>(T="list"/\∃xs,aI K H p xs)\/(T="tuple"/\∃o,K.lookup p=some o/\o.cls=.type "tuple"/\o.dict=none)\/
  (T="dict"/\((∃kvs,H p=some (.dK kvs))\/∃kvs,H p=some (.dT kvs)))\/(T="set"/\∃S n,H p=some (.set S n))|_=>False
theorem yA{T:String}(I:Inv X pins σ H s)(r:yq x v)(d:uF X.K T x H):s.TypeIs v T/\∀a,v=.ref a->∃j,s.heap.get? a=some j/\j.dict=none:=by
 cases x with| str z=>
   obtain⟨t,rfl⟩:=r;cases(d);exact⟨typeIs_str s z t,λ_ e=>nomatch e⟩| int i=>
   obtain⟨t,rfl⟩:=r;cases(d);exact⟨typeIs_int s i t,λ_ e=>nomatch e⟩| ref p=>
   cases r;rcases d with⟨rfl,u,m⟩|⟨rfl,o,hk,q,k⟩|⟨rfl,hk⟩|⟨rfl,S,n,hk⟩;obtain⟨l,_,h,_⟩:=I.list m;refine⟨h.isList.typeIs,λa e=>?_⟩;cases e;obtain⟨o,n,e,c,k,_⟩:=h
   simp_all
   refine⟨⟨o,I.kIn p o hk,q⟩,λa e=>?_⟩;cases e;exact⟨o,I.kIn _ o hk,k⟩;have z:∃o,s.heap.get? p=some o/\o.ExactDict:=by
    rcases hk with⟨f,hk⟩|⟨f,hk⟩;obtain⟨_,_,_,_,o,_,_,e,b,_⟩:=I.hok p _ hk
    simp_all
    obtain⟨_,_,_,_,o,_,_,e,b,_⟩:=I.hok p _ hk
    simp_all
   obtain⟨o,e,b⟩:=z;refine⟨⟨o,e,b.1⟩,λa g=>?_⟩;cases g;exact⟨o,e,b.2.1⟩;obtain⟨o,_,_,_,e,b,_⟩:=I.hok p _ hk;refine⟨⟨o,e,b.1⟩,λa g=>?_⟩;cases g;exact⟨o,e,b.2.1⟩|_=>exact False.elim d
def Cl(K:W.Frag)(T:String)(r:V->List V->Hp->VK->Prop)(to:TE):TE:=λσ H Q=>to σ H λx H1=>uF K T x H1/\r x [] H1 Q
def LZ(K:W.Frag)(T:String)(r:V->List V->Hp->VK->Prop)(to:TE)(t:TA):TE:=λσ H Q=>to σ H λx H1=>uF K T x H1/\t σ H1 λxs H2=>r x xs H2 Q
variable{o:Expr}{to:TE}{t:TA}{name:Str}{apos cpos:Pos}{T id:String}{r:V->List V->Hp->VK->Prop}
theorem xJ(m:PlainAttrs T)(d:Slot T name id)(e:typeOf (.builtin id)=pure (.type "method_descriptor"))(p:uY X id r)(n:PE X o to)(c:attributeBase o name X.env (eval o X.env)=eval o X.env:=by rfl) (b:(apos.endLine==cpos.line)=true:=by rfl):PE X (.Call (.Attribute o name apos) [] [] cpos) (Cl X.K T r to):=by intro a s f H Q I h;refine wpAny_Call_method0_late c b (aF (n a s f H _ I h) λv k ⟨x,u,i,g,j,l⟩=>?_);obtain⟨t,q⟩:=yA i g j;exact⟨T,id,m,d,e,t,q,Calls.callWith_builtin J (PySem.evalArgs_none (p a k f u x [] v [] Q i g .nil l))⟩
theorem Zv(B:PlainAttrs T)(d:Slot T name id)(j:typeOf (.builtin id)=pure (.type "method_descriptor"))(E:uY X id r)(D:PE X o to)(F:PA X (e::es) t)(c:attributeBase o name X.env (eval o X.env)=eval o X.env:=by rfl)
  (f:((backTo cpos (starEach (e::es) X.env)).all (λx=> !x.1) && (backToKw cpos (keywordEach [] X.env)).all (λx=>x.1.isSome) && decide ((e::es).length+([]:O Keyword).length+(if([]:O Keyword).isEmpty then 0 else 1)<30))=true:=by rfl)
  (b:(apos.endLine==cpos.line)=true:=by rfl) (C:starEach (e::es) X.env=(false,eval e X.env)::starEach es X.env:=by rfl) (g:(backTo cpos (starEach es X.env)).any (·.1)=false:=by rfl):
  PE X (.Call (.Attribute o name apos) (e::es) [] cpos) (LZ X.K T r to t):=by intro a s i H Q I h;refine wpAny_Call_method_late c f b J (aF (D a s i H _ I h) λv w ⟨x,N,m,k,q,A⟩=>?_);obtain⟨K,G⟩:=yA m k q;refine⟨T,id,B,d,j,K,G,?_⟩;have l:=F cpos a w i N _ m A;rw[C]at l⊢;refine Calls.callWith_builtin (by simp_all) (Calls.evalArgs_plain ?_);exact aF l λp u ⟨n,M,L,y,z⟩=>E a u i M x n v p Q L k y z
/-xs.append(e),list.index on a module's tuple .. are MtR facts of 06m -/
end
def uZ(X:Cx)(id:String)(r:V->List V->Hp->VK->Prop):Prop:=
 ∀ (pins:List (Addr×Obj)) (s:Shared) (σ:St) (H:Hp) (x:V) (xs:List V) (v:Value) (us:List Value) (Q:VK),Inv X pins σ H s->yq x v->yu xs us->r x xs H Q->
   wpAny (model X.prog X.w) X.A (call (.builtin id) (v::us)) (EP X pins σ Q) X.xe s
theorem yu.one:∀{x:V}{a:List Value},yu [x] a->∃u,a=[u]/\yq x u|_,_,.cons r .nil=>⟨_,J,r⟩
theorem yu.zero:∀{a:List Value},yu [] a->a=[]|_,.nil=>rfl
theorem yu.dropLast{xs:List V}{a:List Value}(h:yu xs a):yu xs.dropLast a.dropLast:=by induction h with|nil=>exact .nil| cons r t b=>cases t with|nil=>grind|cons q c=>exact .cons r b
theorem yu.rep{xs:List V}{a:List Value}(h:yu xs a):∀k:Nat,yu (List.replicate k xs).flatten (List.replicate k a).flatten|0=>.nil| k+1=>by rw[List.replicate_succ,List.replicate_succ,List.flatten_cons,List.flatten_cons];exact yu.append h (yu.rep h k)
theorem IL{a:Type}(l:O a):l.eraseIdx (l.length-1)=l.dropLast:=by simp
theorem Bi(its:List Value):∀(k:Nat)(a:List Value),List.foldl (λc b=>c++b) a.toArray (List.replicate k its.toArray)=(a++(List.replicate k its).flatten).toArray
 |0,a=>by simp
 | k+1,a=>by
   have e:a.toArray++its.toArray=(a++its).toArray:=by simp
   have d:(a++its)++(List.replicate k its).flatten=a++(List.replicate (k+1) its).flatten:=by rw[List.replicate_succ,List.flatten_cons,List.append_assoc]
   rw[<-d,<-Bi its k (a++its),<-e,List.replicate_succ,List.foldl_cons]
section
variable{l b:Addr}{zs:List V}
theorem Inv.lset{n:Nat}{f:Array Value->Array Value}(I:Inv X pins σ H s)(g:H l=some (.lst xs))(e:s.heap.get? l=some {cls:=.type "list",data:=.seq its.toArray n}) (c:f its.toArray=dH.toArray) (a:yu ys dH) (hz:ys.length<=sizeLine):
  Inv X pins σ (upd H l (.lst ys)) {s with heap:=s.heap.update l (Obj.mapSeq f),toks:=t'}:=by have q:=PySem.IsL.update e f;rw[c]at q;refine I.write (by rw[g];exact trivial) (.inl J) (λh u d b=>(Heap.get?_update_other s.heap (Obj.mapSeq f) (ak d)).trans b) ⟨_,q⟩ ?_;exact⟨hz,dH,_,a,q⟩
theorem Inv.lnew(I:Inv X pins σ H s)(a:yu ys its)(hz:ys.length<=sizeLine):Inv X pins σ (upd H s.heap.objs.size (.lst ys)) {s with heap:=s.heap.push {cls:=.type "list",data:=.seq its.toArray},toks:=t'}:=
 I.laid (λ_ _ q=>au _ q) (ag _) ⟨hz,its,0,a,bq _ J⟩
theorem Inv.fresh(I:Inv X pins σ H s):H s.heap.objs.size=none:=I.hok.fresh (ag _)
theorem Inv.lstM(I:Inv X pins σ H s)(a:H l=some (.lst xs)):xs.length<=sizeLine/\∃(its:O Value)(n:Nat),yu xs its/\xs.length=its.length/\s.heap.get? l=some {cls:=.type "list",data:=.seq its.toArray n}:=by obtain⟨z,its,n,r,e⟩:=I.hok l _ a;exact⟨z,its,n,r,r.length,e⟩
theorem Ar{n:Nat}(h:n<=sizeLine):Builtin.List.listTooLong n=false:=by
 unfold Builtin.List.listTooLong
 simp_all
end
section
inductive fC(x:V)(vs:List V)(H:Hp)(Q:VK):Prop|mk:∀l xs y,x=.ref l->vs=[y]->H l=some (.lst xs)->xs.length<sizeLine->Q .non (upd H l (.lst (xs++[y])))->fC x vs H Q
theorem qv:uZ X "list.append" fC:=by
 intro b s i H x k v m Q I d f h;obtain⟨l,j,y,rfl,rfl,c,o,q⟩:=h;cases d;obtain⟨u,rfl,g⟩:=f.one;obtain⟨z,a,n,r,p,e⟩:=I.lstM c;refine call_meets F.slot_list_append ⟨_,e,J⟩ F.entry_list_append (F.args_list_append_2 _ _) (list_append l a.toArray n u (by simp_all)) ⟨e,?_⟩;refine⟨.non,_,I.lset c e (by simp) (r.append (.cons g .nil)) ?_,J,q⟩
 grind
inductive fB(x:V)(vs:List V)(H:Hp)(Q:VK):Prop|mk:∀l b xs zs,x=.ref l->vs=[.ref b]->H l=some (.lst xs)->H b=some (.lst zs)->xs.length+zs.length<=sizeLine->Q .non (upd H l (.lst (xs++zs)))->fB x vs H Q
theorem Yk:uZ X "list.extend" fB:=by
 intro g s A H x E v G Q I j k h;obtain⟨l,b,D,B,rfl,rfl,i,w,K,q⟩:=h;cases j;obtain⟨u,rfl,m⟩:=k.one;cases m;obtain⟨z,c,n,r,L,e⟩:=I.lstM i;obtain⟨C,a,p,o,t,y⟩:=I.lstM w;have f:c.toArray.size+a.toArray.size<=sizeLine:=by simp_all
 have d:¬(!c.toArray.isEmpty && Builtin.List.listTooLong (c.toArray.size+a.toArray.size))=true:=by rw[Ar f,Bool.and_false];simp
 refine call_meets F.slot_list_extend ⟨_,e,J⟩ F.entry_list_extend (F.args_list_extend_2 _ _)
  (AutoSeq1.list_extend_list_list_0 l c.toArray n b a.toArray p d (by omega) (by omega)) ⟨e,y,?_⟩
 refine⟨.non,_,I.lset i e (by simp) (r.append o) ?_,J,q⟩
 simp_all
inductive oj(x:V)(vs:List V)(H:Hp)(Q:VK):Prop|mk:∀l xs y,x=.ref l->vs=[]->H l=some (.lst xs)->xs[xs.length-1]?=some y->Q y (upd H l (.lst xs.dropLast))->oj x vs H Q
theorem Em:uZ X "list.pop" oj:=by
 intro d s m H x p v t Q I g i h;obtain⟨l,o,y,rfl,rfl,f,k,q⟩:=h;cases g;have c:=i.zero;subst c;obtain⟨z,a,n,r,A,e⟩:=I.lstM f;obtain⟨u,w,j⟩:=r.get k;have b:a.toArray[a.toArray.size-1]?=some u:=by simp_all
 refine call_meets F.slot_list_pop ⟨_,e,J⟩ F.entry_list_pop (F.args_list_pop_1 _) (MeetsSeq.list_pop_last l a.toArray n u b (by simp_all)) ⟨e,?_⟩;refine⟨y,_,I.lset f e ?_ r.dropLast ?_,j,q⟩;rw[d5,List.eraseIdxIfInBounds_toArray,IL]
 grind
inductive oq(x y:V)(H:Hp)(Q:VK):Prop|mk:∀l b xs zs,x=.ref l->y=.ref b->H l=some (.lst xs)->H b=some (.lst zs)->xs.length+zs.length<=sizeLine->(∀p,H p=none->Q (.ref p) (upd H p (.lst (xs++zs))))->oq x y H Q
theorem sJ:cE X (binaryOp .Add) oq:=by
 intro d s t H x y v u Q I g f h;obtain⟨l,b,B,w,rfl,rfl,k,m,D,q⟩:=h;cases g;cases f;obtain⟨z,c,n,r,E,e⟩:=I.lstM k;obtain⟨A,a,C,i,j,p⟩:=I.lstM m;refine P.add_list e p ?_ (by simp_all);have o:c.toArray++a.toArray=(c++a).toArray:=by simp
 rw[o];exact⟨.ref _,_,I.lnew (r.append i) (by simp_all),J,q _ I.fresh⟩
inductive oh(x y:V)(H:Hp)(Q:VK):Prop|mk:∀l k xs,x=.ref l->y=.int k->H l=some (.lst xs)-> -(2^63)<=k->k<2^63->xs.length*k.toNat<=sizeLine->(∀p,H p=none->Q (.ref p) (upd H p (.lst (List.replicate k.toNat xs).flatten)))->oh x y H Q
theorem Fe{a:Type}(xs:O a)(k:Nat):(List.replicate k xs).flatten.length=k*xs.length:=by simp
theorem xI:cE X (binaryOp .Mult) oh:=by
 intro j s K H x y v u Q I B A h;obtain⟨l,k,L,rfl,rfl,C,E,D,N,q⟩:=h;cases B;obtain⟨t,rfl⟩:=A;obtain⟨z,b,n,r,P,e⟩:=I.lstM C;have f:b.toArray.size*k.toNat<=sizeLine:=by simp_all
 have i:¬b.toArray.size*k.toNat>(2^63-1)/8:=by
  have:sizeLine<=(2^63-1)/8:=by decide
  omega
 have g:¬(!Builtin.List.listFitsIndex k)=true:=by rw[fitsIndex_both E D];simp
 have c:¬Builtin.List.listTooLong (b.toArray.size*k.toNat)=true:=by rw[Ar f];simp
 have d:List.foldl (λp o=>p++o) #[] (List.replicate (if b.toArray.isEmpty=true then 0 else k.toNat) b.toArray)=(List.replicate k.toNat b).flatten.toArray:=by
  have G:=λm=>by have:=Bi b m [];rw[List.nil_append]at this;exact this
  rw[G];cases b with|nil=>simp|cons a M=>rfl
 refine wpAny_binaryOp_repeat_ref (by rfl) ⟨_,e,J⟩ (λw=>typeIs_int w k t) noFill_list_mul F.fills_int_mul F.slot_int_rmul repeat_list F.slot_int_index.lookup
  (call_meets F.slot_int_rmul (typeIs_int s k t) F.entry_int_rmul (F.args_int_rmul_2 _ _) (int___rmul___int_list k t l b.toArray n) ⟨e,J,⟨_,e,J⟩,call_meets F.slot_list_mul ⟨_,e,J⟩ F.entry_list_mul (F.args_list_mul_2 _ _) (AutoListH.list___mul___list_int_3 l b.toArray n k t g i c) ⟨e,?_⟩⟩)
 rw[d];exact⟨.ref _,_,I.lnew (r.rep k.toNat) (by rw[Fe,Nat.mul_comm];omega),J,q _ I.fresh⟩
end
section
variable{prog:Program}{w:World}
set_option maxRecDepth 100000 in
end
section
end
end L2
namespace Att
open PySem PySem.W PySem.Calls PyProof.Rows
variable{A:Around}{h:Heap}{q:Program}{s:Shared}{E:Value->Shared->Prop}
theorem Ju{P:Params}:∀(ns:List Int)(vs:List Value),WellAll P h vs (ns.map WData.int)->IntsAre vs ns:=by intro ns;induction ns with| nil=>intro vs w;rw[List.map_nil]at w;cases w;exact .nil| cons n ns c=>intro vs w;rw[cb]at w;cases w with| cons a b=>cases a;exact .cons _ _ (c _ b)
theorem fM{l:OpenLaw}{n:Nat}(w:l.most=some n){P:Params}{b:List WData}{c:List Value}(e:l.row.toRowW.claim.pre b=true) (i:WellAll P h c b):
  ∃a vs ns,c=[Value.ref a]/\b=[WData.list (ns.map WData.int)]/\h.get? a=some {cls:=.type "list",data:=.seq vs.toArray}/\IntsAre vs ns/\ns.length<=n:=by
 have j:=(pre_splitW e).1;have k:l.pre.holds [] {args:=b}=true:=(pre_splitW e).2;obtain⟨d,r,rfl,u,t⟩:=hasAllW_cons j;obtain rfl:=hasAllW_nil t;obtain⟨v,rfl,s⟩:=hasW_list u;obtain⟨ns,rfl⟩:=items_int s;have f:ns.length<=n:=by
  unfold OpenLaw.pre at k;have m:(WTm.not (.lt (.lit (.int n)) (.len (.arg 0)))).holds [] {args:=[.list (ns.map .int)]}=true:=by
   have m:=(holds_andW k).1
   simp_all
  have x:=condW_of m (w_not (w_lt w_lit (w_len_list (w_arg J))))
  simp_all
 cases i with| cons p o=>cases o;cases p with|list q g=>exact⟨_,_,ns,J,J,q,Ju ns _ g,f⟩
theorem HZ(l:OpenLaw)(a:O WData):l.row.toRowW.claim.post a (.bool true) a=true:=
 postW_of
  (show WShape.has [] (.bool true) .bool=true by rfl)
  (w_eq_bool (w_res J) w_lit) J
theorem ld{l:OpenLaw}{n:Nat}{e:O Str}{E:(Str->Option I)->Heap->Prop}{D:World->Heap->Prop}{d:DefRec}(L:l.most=some n) (x:d.params.defaults=[])
  (call:∀(w:World) (c b:Shared) (mg t:Str->Option I) (m:Addr) (o:Obj) (s p h:I) (a:Addr) (vs:O I) (ns:O Int),Ground q e [] E w c mg t b.heap->D w b.heap->
   b.heap.get? m=some o->o.data=.func (docDef d.name d.params d.body d.scope s p h)->b.heap.CodeRec p d.name->mg d.name=some (.ref m)->
   b.heap.get? a=some {cls:=.type "list",data:=.seq vs.toArray}->IntsAre vs ns->ns.length<=n->b.gens=#[]->
   codeAny (model l.prog w) callerA (.call (.ref m) ⟨[.ref a],[]⟩) (λr s'=>r=.ok (.ret (.bool true))/\OldK b.heap s'.heap/\s'.os=b.os/\AllBare s'.gens) b):
  WalkO q e E D l.row.toRowW d [] (λf vs=>PySem.call f vs):=by intro w c b mg t G Y m o s p h dV kV K Q y B v P C z as i A F u N;obtain rfl:dV=.none:=Dflts.none B x;obtain rfl:kV=.none:=Dflts.noKw B;obtain⟨a,vs,ns,rfl,rfl,j,g,k⟩:=fM L i u;refine enter_call (codeAny_mono (call w c b mg t m o s p h a vs ns G Y K (fd_plain Q) y v j g k P) λr s' H=>?_);obtain⟨rfl,U,S,R⟩:=H;exact⟨.inl ⟨.bool true,.bool true,[],J,λ_=>rfl,.bool true,HZ l _,λ_=>⟨List.Pairwise.nil,λ_ M=>(nomatch M)⟩⟩,U,S,R⟩
section
variable{prog:Program}{w:World}{K:Frag}
end
end Att
namespace L2
open PySem PySem.Spec PyProof.Rows
variable{a c f it:Addr}{A:Around}{osl sl:Array (Option Value)}{its:Array Value}{X:Cx}{D:Ends}{env:Env}{tg:Expr}{fd:FuncData}{h':Heap}{H H' H2:Hp}{lo:Int}{pins cH:List (Addr×Obj)}{fp:List Addr}{eR fQ:List Expr}{ns:List Int}{cap:List Nat}{own ps:List Str}{xs:List V}{us vs:List Value}{i:Nat}{v:Option Value}{aD:Pos}{P prog q:Program}{R:Result->Shared->Prop}{scope:Scope}{s s':Shared}{sp:Sp}{σ σ':St}{st:Stmt}{qual x:Str}{mb mg:Str->Option Value}{ta:TA}{te:TE}{g:TG}{tb:TS}{tc:TT}{cI:Value}{E Ex Q:Value->Shared->Prop}{w:World}
theorem BF:∀{vs:List Value}{ns:List Int},IntsAre vs ns->yu (ns.map V.int) vs|_,_,.nil=>.nil|_,_,.cons n t h=>.cons ⟨t,J⟩ (BF h)
def rB(H:Hp):Prop:=∀b,H b=none\/∃o xs,H b=some (.frz o (.lst xs))
theorem FQ {K:W.Frag} {CX:iJ} {k:Nat} {R:Addr} {c:Shared}(KX:K.In c.heap) (y:c.heap.Ns mainGlobals mg) (l:c.heap.Ns builtinsNs mb) (M:∀x:Str,x≠"__name__"->mb x=bootBuiltins x) (A:c.heap.NoLimit) (hg:c.gens=#[])
  (N:c.heap.get? a=some {cls:=.type "list",data:=.seq vs.toArray}) (X:IntsAre vs ns) (hl:ns.length<=sizeLine) (hr:aQ k callerA)
  (F:∀base:Heap,K.In base->base.Ns mainGlobals mg->cF P w K mg base CX k R fd [x] sp) (j:∀(s:Shared)(u:Value),BindsTo s fd ⟨[u],[]⟩ [(x,u)])
  (L:∀H:Hp,rB H->aI K H a (ns.map V.int)->sp [.ref a] H (λv _=>v=.bl true) λ_ _ _=>False)
  (Q:∀H e s',CX [] H c (λ_ _ _=>False) e s'->False):
  codeAny (model P w) callerA (.call (.ref R) ⟨[.ref a],[]⟩) (λr s'=>r=.ok (.ret (.bool true))/\OldK c.heap s'.heap/\s'.os=c.os/\AllBare s'.gens) c:=by
 have rv:=BF X;have U:=X.length;have i:∀H:Hp,rB H->aI K H a (ns.map V.int)->cC P w H c.heap->(∀b,H b≠none->b=a)->(H a≠none->K.lookup a=none)->
   codeAny (model P w) callerA (.call (.ref R) ⟨[.ref a],[]⟩) (λr s'=>r=.ok (.ret (.bool true))/\OldK c.heap s'.heap/\s'.os=c.os/\AllBare s'.gens) c:=by
  intro H Z hS t hA hK;have f:∀{b:Addr}{o:Obj},c.heap.get? b=some o->H b=none->(jU c.heap H).get? b=some o:=λe n=>FO e n;have G:∀{b:Addr}{o:Obj}{D:Array DictEntry}{E:Nat},c.heap.get? b=some o->o.data=.dict D E->H b=none:=λ{b o D E} e d=>by grind
  have g:∀{b:Addr}{m:Str->Option Value},c.heap.Ns b m->(jU c.heap H).Ns b m:=λ{b m} ⟨o,D,E,e,d,r⟩=>⟨o,D,E,f e (G e d),d,r⟩
  have B:=λb o e=>f (KX b o e) (by grind)
  have hM:Mod K mg (jU c.heap H):=⟨B,g y,⟨mb,g l,M⟩,let⟨mc,h1,h2⟩:=A;⟨mc,g h1,h2⟩⟩
  have e0:fk P w K mg (jU c.heap H) callerA [] c H:=⟨J,hM,λb o e=>EJ e,Nat.le_of_eq (Hv _ _),trivial,λb l=>absurd (show b∈[]from l) (by simp),t,.of_eq hg⟩
  refine codeAny_mono ((F _ B (g y)).run callerA [] c H ⟨[.ref a],[]⟩ [.ref a] [.ref a] _ _ hr e0 (j c (.ref a)) (.cons J .nil) (L H Z hS)) λr s' h=>?_;cases r with|error e=>exact(Q H e s' h).elim| ok fl=>
    cases fl with|next=>exact False.elim h|brk=>exact False.elim h|cont=>exact False.elim h| ret u=>
      obtain⟨v,H',os,C,S,p,r',q⟩:=h;have q':=q;subst q';obtain rfl:u=Value.bool true:=r';refine⟨J,OldK.of_keep λb o e=>?_,os,C⟩;cases q:H b with|none=>exact S.keep b o e q (by intro z;exact absurd (show b∈[]from z) (by simp)) (by simp)| some u=>
        rcases Z b with z|⟨ob,xs,z⟩
        simp_all
        have z2:=S.frzs b ob _ z;obtain⟨e1,_⟩:=t b _ z;obtain⟨e2,_⟩:=p b _ z2
        simp_all
 cases hk:K.lookup a with| some o=>
   have e:=KX a o hk;rw[N]at e;cases e;refine i (λ_=>none) (λ_=>.inl J) (.inr ⟨_,vs.toArray,_,hk,J,J,J,by simp_all,by omega⟩) (λb u z=>by simp_all) (λb z=>absurd J z) λz=>absurd J z| none=>
   refine i (λb=>if b=a then some (.frz {cls:=.type "list",data:=.seq vs.toArray} (.lst (ns.map V.int)))else none) (λb=>?_) (.inl (.inr ⟨{cls:=.type "list",data:=.seq vs.toArray},if_pos J⟩)) (λb u z=>?_) (λb z=>?_) λ_=>hk
   grind
   by_cases l:b=a;have z':=(if_pos l).symm.trans z;cases z';subst l;exact⟨N,by simp_all,vs,_,rv,N⟩
   simp_all
   simp_all
theorem qH{l:W.OpenLaw}{n k:Nat}{c:O Str}{X:(Str->Option I)->Heap->Prop}{C:World->Heap->Prop}{d:DefRec}{K:Params->W.Frag}{CX:World->iJ}{sp:World->Sp}(L:l.most=some n) (t:n<=sizeLine) (z:d.params.defaults=[]) (E:aQ k callerA)
  (Q:∀(w:World)(h:Heap),C w h->(K w.params).In h)
  (F :∀(w:World) (mg:Str->Option I) (m:Addr) (h:Heap),(K w.params).In h->h.Ns mainGlobals mg->mg d.name=some (.ref m)-> ∃ fd:FuncData,(∀(s:Shared) (u:I),BindsTo s fd ⟨[u],[]⟩ [(x,u)])/\
     ∀base:Heap,(K w.params).In base->base.Ns mainGlobals mg->cF l.prog w (K w.params) mg base (CX w) k m fd [x] (sp w))
  (r:∀(w:World)(H:Hp)(a:Addr)(ns:O Int),ns.length<=n->rB H->aI (K w.params) H a (ns.map V.int)->sp w [.ref a] H (λv _=>v=.bl true) λ_ _ _=>False)
  (A:∀(w:World)(H:Hp)(s:Shared)(e:I)(p:Shared),CX w [] H s (λ_ _ _=>False) e p->False):
  W.WalkO q c X C l.row.toRowW d [] (λf vs=>PySem.call f vs):=by refine Att.ld L z λw B i mg mb m o Z cd U a vs ns G Y ho hd N y j g b M=>?_;have D:=Q w _ Y;obtain⟨fd,P,hF⟩:=F w mg m _ D G.T.g y;exact FQ D G.T.g G.T.b G.T.builtins G.T.nolimit M j g (cj b t) E hF P (λH S R=>r w H a ns b S R) λH e p=>A w H i e p
noncomputable def ju(s:Stmt):Arguments:=match s with|.FunctionDef _ a _ _ _ _ _ _ _ _=>a|_=>{posonlyargs:=[],args:=[],vararg:=none,kwonlyargs:=[],kw_defaults:=[],kwarg:=none,defaults:=[]}
noncomputable def wy(s:Stmt):List Stmt:=match s with|.FunctionDef _ _ b _ _ _ _ _ _ _=>b|_=>[]
noncomputable def ze(s:Stmt):Scope:=match s with|.FunctionDef _ _ _ _ _ _ sc _ _ _=>sc|_=>{kind:=.function,names:=[],isGenerator:=false,isCoroutine:=false}
abbrev fJ:iJ:=λ_ _ _ _ _ _=>False
abbrev E0:XK:=λ_ _ _=>False
theorem pY:Vb fJ X E0:=λ_ _ _ _ _ _ _ h=>h.elim
structure iI(K:W.Frag)(x qual:Str)(st:Stmt)(f:Addr)(fd:FuncData):Prop where
 ex:∃(oc:Value)(od:Option Addr)(kV doc pm:Value)(an:Option Addr)(cdv ct:Value)(osl:Array (Option Value)),fd=W.fnOf x qual (ju st) (wy st) (ze st) .none kV doc pm an cdv ct/\K.lookup f=some ⟨oc,od,.func fd,osl⟩/\W.codeIn K cdv qual=true
 kp:W.keepIn K (.ref f)=true
section
variable{K:W.Frag}{base:Heap}
theorem iI.ok{N:O Str}{k:Nat}(F:iI K x qual st f fd)(S:aA N ps (ze st))(b:∀vs H Q E,sp vs H Q E->vs.length=ps.length)(a:∀(cdv:I) (A:Around) (outer:O Env) (s:Shared) (H:Hp) (vs:O V) (Q:VK) (E:XK),aQ k (A.deeper (envOfC qual (ze st) s.heap.objs.size f cdv))->sp vs H Q E-> ∃t,eE (iK fJ P w K mg base N qual (ze st) f cdv A outer s H E).nox (wy st) t/\t (.of Q) (start N vs) H):cF P w K mg base fJ (k+1) f fd ps sp:=by obtain⟨n,m,kV,j,l,p,cdv,o,e,rfl,g,d⟩:=F.ex;refine Cz g d S b λA outer s H vs Q E i c=>?_;obtain⟨t,h,q⟩:=a cdv A outer s H vs Q E i c;exact⟨t,h.nox,q⟩
theorem iI.binds(F:iI K x qual st f fd)(h:∀(kV a c:I)(e:Option Y)(cdv d:I)(b:O I),b.length=ps.length->bindArgs (W.fnOf x qual (ju st) (wy st) (ze st) .none kV a c e cdv d) ⟨b,[]⟩=pure (ps.zip b)):Y6 K fd ps []:=by obtain⟨k,j,kV,a,c,e,cdv,d,g,rfl,l,i⟩:=F.ex;exact .all (h kV a c e cdv d)
theorem si{h:I}{g e:Option Y}{kV a b cdv d:I}(l:K.lookup f=some ⟨h,g,.func (W.fnOf x qual (ju st) (wy st) (ze st) .none kV a b e cdv d),osl⟩)(c:W.codeIn K cdv qual=true) (k:W.keepIn K (.ref f)=true):iI K x qual st f (W.fnOf x qual (ju st) (wy st) (ze st) .none kV a b e cdv d):=⟨⟨h,g,kV,a,b,e,cdv,d,osl,J,l,c⟩,k⟩
end
theorem jk{k:Nat}(a:aQ k A):A.units+1<cLine:=dz (f7 (by decide) _) a.units
theorem wc{n:Nat}(h:n<=1000):n<sizeLine:=dz h (by decide)
section
theorem pv(i:Nat)(d:X.N[i]?=some x:=by rfl)(b:autoParam (m9 X.env.scope x) B6._auto_1)(c:(x==("__debug__":Str))=false:=by decide)
 (a:(x==("__classdict__":Str))=false:=by decide):PE X (.Name x aD) (Jq i):=DZ d b c a
end
theorem yi{A B:Prop}(h:B):if false=true then A else B:=by simp_all
theorem ww{A B:Prop}(h:A):if true=true then A else B:=by simp_all
theorem ki{c A B:Prop}[Decidable c](b:c->A)(a:¬c->B):if c then A else B:=by simp_all
def zg(H B:Hp):Prop:=∀b o,H b=some o->B b=some o
theorem zg.refl(H:Hp):zg H H:=λ_ _ h=>h
theorem zg.trans{d:Hp}(a:zg H d)(b:zg d H2):zg H H2:=λc o h=>b c o (a c o h)
theorem zg.seq{K:W.Frag}(e:zg H H')(h:aI K H a xs):aI K H' a xs:=by rcases h with(h|⟨o,h⟩)|h;exact .inl (.inl (e _ _ h));exact .inl (.inr ⟨o,e _ _ h⟩);exact .inr h
section
variable{κ:Type}[DecidableEq κ]
theorem Vf{kvs:O (κ×V)}{k:κ}{v:V}(h:yz kvs k=some v):k∈kvs.map (·.1):=by
 have q:(kvs.any λa=>decide (a.1=k))=true:=by rw[Zp,h];rfl
 simp_all
end
section
theorem Li{B a D:Expr}{y t:Value}(I:Nat->Shared->Prop)(z:∀e s',Ex e s'->notedBy (model prog w) A env (λx u=>R (.error x) u) e s')(l:∀n s,I n s->wpAny (model prog w) A (pyNext y) (λr b=>match r with
   |none=>R (.ok .next) b
   | some v=>wpAny (model prog w) A (letOwnedTupleGo a y v) (λ_ s₂=>wpAny (model prog w) A (assign a env v) (λ_ s₂=> wpAny (model prog w) A (forIn fQ true λc r=>if r=true then do let ok<-isTrue c env (eval c env);pure (ForInStep.yield ok)else pure (ForInStep.yield r)) (λok f=> if ok=true then wpAny (model prog w) A (eval B env) (λx j=>wpAny (model prog w) A (call (.builtin "list.append") [t,x]) (λ_ i=>∃m,m<n/\I m i) (λ_ _=>False) j) Ex f
     else∃m,m<n/\I m f) (λ_ _=>False) s₂) (λ_ _=>False) s₂) (λ_ _=>False) b) (λ_ _=>False) s)
  (n:Nat) (h:I n s):
  codeAny (model prog w) A (.compLoop (.ListComp B [⟨a,D,fQ,0⟩] scope aD) 0 y t env) R s:=by
 refine codeAny_loop J I (λn s C=>?_) n h;refine wpAny_noted ?_;rw[compTurn_list];refine a4 (wpAny_standAt (a4 (db (l n s C) (λr b d=>?_) λ_ _ g=>g.elim)));cases r with
 |none=>exact a9 d
 | some v=>
   refine a4 (db d (λ_ b d=>?_) λ_ _ g=>g.elim);refine a4 (db d (λ_ s₂ q=>a4 (db q (λok f k=>?_) λ_ _ g=>g.elim)) λ_ _ g=>g.elim);cases ok with
   |false=>exact a9 ⟨J,k⟩
   | true=>exact a4 (a4 (db k (λx j p=>a4 (db p (λ_ i o=>a9 (a9 ⟨J,o⟩)) λ_ _ g=>g.elim)) z))
end
noncomputable def eA(B:Env):List (Str×NameKind)->List (Str×Addr)->List (Str×Addr)|[],U=>U|(n,k)::r,U=>if k==.free then eA B r ((n,(B.cells.lookup n).getD 0)::U)else eA B r U
theorem Xt(j:∀x∈scope.names,x.2=.free->∃c,env.cells.lookup x.1=some c):closureFor scope env=pure (eA env scope.names []):=by
 have go:∀(l:O (Str×NameKind))(b:O (Str×Y)),(∀x∈l,x.2=.free->∃c,env.cells.lookup x.1=some c)->
   (forIn (m:=Sem) l b λx r=>(if(x.2==NameKind.free)=true then do let a<-cellOf env x.1;pure (ForInStep.yield ((x.1,a)::r))else pure (ForInStep.yield r)))=pure (eA env l b):=by
  intro l;induction l with|nil=>intro b _;rfl| cons p r f=>
    obtain⟨n,k⟩:=p;intro b h;have g:=λx i=>h x (bv _ i);rw[List.forIn_cons];by_cases hk:k=.free;subst hk;obtain⟨c,m⟩:=h (n,.free) c5 J;have e:cellOf env n=pure c:=by unfold cellOf;rw[m]
    rw[if_pos (by rfl),e,pure_bind,pure_bind];dsimp only;rw[f _ g];show _=pure (if(NameKind.free==.free)=true then eA env r ((n,(env.cells.lookup n).getD 0)::b)else eA env r b)
    simp_all
    have d:(k==NameKind.free)=false:=by simp_all
    rw[d,if_neg bu,pure_bind];dsimp only;rw[f _ g];show _=pure (if(k==.free)=true then eA env r ((n,(env.cells.lookup n).getD 0)::b)else eA env r b);rw[d,if_neg bu]
 have e:=go scope.names [] j;unfold closureFor
 simp_all
theorem W7{a:Env}{x:Str}{c:Addr}:∀{l:List (Str×NameKind)}{b:List (Str×Addr)},(∀x∈l,x.2=.free->∃c,a.cells.lookup x.1=some c)->(eA a l b).lookup x=some c->b.lookup x=some c\/a.cells.lookup x=some c
 |[],b,_,h=>.inl h
 | (n,k)::r,b,e,h=>by
   have d:=λx f=>e x (bv _ f);unfold eA at h;split at h
   rename_i hk
   obtain⟨i,g⟩:=e (n,k) c5 (by simp_all);rcases W7 d h with q|q
   grind
   simp_all
   exact W7 d h
theorem Qf{b:Env}{x:Str}:∀{l:List (Str×NameKind)}{a:List (Str×Addr)},(x,NameKind.free)∈l\/(∃c,a.lookup x=some c)->∃c,(eA b l a).lookup x=some c
 | [],a,h=>by rcases h with h|h;cases h;exact h
 | (n,k)::r,a,h=>by
   unfold eA;split
   rename_i hk
   have hk:k=.free:=by simp_all
   subst hk;refine Qf ?_;rcases h with h|⟨c,h⟩;rcases az.mp h with h|h
   simp_all
   simp_all
   grind
   rename_i hk
   refine Qf ?_
   grind
theorem Vs(a:∀y∈scope.names,y.2≠ .cell)(h:(relabel scope env).names.lookup x=some .cell\/(relabel scope env).names.lookup x=some .free):(x,NameKind.free)∈scope.names:=by
 have go:∀(l:O (Str×NameKind)),(∀y∈l,y.2≠ .cell)->∀k,(k=NameKind.cell\/k=.free)->
   (l.map λ(n,k)=>if(k==NameKind.free && env.scope.kind==.function && env.kindOf n==some .cell)then(n,NameKind.cell)else(n,k)).lookup x=some k->(x,NameKind.free)∈l:=by intro l;induction l with|nil=>simp| cons p r b=>grind
 rcases h with h|h;exact go scope.names a _ (.inl J) h;exact go scope.names a _ (.inr J) h
abbrev iM(B:List Value):Obj:={cls:=.type "list",data:=.seq B.toArray B.length}
theorem Ir(a:O I)(u:I):({cls:=.type "list",data:=.seq (a.toArray.push u) (a.length+1)}:Obj)=iM (a++[u]):=by simp
noncomputable def bS(k:Nat)(cap:List Nat)(B:St):St:=List.replicate k none++cap.map λj=>(B[j]?).getD none
noncomputable def lj(own:List Str)(cap:List Nat)(N:List Str):List Str:=own++cap.map λj=>(N[j]?).getD Str.empty
noncomputable def qx(X:Cx)(own:List Str)(cap:List Nat)(B:Scope)(C:Addr)(fp:List Addr)(U:Shared)(Z:Hp):Cx:={X with N:=lj own cap X.N,s₀:=U,H₀:=Z,env:=compEnvC B (eA X.env B.names []) C X.env,outer:=X.stack,ex:=fp,fn:=λ_=>false,pn:=[],xe:=λ_ _=>False}
def mS(X:Cx)(B:Scope):List Nat->Prop|[]=>True|j::r=>(∃x,X.N[j]?=some x/\(X.env.scope.names.lookup x=some .cell\/X.env.scope.names.lookup x=some .free)/\(relabel B X.env).names.lookup x≠some .local)/\mS X B r
theorem mS.mem{X:Cx}{c:Scope}:∀{cap:List Nat},mS X c cap->∀j∈cap,∃x,X.N[j]?=some x/\(X.env.scope.names.lookup x=some .cell\/X.env.scope.names.lookup x=some .free)/\(relabel c X.env).names.lookup x≠some .local|[],_,_,h=>nomatch h| _::_,⟨a,b⟩,j,h=>by rcases az.mp h with rfl|h;exact a;exact mS.mem b j h
structure bG(X:Cx)(own:List Str)(cap:List Nat)(scope:Scope):Prop where
 kind:scope.kind=.function
 free:∀x∈scope.names,x.2=.free->X.env.kindOf x.1=some .cell\/X.env.kindOf x.1=some .free
 cell:∀x∈scope.names,x.2≠ .cell
 names:∀x∈scope.names,x.2=.local->scope.names.lookup x.1=some .local
 cap:mS X scope cap
section
variable{H₂:Hp}{s₂:Shared}{C:Addr}
theorem bG.has(S:bG X own cap scope)(a:X.Ok):∀x∈scope.names,x.2=.free->∃c,X.env.cells.lookup x.1=some c:=λx b hk=>a.has _ (S.free x b hk)
theorem bG.look(S:bG X own cap scope)(a:X.Ok)(h:(eA X.env scope.names []).lookup x=some c):X.env.cells.lookup x=some c:=by rcases W7 (S.has a) h with q|q;cases q;omega
theorem Un.cellK{g a:O Y}{h:Heap}(u:Un g a H H' h h')(n:H c=none)(b:c ∉ a)(z:h.IsCell c v):h'.IsCell c v:=by obtain⟨o,d,f⟩:=z;obtain⟨i,e⟩:=u.any d n b;exact⟨_,e,f⟩
theorem GX(I:Inv X pins σ H₂ s₂)(S:bG X own cap scope)(f:∀b∈fp,Jx X pins H₂ b)(g:s₂.heap.objs.size<=C)(d:∀b∈fp,b<s₂.heap.objs.size):(qx X own cap scope C fp s₂ H₂).Ok where
 mod:=I.ok.mod
 kind:=S.kind
 glob:=I.ok.glob
 blt:=I.ok.blt
 above:=g
 inj:=λx y c j i=>I.ok.inj x y c (S.look I.ok j) (S.look I.ok i)
 has:=λx h=>Qf (.inl (Vs S.cell h))
 cab:=λx c h=>by cases h
 hd:=I.ok.hd
 frames:=I.ok.frames
 stk:=.inl J
 exf:=λb a=>⟨bf (cf (d b a) g),λx c h=>(f b a).2.2.2.2.1 x c (S.look I.ok h)⟩
 bs:=I.bs
 bsz:=cj I.ok.bsz I.sz
 noex:=λb o e a=>by rcases(f b a).2.2.2.1 with z|z;exact I.ok.noex b o e z;exact absurd (cf (ax e) (cj I.ok.bsz z)) (d9 _)
 exfs:=λb a z=>by rcases az.mp (I.stkSub b z)with e|e;exact(f b a).2.1 e;exact(f b a).2.2.1 e
 funs:=I.stack
 frf:=λb a=>I.stkFree b a
theorem Ai(I:Inv X pins σ H₂ s₂)(S:bG X own cap scope)(f:∀b∈fp,Jx X pins H₂ b){E:List Addr}(u:Un E fp H₂ H' s₂.heap h')(m:Str->Option Value):∀(i:Nat)(x:Str)(v:V),(lj own cap X.N)[i]?=some x->(bS own.length cap σ)[i]?=some (some v)->m9 (relabel scope X.env) x->∃q,yq v q/\vC (compEnvC scope (eA X.env scope.names []) C X.env) h' m x q:=by
 intro i x v a d D;unfold bS at d;unfold lj at a;by_cases B:i<own.length
 grind
 rw[List.getElem?_append_right (by simpa using B)]at d a;rw[dk]at d;rw[aj]at a d;cases e:cap[i-own.length]? with|none=>simp_all| some j=>
   rw[e]at a d;obtain⟨y,s,hk,k⟩:=S.cap.mem j (br e);have a:(X.N[j]?).getD Str.empty=x:=Option.some.inj a;rw[s]at a;have a:y=x:=a;subst a;have d:(σ[j]?).getD none=some v:=Option.some.inj d;have o:σ[j]?=some (some v):=by grind
   obtain⟨F,G,A⟩:=I.loc;obtain⟨q,r,l⟩:=A j y v s o (.inr hk);refine⟨q,r,?_⟩;rcases l with⟨p,_⟩|⟨_,c,n,z⟩;have p:X.env.scope.names.lookup y=some .local:=p
   simp_all
   have g:=D.resolve_left k;obtain⟨H,h⟩:=Qf (.inl (Vs S.cell g));have t:=S.look I.ok h;rw[n]at t;cases t;exact .inr ⟨g,c,h,u.cellK (I.freeC y c n) (λw=>(f c w).2.2.2.2.1 y c n J) z⟩
theorem Be(I:Inv X pins σ H₂ s₂)(S:bG X own cap scope)(f:∀b∈fp,Jx X pins H₂ b)(J:Inv (qx X own cap scope C fp s₂ H₂) cH σ' H' s'):Inv (qx X own cap scope C fp s₂ H₂) cH (bS own.length cap σ) H' s':=by obtain⟨m,a,_⟩:=id J.loc;refine⟨J.ok,J.os,J.bare,J.base,⟨m,a,Ai I S f J.base m⟩,J.cell,J.free,J.freeC,J.pin,J.hok,?_⟩;unfold bS;show _=(lj own cap X.N).length;unfold lj;simp
theorem Ah{D:Y}{i:O V}(I:Inv X pins σ H₂ s₂)(f:∀b∈fp,Jx X pins H₂ b)(J:Inv (qx X own cap scope C fp s₂ H₂) cH σ' H' s')(x:Heap.SameBut C s'.heap h') (B:s₂.heap.objs.size<=C) (A:s₂.heap.objs.size<=D) (l:D≠C) (y:s'.heap.get? D=some (iM us)) (h:H' D=none) (hl:i.length<=sizeLine) (r:yu i us):
  Inv X pins σ (upd H' D (.lst i)) {s' with heap:=h'}:=by
 have same:∀b o,b≠C->s'.heap.get? b=some o->h'.get? b=some o:=λb o a e=>(x.2 b a).trans e;have p:∀b o,s₂.heap.get? b=some o->b≠C/\b≠D:=λb o e=>⟨bf (cf (ax e) B),bf (cf (ax e) A)⟩
 have u:=J.base;have Q:H' C=none:=J.free;have k:cC X.prog X.w (upd H' D (.lst i)) h':=by
  intro b t e;by_cases a:b=D;subst a;rw[zd]at e;cases e;exact⟨hl,us,us.length,r,same b _ l y⟩;rw[upd_ne a]at e;have w:∀c m,H' c=some m->c≠C:=λc m z q=>by simp_all
  refine(J.hok b t e).stay (λc v G q=>same c v ?_ q) (λc q=>?_) λc j q=>?_
  grind
  rw[upd_ne (zm q h)];exact q;rw[upd_ne (zm q h)];exact q
 refine I.call' (ch:=fp) J.os ⟨λb o e n a d=>?_,λb o e n a d=>?_,λb o e n d=>?_,λb o e d=>?_,λb j e=>?_,λb o j e=>?_,λb s e=>?_⟩ k J.bare λb a=>?_;exact same b o (p b o e).1 (u.keep b o e n a d);obtain⟨E,q⟩:=u.slot b o e n a d
 simp_all
 rw[upd_ne (p b o e).2];exact u.free b o e n d;obtain⟨F,q⟩:=u.there b o e d
 simp_all
 have q:=u.tups b j e;rw[upd_ne (zm q h)];exact q;have q:=u.frzs b o j e;rw[upd_ne (zm q h)];exact q;obtain⟨g,q⟩:=u.tbls b s e;exact⟨g,by rw[upd_ne (zm q h)];exact q⟩;obtain⟨P,N,M,L,K,H⟩:=f b a
 grind
end
def ny(X:Cx)(B:List Expr)(t:TT):Prop:=
 ∀ (pins:List (Addr×Obj)) (s:Shared) (σ:St) (H:Hp) (Q:Bool->Hp->Prop),Inv X pins σ H s->t σ H Q->
   wpAny (model X.prog X.w) X.A (forIn B true λc r=>if r=true then do let ok<-isTrue c X.env (eval c X.env);pure (ForInStep.yield ok)else pure (ForInStep.yield r)) (TP X pins σ Q) X.xe s
def nF:TT:=λ_ H Q=>Q true H
theorem wb:ny X [] nF:=by intro a s b H Q I h;exact a9 ⟨H,I,h⟩
theorem js{c:Expr}{t:TT}(h:PT X c t):ny X [c] t:=by intro a s d H Q I f;rw[List.forIn_cons];rw[if_pos J];refine a4 (a4 (aF (h a s d H Q I f) λb j ⟨i,g,e⟩=>?_));refine a9 ?_;dsimp only;rw[List.forIn_nil];exact a9 ⟨i,g,e⟩
inductive bZ(J:It)(g:TG)(tc:TT)(te:TE)(k:Nat)(cap:List Nat)(σ:St)(H:Hp)(Q:VK):Prop| mk:∀W:Nat->Nat->List V->Hp->Prop,(∃m,W 0 m [] H)->(∀i m ys H,W i m ys H-> (J.stop i H/\ys.length<=sizeLine/\∀p,H p=none->Q (.ref p) (upd H p (.lst ys)))\/
   (J.go i H/\ys.length<=sizeLine/\∃N:List V->Hp->Prop,(∀ys' H',N ys' H'->∃m',m'<m/\W (i+1) m' ys' H')/\∀x H',J.yld i H x H'->g x (bS k cap σ) H' λσ2 H2=>tc σ2 H2 λb H3=>if b=true then te σ2 H3 λy H4=>N (ys++[y]) H4 else N ys H3))->bZ J g tc te k cap σ H Q
def BO(B:TI)(g:TG)(Z:TT)(U:TE)(k:Nat)(cap:List Nat):TE:=λσ H Q=>B σ H λJ H1=>bZ J g Z U k cap σ H1 Q
section
variable{cA fX:Expr}{wi:TI}
theorem AH{Zw:Cx->O Str->O Nat->Scope->Y->O Y->Shared->Hp->I->Shared->Prop}{f:Shared}{tn:Nat->Heap->Prop}{J:It}{W:Nat->Nat->O V->Hp->Prop}{m0:Nat}{QQ:O V->Hp->Prop}{RR:I->Y->Result->Shared->Prop}(hc:X.calm=true) (S:bG X own cap scope)
  (hg:∀C fp s₂ H₂,PG (qx X own cap scope C fp s₂ H₂) tg g) (ht:∀C fp s₂ H₂,ny (qx X own cap scope C fp s₂ H₂) fQ tc) (he:∀C fp s₂ H₂,PE ((qx X own cap scope C fp s₂ H₂).wish (Zw X own cap scope C fp s₂ H₂)) fX te)
  (B:Inv X pins σ H2 f) (T:dI X.prog X.w X.K tg J fp it tn) (a6:tn 0 f.heap) (f2:∀b∈fp,Jx X pins H2 b) (w0:W 0 m0 [] H2)
  (aS:∀i m k H,W i m k H-> (J.stop i H/\k.length<=sizeLine/\QQ k H)\/
   (J.go i H/\k.length<=sizeLine/\∃N:O V->Hp->Prop,(∀aK s,N aK s->∃m',m'<m/\W (i+1) m' aK s)/\∀x s,J.yld i H x s->g x (bS own.length cap σ) s λay H2=>tc ay H2 λb H3=>if b=true then te ay H3 λy H4=>N (k++[y]) H4 else N k H3))
  (hZ:∀(D C:Y)(e:I)(L:Shared),Zw X own cap scope C fp f H2 e L->notedBy (model X.prog X.w) X.A (compEnvC scope (eA X.env scope.names []) C X.env) (λx bh=>RR (.ref D) C (.error x) bh) e L)
  (bk:∀(D C:Y) (cH:O (Y×Obj)) (bg:St) (s:Hp) (L:Shared) (t:O I) (k:O V),Inv (qx X own cap scope C fp f H2) cH bg s L->f.heap.objs.size<=C->f.heap.objs.size<=D->D≠C->L.heap.get? D=some (iM t)->s D=none-> k.length<=sizeLine->yu k t->QQ k s->RR (.ref D) C (.ok .next) L):
  wpAny (model X.prog X.w) X.A (newList []) (λbd l=>wpAny (model X.prog X.w) X.A (newFunctionEnv scope X.env.globals (eA X.env scope.names []) [] X.env.qual none .none (some X.env)) (λQ a2=>codeAny (model X.prog X.w) X.A (.compStart (.ListComp fX [⟨tg,cA,fQ,0⟩] scope aD) 0 (.ref it) bd {Q with scope:=relabel scope X.env}) (RR bd Q.locals) a2) X.xe l) X.xe f:=by
 refine d8 (wpAny_newFunctionEnv S.cell (by intro y hy;simp at hy) (λF w j=>?_) S.kind);generalize ah:f.heap.push {cls:=.type "list",dict:=none,data:=.seq [].toArray}=g2 at w j⊢;have aq:g2.objs.size=f.heap.objs.size+1:=by rw[<-ah,dy]
 have hC:f.heap.objs.size<=g2.objs.size:=by rw[aq];exact Nat.le_succ _
 have ap:f.heap.objs.size≠g2.objs.size:=by rw[aq];exact bf (eq _)
 have below:∀b,b<f.heap.objs.size->b≠g2.objs.size/\b≠f.heap.objs.size:=λb h=>⟨by rw[aq];exact bf (Nat.lt_succ_of_lt h),bf h⟩
 have cI:=λb o e=>j.extBut b o (below b (ax e)).1 (au _ (ah▸au _ e));have ba:=j.extBut _ _ ap (au _ (ah▸bq _ rfl));have aa:∀b∈fp,b<f.heap.objs.size:=λb h=>by obtain⟨o,e,_⟩:=T.obj _ _ a6 b h;exact ax e
 have A:∀a,f.heap.objs.size<=a->H2 a=none:=λa ha=>B.hok.fresh ha;have ok:=GX B S f2 hC aa;have a7:=T.keep _ _ _ a6 λb h o e=>cI b o e;let K:=qx X own cap scope g2.objs.size fp f H2;have u1:Un (fW X.stack) fp H2 H2 f.heap F:=Un.kept cI;have start:Inv K [(f.heap.objs.size,iM [])] (bS own.length cap σ) H2 {f with heap:=F,toks:=f.toks+([]:O (Str×I)).length}:=by
  refine⟨ok,rfl,B.bare,u1,⟨_,w,Ai B S f2 u1 _⟩,λx c e=>?_,A _ hC,λx c e=>B.freeC x c (S.look B.ok e),λp M=>?_,B.hok.kept cI,?_⟩;obtain⟨v,z⟩:=B.cell x c (S.look B.ok e);obtain⟨o,ho,hd⟩:=z;exact⟨v,o,cI c o ho,hd⟩;have e:p=(f.heap.objs.size,iM []):=by simpa[K,qx]using M
  subst e;refine⟨ba,A _ (ag _),ap,λz=>?_,λv z=>by cases z⟩;obtain⟨_,o,ho,_⟩:=B.stack.mem z;exact absurd (ax ho) (d9 _);unfold bS;show _=(lj own cap X.N).length;unfold lj;simp
 have E:∀{D:Y}{o:Obj}{s:Hp},f.heap.objs.size<=D->(∀b∈fp,s b=none)->∀b∈fp,Jx K [(D,o)] s b:=λ{D o s} hD hn b h=>
  ⟨hn b h,(ok.exf b h).1,ok.exfs b h,.inl h,λx c e=>(ok.exf b h).2 x c e,λp M=>by
   have e:p=(D,o):=by simpa[K,qx]using M
   subst e;exact ak (bf (cf (aa b h) hD))⟩
 have P:∀l:Shared,l={f with heap:=F,toks:=f.toks+([]:O (Str×I)).length}->
   codeAny (model X.prog X.w) X.A (.compLoop (.ListComp fX [⟨tg,cA,fQ,0⟩] scope aD) 0 (.ref it) (.ref f.heap.objs.size) (compEnvC scope (eA X.env scope.names []) g2.objs.size X.env))
    (RR (.ref f.heap.objs.size) g2.objs.size) l:=by
  rintro l rfl;refine Li (λn L=>∃i s t k,Inv K [(f.heap.objs.size,iM t)] (bS own.length cap σ) s L/\tn i L.heap/\(∀b∈fp,s b=none)/\yu k t/\W i n k s) (hZ _ _) ?_ m0
   ⟨0,H2,[],[],start,a7,λb h=>(f2 b h).1,.nil,w0⟩
  rintro n s3 ⟨i,H3,t,k,I3,a5,bc,rv,w3⟩;rcases aS i n k H3 w3 with⟨a3,hl,qn⟩|⟨go,hl,N,hN,step⟩;refine aF (T.done K rfl rfl rfl hc i _ s3 _ H3 _ I3 (E (ag _) bc) a5 a3) λr s4 ⟨hr,I4⟩=>?_;subst hr;have G:=I4.pin (f.heap.objs.size,iM t) (d7 _ c5);exact bk _ _ _ _ H3 s4 t k I4 hC (ag _) ap G.1 G.2.1 hl rv qn;refine aF (T.item K rfl rfl rfl hc i _ s3 _ H3 _ I3 (E (ag _) bc) a5 go) λr s4 ⟨u,hr,h4⟩=>?_;subst hr;refine aF h4 λ_ s5 ⟨x,H5,I5,r5,y5,U,bw⟩=>?_;have bx:=I5.pinned (E (ag _) bw) (T.obj _ _ U);refine aF (hg _ _ _ _ _ s5 _ H5 x u _ bx r5 (step x H5 y5)) λ_ s6 ⟨aw,H6,I6,q6⟩=>?_;refine aF (ht _ _ _ _ _ s6 aw H6 _ I6 q6) λb s7 ⟨H7,I7,q7⟩=>?_;have a1:∀{av:St}{H8:Hp}{Z:Shared},Inv K ([(f.heap.objs.size,iM t)]++nP fp s5.heap) av H8 Z->tn (i+1) Z.heap/\∀b∈fp,H8 b=none:=λ{av H8 Z} R=>by refine⟨T.keep _ _ _ U λb h o e=>(R.pin (b,o) (d7 _ (d7 _ (Yy h e)))).1,λb h=>?_⟩;obtain⟨o,e,d⟩:=T.obj _ _ U b h;exact(R.pin (b,o) (d7 _ (d7 _ (Yy h e)))).2.1
  cases b with| false=>
    rw[if_neg bu]at q7;obtain⟨m',hm,w7⟩:=hN _ _ q7;rw[if_neg bu];obtain⟨t7,n7⟩:=a1 I7;exact⟨m',hm,i+1,H7,t,k,Be B S f2 I7.unpinned,t7,n7,rv,w7⟩| true=>
    rw[if_pos rfl]at q7;rw[if_pos rfl];refine db (he _ _ _ _ _ s7 aw H7 _ (I7.wish _) q7) (λy Z h8=>?_) λ_ _ z=>z;obtain⟨z,H8,R,r8,bi⟩:=h8;have R:=R.unwish;obtain⟨m',hm,w8⟩:=hN _ _ bi;obtain⟨t8,n8⟩:=a1 R;have p8:=R.pin (f.heap.objs.size,iM t) (d7 _ (dj _ c5));have bB:t.length<=sizeLine:=by rw[<-rv.length];exact hl
    refine append_at p8.1 λh9 a8 bl=>?_;have bb:=bl.trans (congrArg some (Ir t y));refine⟨m',hm,i+1,H8,t++[y],k++[z],?_,T.keep _ _ _ t8 λb h o e=>(a8.2 b (λq=>?_)).trans e,n8,yu.append rv (.cons r8 .nil),w8⟩;have J0:Inv K [] (bS own.length cap σ) H8 Z:=(Be B S f2 R).pins_of λp M=>by cases M
    have J1:Inv K [] (bS own.length cap σ) H8 {Z with heap:=h9,toks:=Z.toks}:=J0.turned (λb o h e=>(a8.2 b h).trans e) p8.2.1 p8.2.2.1 (.inr (ag _)) (λx c e q=>by
     obtain⟨v,hv⟩:=B.cell x c (S.look B.ok e);exact absurd (cf hv.lt (by rw[q];exact ag _)) (d9 _)) (λp M=>by
     have:p∈[]:=by simpa[K,qx]using M
     cases this)
    exact J1.pins_of λp M=>by
     have e:p=(f.heap.objs.size,iM (t++[y])):=by simpa using M
     subst e;exact⟨bb,p8.2.1,p8.2.2.1,p8.2.2.2.1,λv z=>by cases z⟩
    exact absurd (aa b h) (by rw[q];exact d9 _)
 exact codeAny_compStart_list (P _ rfl) (T.self _ 0 _ _ _ a7 (P _ rfl))
theorem qj(F:X.calm=true)(S:bG X own cap scope)(B:PI X tg cA wi)(E:∀C fp s₂ H₂,PG (qx X own cap scope C fp s₂ H₂) tg g) (y:∀C fp s₂ H₂,ny (qx X own cap scope C fp s₂ H₂) fQ tc) (he:∀C fp s₂ H₂,PE (qx X own cap scope C fp s₂ H₂) fX te)
  (z:∀x,foldedSetIterable cA X.env x=pure x:=by intro _;rfl):PE X (.ListComp fX [⟨tg,cA,fQ,0⟩] scope aD) (BO wi g tc te own.length cap):=by intro b s r H Q I h;rw[eval_ListComp];refine wpAny_comprehension_free rfl z (Xt (S.has I.ok)) S.kind S.names (aF (B b s r H _ I h) λv Z M=>aF M λw U L=>?_);obtain⟨it,fp,R,J,H2,e,o,T,c,l,W,⟨m0,t⟩,a⟩:=L;subst e;refine AH (Zw:=λ_ _ _ _ _ _ _ _ _ _=>False) F S E y he o T c l t a (λ_ _ _ _ h=>h.elim) λD C cH p H' s' P N n K G i j k A u q=>?_;obtain⟨m,f,_⟩:=id n.loc;exact⟨m,f,λh' d=>⟨.ref D,_,Ah o l n d K G i j k A u,rfl,q D k⟩⟩
def Cn(i:Nat)(B:TE):TS:=λD σ H=>B σ H λx H1=>D.nx (σ.set i (some x)) H1
theorem Jj{y:Str}{Q d:Pos}(hc:X.calm=true)(S:bG X own cap scope)(hi:PI X tg cA wi)(hg:∀C fp s₂ H₂,PG (qx X own cap scope C fp s₂ H₂) tg g) (ht:∀C fp s₂ H₂,ny (qx X own cap scope C fp s₂ H₂) fQ tc) (he:∀C fp s₂ H₂,PE (qx X own cap scope C fp s₂ H₂) fX te)
  (hN:X.N.Nodup) (hy:X.N[i]?=some y) (hl:X.env.scope.names.lookup y=some .local)
  (w:swapsWith (.ListComp fX [⟨tg,cA,fQ,0⟩] scope aD) (some (.Name y Q)) d.line X.env=pure true)
  (hs:∀x,foldedSetIterable cA X.env x=pure x:=by intro _;rfl):PS X (.Assign [.Name y Q] (.ListComp fX [⟨tg,cA,fQ,0⟩] scope aD) d) (Cn i (BO wi g tc te own.length cap)):=by
 intro l s P H D I h;rw[exec_Assign_Name_used _ _ _ _ w];refine a4 (wpAny_standAt (a4 ?_));refine a4 (db (wpAny_comprehension_free rfl hs (Xt (S.has I.ok)) S.kind S.names (aF (hi l s P H _ I h) λv s1 h1=>aF h1 λaa s2 h2=>?_)) (λ_ s' hq=>a9 (a9 hq)) λ_ _ e=>e)
 obtain⟨it,fp,tn,J,H2,e,f,T,r,U,W,⟨m0,w0⟩,k⟩:=h2;subst e;refine AH (Zw:=λ_ _ _ _ _ _ _ _ _ _=>False) hc S hg ht he f T r U w0 k (λ_ _ _ _ h=>h.elim) λL C cH Z H' s' us ys N j hD n K R E rv q=>?_;obtain⟨m,B,_⟩:=id N.loc;have I3:=Ah f U N ⟨rfl,λ_ _=>rfl⟩ j hD n K R E rv;refine wpAny_assign_Name (BC I3 hN hy (.inl hl) (v:=.ref L) rfl (λs5 I5 F=>?_) (.inr hl));have M:(upd H' L (.lst ys)) C=none:=by rw[upd_ne (ak n)];exact N.free
 have t:∀a,(a=X.env.locals\/X.env.cells.lookup y=some a)->C≠a:=λa G z=>by rcases G with e|e;exact absurd (cf f.lt (by rw[<-e,<-z];exact j)) (d9 _);obtain⟨v,u⟩:=f.cell y a e;exact absurd (cf u.lt (by rw[<-z];exact j)) (d9 _)
 obtain⟨a,sb,G⟩:=F;refine⟨m,B.sameBut sb (t a G),λh6 A=>?_⟩;refine⟨P.set i (some (.ref L)),_,?_,q L R⟩;refine I5.turned (λb o hb e=>(A.2 b hb).trans e) M ?_ (.inr (cj f.sz j)) (λx c e z=>?_) λp hp z=>?_;exact λz=>absurd (cf f.lt (by rw[<-z];exact j)) (d9 _);obtain⟨v,u⟩:=f.cell x c e;exact absurd (cf u.lt (by rw[z];exact j)) (d9 _);exact absurd (cf (ax (f.pin p hp).1) (by rw[z];exact j)) (d9 _)
end
section
inductive my(K:W.Frag)(xs:List V)(H:Hp)(Q:VK):Prop|mk:∀x n t b,xs=[x,.ty n]->cM K H x t->W.kitOne K t (.type n)=some b->Q (.bl b) H->my K xs H Q
theorem Ft:jp X (.builtin "isinstance") (my X.K):=by intro a s i H j k Q I r h;obtain⟨x,n,t,b,rfl,c,e,q⟩:=h;obtain⟨u,l,rfl,g,f⟩:=rY r;cases(f);exact Hx I g c e λd=>⟨.bl b,H,I.tok d,J,q⟩
theorem Bn:cE X (compareOp .LtE) (λx y H Q=>∃i j,x=.str i/\y=.str j/\Q (.bl (!decide (j.cps.toList<i.cps.toList))) H):=by intro a s d H x y v u Q I c b h;obtain⟨i,j,rfl,rfl,q⟩:=h;obtain⟨t,rfl⟩:=c;obtain⟨e,rfl⟩:=b;exact P.le_str (xn I q J)
theorem je(B:X.calm=true):jp X (.builtin "all") (λxs H Q=>∃(a:Addr)(bs:List Bool),xs=[.ref a]/\aI X.K H a (bs.map V.bl)/\Q (.bl (bs.all id)) H):=by
 intro m s E H xs F Q I r h;obtain⟨a,bs,rfl,n,q⟩:=h;obtain⟨u,rfl,t⟩:=jz r;cases t;obtain⟨c,j,p,L⟩:=I.list n;have k:a<s.heap.objs.size:=by obtain⟨_,e,_⟩:=p.isList;exact ax e
 have l:=j.length;rw[ae]at l;refine call_all_walk (wpAny_pyIter_list p.isList ?_);refine⟨s.heap.objs.size,_,_,_,_,_,λi=>(bs[i]?).getD false,J,Walks.list (A:=X.A.in1) (I.ok.hd B) s.heap.objs.size a (bf k) c.toArray,⟨⟨_,bq _ J,J,J⟩,p.isList.push _⟩,?_,λM G hk=>?_⟩;intro i v K N P g f;have g:c[i]?=some v:=by simpa using g
 cases e:bs[i]? with| none=>have:=List.getElem?_eq_none_iff.mp e;have D:c[i]?=none:=List.getElem?_eq_none_iff.mpr (by omega);rw[D]at g;cases g| some b=>obtain⟨u,A,w⟩:=j.get (by rw[aj,e];rfl);rw[A]at g;cases g;cases(w);dsimp only at f;rw[e]at f;exact a9 f
 have e:((List.range c.toArray.size).all λi=>(bs[i]?).getD false)=bs.all id:=by rw[d5,<-l];clear q n j l;rw[Bool.eq_iff_iff,cy,cy];constructor;intro h x y;obtain⟨i,d,rfl⟩:=List.mem_iff_getElem.mp y;have:=h i (da.mpr d);simpa[d]using this;intro h i d;have d:=da.mp d;have:=h (bs[i]) (List.getElem_mem d);simpa[d]using this
 rw[e];refine⟨.bl (bs.all id),H,I.kept λb o e=>hk b o (λC=>?_) (au _ e),J,q⟩;have z:b=s.heap.objs.size:=by simpa using C
 exact absurd (ax e) (by rw[z];exact d9 _)
theorem Bd(Z:X.calm=true):jp X (.builtin "sum") (λxs H Q=>∃(a:Y)(ns:O Int),xs=[.ref a]/\aI X.K H a (ns.map V.int)/\(∀n∈ns,0<=n)/\ns.sum<2^63/\Q (.int ns.sum) H):=by
 intro E s σ H xs us Q I r h;obtain⟨a,ns,rfl,U,C,h1,q⟩:=h;obtain⟨u,rfl,P⟩:=jz r;cases P;obtain⟨c,D,p,hz⟩:=I.list U;have f:a<s.heap.objs.size:=by obtain⟨_,e,_⟩:=p.isList;exact ax e
 have G:=D.length;rw[ae]at G;have w:∀k,k<=ns.length->preSum (λi=>(ns[i]?).getD 0) k=(ns.take k).sum:=by intro k;induction k with|zero=>intro _;rfl| succ k x=>intro hk;have this:ns[k]?=some ns[k]:=bo (by omega);rw[preSum,x (by omega),cu,this,List.sum_append];simp
 have F:∀(l:O Int),(∀n∈l,0<=n)->0<=l.sum:=by intro l;induction l with|nil=>intro _;exact ef _| cons a r x=>intro h;have h1:=h a c5;have h2:=x λn d=>h n (bv _ d);rw[List.sum_cons];omega
 have M:∀k,(ns.take k).sum<=ns.sum:=by
  intro k;have e:ns.sum=(ns.take k).sum+(ns.drop k).sum:=by rw[<-List.sum_append,List.take_append_drop]
  have:=F (ns.drop k) λn d=>C n (List.mem_of_mem_drop d);omega
 refine call_sum_walk (wpAny_pyIter_list p.isList ?_);refine⟨s.heap.objs.size,_,_,_,_,_,λi=>(ns[i]?).getD 0,J,Walks.list (A:=X.A.in1) (I.ok.hd Z) s.heap.objs.size a (bf f) c.toArray,⟨⟨_,bq _ J,J,J⟩,p.isList.push _⟩,?_,?_,?_,λh' L N hk=>?_⟩;intro b B;rw[dy];rcases az.mp B with z|z;rw[z];exact eq _;have z:b=a:=by simpa using z
 rw[z];exact Nat.lt_succ_of_lt f;intro i v m;have m:c[i]?=some v:=by simpa using m
 have K:i<ns.length:=by have:=(cp.mp m).1;omega
 obtain⟨u,S,R⟩:=D.get (by rw[aj,bo K];rfl);rw[S]at m;cases m;obtain⟨t,rfl⟩:=(R)
 exact⟨t,by dsimp only;rw[bo K];rfl⟩;intro j g;rw[d5]at g;have g:j<ns.length:=by omega
 have W:=List.getElem_mem g;have A:=w (j+1) (by omega);have y:=w j (by omega);have h3:=M (j+1);have h5:=F (ns.take j) λn d=>C n (List.mem_of_mem_take d);have h6:=C _ W;rw[preSum,y,bo g]at A;have A:(ns.take j).sum+ns[j]=(ns.take (j+1)).sum:=A;refine⟨?_,?_⟩;dsimp only;rw[bo g];unfold InLong;omega;rw[w (j+1) (by omega)];unfold InLong;omega;have e:preSum (λi=>(ns[i]?).getD 0) c.toArray.size=ns.sum:=by rw[d5,<-G,w _ (ag _),cw]
 rw[e];refine⟨.int ns.sum,H,I.kept λb o e=>hk b o (λB=>?_) (au _ e),⟨N,J⟩,q⟩;have z:b=s.heap.objs.size:=by simpa using B
 exact absurd (ax e) (by rw[z];exact d9 _)
end
section
theorem IS{t:Y}{v:I}(a:s.heap.IsTupleIter it t i)(e:s.heap.IsTuple t its)(d:its[i]?=some v)(k:∀g,g.IsTupleIter it t (i+1)->Heap.SameBut it s.heap g->Q v {s with heap:=g}):wpAny (model prog w) A (Builtin.SmallTypes.nextOf (.ref it)) Q E s:=by obtain⟨o,c,h,b⟩:=id a;obtain⟨l,f,_,m,j⟩:=e;unfold Builtin.SmallTypes.nextOf;refine a4 (wpAny_callSpecial?_slot a.typeIs PySem.F.slot_tuple_iterator_next (cr PySem.F.slot_tuple_iterator_next a.typeIs PySem.F.entry_tuple_iterator_next ?_ (PySem.F.args_tuple_iterator_next_1 _)));show wpAny _ _ (field (.ref it) 0>>=_) _ _ s;refine a4 (wpAny_field c b J ?_);rw[if_neg (λz=>by grind)];refine a4 (wpAny_field c b J ?_);refine a4 (wpAny_seqItems f j ?_);simp only[ci,d];refine a4 (wpAny_setField c b (by simp) (a9 ⟨v,J,a9 (k _ ⟨_,Heap.get?_update_self _ c (Obj.isFreed_of_fields (Obj.data_mapFields b _)),(Obj.cls_mapFields ..).trans h,?_⟩ (Heap.SameBut.update ..))⟩));rw[Obj.data_mapFields b];rfl
theorem LC{t:Y}(hh:A.handled=none)(a:s.heap.IsTupleIter it t i)(e:s.heap.IsTuple t its)(d:its[i]?=none)(k:∀g x,Heap.ExtBut it s.heap g->(∃o,g.get? x=some o/\o.cls=.type "StopIteration")->E (.ref x) {s with heap:=g}):wpAny (model prog w) A (Builtin.SmallTypes.nextOf (.ref it)) Q E s:=by
 obtain⟨o,c,m,b⟩:=id a;obtain⟨j,f,_,l,h⟩:=e;unfold Builtin.SmallTypes.nextOf;refine a4 (wpAny_callSpecial?_slot a.typeIs PySem.F.slot_tuple_iterator_next (cr PySem.F.slot_tuple_iterator_next a.typeIs PySem.F.entry_tuple_iterator_next ?_ (PySem.F.args_tuple_iterator_next_1 _)));show wpAny _ _ (field (.ref it) 0>>=_) _ _ s;refine a4 (wpAny_field c b J ?_);rw[if_neg (λz=>by grind)];refine a4 (wpAny_field c b J ?_);refine a4 (wpAny_seqItems f h ?_);simp only[ci,d];refine a4 (wpAny_rule (a4 (wpAny_setField c b (by simp) ?_)));refine a4 ?_;simp only[newExc,newTuple];refine a4 (d8 ?_ (by size_fits));refine a4 (wpAny_of_eq (by rfl) ?_);refine d8 ?_ (by size_fits);simp only[raiseNew];refine a4 (wpAny_handled ?_);first|rw[(hh)]|rw[hh]
 exact a4 (a9 (wpAny_throw (k _ _ (((Heap.SameBut.update ..).extBut.push _).push _) ⟨_,bq _ J,J⟩)))
theorem IJ{e t:Y}{v:I}{Q:Option I->Shared->Prop}(he:IsEnum s.heap e it i cI)(W:s.heap.IsTupleIter it t i)(ht:s.heap.IsTuple t its)(Z:its[i]?=some v)(m:e≠it)(k:∀g,IsEnumOut g e it ((i:Int)+1) v s.heap.objs.size->g.IsTupleIter it t (i+1)->g.get? s.heap.objs.size=some {cls:=.type "tuple",data:=.seq #[.int i s.toks,v]}->g.objs.size=s.heap.objs.size+1-> (∀b o,b≠e->b≠it->s.heap.get? b=some o->g.get? b=some o)->Q (some (.ref s.heap.objs.size)) {s with heap:=g,toks:=s.toks+1}):wpAny (model prog w) A (pyNext (.ref e)) Q E s:=by
 have hT:s.TypeIs (.ref e) "enumerate":=⟨_,he,J⟩
 unfold pyNext;refine a4 (wpAny_attempt (wpAny_callSpecial?_slot hT PySem.F.slot_enumerate_next (cr PySem.F.slot_enumerate_next hT PySem.F.entry_enumerate_next ?_ (PySem.F.args_enumerate_next_1 _))));obtain⟨M,gs,d,L,os⟩:=s;show wpAny _ _ (field (.ref e) 2>>=_) _ _ _;refine a4 (wpAny_field he J J ?_);refine a4 (IS W ht Z λg1 z l=>?_);replace l:=l;have y:=(l.2 e m).trans he;refine a4 (wpAny_field y J J ?_);refine a4 (wpAny_field y J J ?_);refine a4 (wpAny_mkInt ?_);refine a4 (wpAny_setField_rec y (by simp) λg2 x j=>?_);replace j:=j;replace x:=x;refine a4 (wpAny_setField_rec x (by simp) λN u h=>?_);replace h:=h;replace u:=u;refine a4 (wpAny_newTuple ?_);have q:IsEnum (N.push {cls:=.type "tuple",data:=.seq #[.int i L,v]}) e it (i+1) cI:=au _ u;generalize n:N.push {cls:=.type "tuple",data:=.seq #[.int i L,v]}=K at q;have p:N.objs.size=M.objs.size:=by rw[h.1,j.1,l.1]
 have C:=ax he;have S:K.get? M.objs.size=some {cls:=.type "tuple",data:=.seq #[.int i L,v]}:=by rw[<-n,<-p];exact bq _ J
 have R:K.objs.size=M.objs.size+1:=by rw[<-n,dy,p]
 have U:∀b o,b≠e->b≠it->M.get? b=some o->K.get? b=some o:=λb o B P X=>by rw[<-n];exact au _ (h.extBut b o B (j.extBut b o B (l.extBut b o P X)))
 have H:K.IsTupleIter it t (i+1):=by rw[<-n];obtain⟨o,ho,r⟩:=(z.extBut j.extBut (ak m)).extBut h.extBut (ak m);exact⟨o,au _ ho,r⟩
 show wpAny _ _ (Builtin.SmallTypes.ownedTupleIsFree (.ref e)>>=_) _ _ ⟨K,gs,d,L+1,os⟩;rw[p];clear n u h x j y l z p N g2 g1;refine a4 ?_;unfold Builtin.SmallTypes.ownedTupleIsFree;refine a4 (wpAny_field q J J (a9 ?_));simp only[if_true];refine a4 (wpAny_rule (a4 (wpAny_field q J J (a4 (wpAny_setField_rec q (by simp) λg5 G f=>?_)))));replace f:=f;replace G:=G;refine a4 ?_;unfold Builtin.SmallTypes.ownedTupleHandOut;refine a4 (wpAny_setField_rec G (by simp) λg6 F c=>?_);replace c:=c;replace F:=F;refine wpAny_setField_rec F (by simp) λg7 D a=>?_;replace a:=a;replace D:=D;refine a4 (wpAny_letGo (a9 ⟨_,J,a9 (k g7 D ?_ ?_ ?_ ?_)⟩));exact((H.extBut f.extBut (ak m)).extBut c.extBut (ak m)).extBut a.extBut (ak m);exact a.extBut _ _ (dc C) (c.extBut _ _ (dc C) (f.extBut _ _ (dc C) S));rw[a.1,c.1,f.1,R];exact λb o B P X=>a.extBut b o B (c.extBut b o B (f.extBut b o B (U b o B P X)))
theorem Ho{e t:Y}{Q:Option I->Shared->Prop}(hh:A.handled=none)(he:IsEnum s.heap e it i cI)(a:s.heap.IsTupleIter it t i)(d:s.heap.IsTuple t its)(c:its[i]?=none)(k:∀g,Heap.ExtBut it s.heap g->Q none {s with heap:=g}):wpAny (model prog w) A (pyNext (.ref e)) Q E s:=by
 have hT:s.TypeIs (.ref e) "enumerate":=⟨_,he,J⟩
 unfold pyNext;refine a4 (wpAny_attempt (wpAny_callSpecial?_slot hT PySem.F.slot_enumerate_next (cr PySem.F.slot_enumerate_next hT PySem.F.entry_enumerate_next ?_ (PySem.F.args_enumerate_next_1 _))));show wpAny _ _ (field (.ref e) 2>>=_) _ _ _;refine a4 (wpAny_field he J J ?_);refine a4 (LC hh a d c λg x b ⟨o,f,h⟩=>?_);exact a4 (de ⟨o,f,h⟩ isSubtype_stop (a9 (k _ b)))
theorem Go(t:Y)(its:Array I)(n:Nat)(e:Option Y)(k:Array (Option I)):
  Meets (Builtin.«enumerate.__new__» ⟨[.type "enumerate",.ref t],[]⟩) (λ_ R s=>s.heap.get? t=some {cls:=.type "tuple",dict:=e,data:=.seq its n,slots:=k}/\ R (.ok (.ret (.ref (s.heap.push {cls:=.type "tuple_iterator",data:=.fields #[.ref t,.int 0 0]}).objs.size)))
     {s with heap:=(s.heap.push {cls:=.type "tuple_iterator",data:=.fields #[.ref t,.int 0 0]}).push {cls:=.type "enumerate",data:=.fields #[.none,.bool false,.ref s.heap.objs.size,rawInt 0,.none,.none]}}):=
 .of_wp λf w A R s h=>by
  obtain⟨l,g,d,j,os⟩:=s;obtain⟨a,h⟩:=h;have i:=sub_enumerate;have b:Heap.IsTuple (Shared.heap ⟨l,g,d,j,os⟩) t its:=⟨_,a,J,n,J⟩
  wp_walk using AutoSeq1.wpAny_loadPart' a
  refine wpAny_stack_any λst=>a9 ?_;split
  rename_i c _ _ _ _ _
  cases(c==Value.type "enumerate")
  wp_walk using AutoSeq1.wpAny_loadPart' a,wpAny_pyIter_tuple b
  exact⟨_,J,h⟩
  wp_walk using AutoSeq1.wpAny_loadPart' a,wpAny_pyIter_tuple b
  exact⟨_,J,h⟩
  wp_walk using AutoSeq1.wpAny_loadPart' a,wpAny_pyIter_tuple b
  exact⟨_,J,h⟩
theorem IW{t:Y}(m:s.heap.IsTuple t its)(k:∀g,IsEnum g (s.heap.objs.size+1) s.heap.objs.size 0 .none->g.IsTupleIter s.heap.objs.size t 0->g.objs.size=s.heap.objs.size+2->(∀b o,s.heap.get? b=some o->g.get? b=some o)->Q (.ref (s.heap.objs.size+1)) {s with heap:=g}):
  wpAny (model prog w) A (call (.type "enumerate") [.ref t]) Q E s:=by
 obtain⟨⟨c,h,r,l⟩,p,f,n,d⟩:=m;replace f:=f;replace d:=d;subst f d;refine callType_new PySem.F.called_enumerate (by rfl) (PySem.F.typeCall_enumerate_1 _) (PySem.F.newCall_enumerate_1 _) (λa=>PySem.F.args_object_init_2 a _) PySem.F.entry_enumerate_new (Go t its n h l) ⟨p,?_⟩;have i:(s.heap.push {cls:=.type "tuple_iterator",data:=.fields #[.ref t,.int 0 0]}).objs.size=s.heap.objs.size+1:=dy ..;rw[i];have j:IsEnum ((s.heap.push {cls:=.type "tuple_iterator",data:=.fields #[.ref t,.int 0 0]}).push {cls:=.type "enumerate",data:=.fields #[.none,.bool false,.ref s.heap.objs.size,rawInt 0,.none,.none]}) (s.heap.objs.size+1) s.heap.objs.size 0 .none:=by
  have q:=bq (s.heap.push {cls:=.type "tuple_iterator",data:=.fields #[.ref t,.int 0 0]}) (o:={cls:=.type "enumerate",data:=.fields #[.none,.bool false,.ref s.heap.objs.size,rawInt 0,.none,.none]}) J
  grind
 refine⟨⟨_,j,J⟩,k _ j ⟨_,au _ (bq _ J),J,J⟩ (by rw[dy,i]) λb o e=>au _ (au _ e)⟩
end
noncomputable def rj(K:W.Frag)(a:Addr):It:=⟨λi H=>∃xs x,aE K H a xs/\xs[i]?=some x,λi H x H'=>∃p y,x=.ref p/\H p=none/\H'=upd H p (.tup [.int i,y])/\∀xs,aE K H a xs->xs[i]?=some y,λi H=>∃xs,aE K H a xs/\xs.length<=i⟩
theorem IB{K:W.Frag}{k1}(a e f:Y)(L:e≠f)(l:sizeLine≥2):dI P w K (.Tuple eR k1 aD) (rj K a) [e,f] e (λi h=>(∃cI,IsEnum h e f i cI)/\h.IsTupleIter f a i) where
 mem:=by simp
 obj:=λi h st b l=>by
  obtain⟨⟨cI,A⟩,D⟩:=st;rcases az.mp l with z|z
  simp_all
  have z:b=f:=by simp_all
  rw[z];obtain⟨o,F,c,d⟩:=D
  simp_all
 keep:=λi h h' st k=>by obtain⟨⟨cI,A⟩,o,F,r⟩:=st;exact⟨⟨cI,k e (by simp) _ A⟩,o,k f (by simp) o F,r⟩
 item:=by
  intro X hP hw hK hc i B s σ H E I Q st hg;subst hP hw hK;obtain⟨xs,x,G,hx⟩:=hg;obtain⟨Z,S,p,hz⟩:=I.tuple G;obtain⟨u,hu,ru⟩:=S.get hx;obtain⟨⟨cI,A⟩,D⟩:=st;obtain⟨f0,f1,f2,f3,f4,f5⟩:=Q e (by simp);obtain⟨g0,g1,g2,g3,g4,g5⟩:=Q f (by simp);refine IJ A D (p) (by simpa using hu) L λg ho ah hT aw hk=>?_;refine⟨.ref s.heap.objs.size,J,wpAny_letOwnedTupleGo_enum ho λg' ay C=>?_⟩;have M:=dc (ax A);have ap:s.heap.objs.size≠f:=by obtain⟨o,F,_⟩:=D;exact dc (ax F)
  have y:=λb o N U z=>(C.2 b N).trans (hk b o N U z);have aq:=(C.2 _ M).trans hT;have j:=I.hok.fresh (ag _);have av:∀b o,H b=some o->b≠e/\b≠f:=λb o z=>⟨(λq=>by simp_all),(λq=>by simp_all)⟩
  have I1:Inv X B σ (upd H s.heap.objs.size (.tup [.int i,x])) {s with heap:=g',toks:=s.toks+1}:=by
   refine I.step (ch:=[e,f]) (λb l=>?_) (λb o N U t z _=>y b o (λq=>t (by grind)) (λq=>t (by grind)) z)
    (λb o N U t z _=>⟨o.slots,y b o (λq=>t (by grind)) (λq=>t (by grind)) z⟩) (λb o t z n=>?_) (λb o t z=>⟨o,y b o (λq=>t (by grind)) (λq=>t (by grind)) z⟩)
    (λb R z=>by rw[upd_ne (zm z j)];exact z) (λb o R z=>by rw[upd_ne (zm z j)];exact z) (λb ps z=>⟨#[],by rw[upd_ne (zm z j),z];simp⟩) (λm hm=>?_) (λb ob z=>?_) I.bare
   grind
   rw[upd_ne (bf (ax z))];exact n;obtain⟨o,es,ep,aa,r⟩:=hm;exact⟨o,es,ep,y _ o (ak f1) (ak g1) aa,r⟩;by_cases l:b=s.heap.objs.size;subst l;rw[zd]at z;cases z;exact⟨by omega,[.int i s.toks,u],.cons ⟨_,J⟩ (.cons ru .nil),⟨_,aq,J,_,J⟩,λq G=>by simp_all⟩
   rw[upd_ne l]at z;refine(I.hok b ob z).stay (λc v hc q=>?_) (λc q=>by rw[upd_ne (zm q j)];exact q) λc R q=>by rw[upd_ne (zm q j)];exact q
   grind
  refine⟨.ref s.heap.objs.size,_,I1,J,⟨_,x,J,j,J,λR hy=>by rw[I.tuple_inj hy G];omega⟩,⟨⟨u,by grind⟩,?_⟩,λb l=>?_⟩;obtain⟨o,F,r⟩:=ah;exact⟨o,(C.2 f (ak L)).trans F,r⟩;rcases az.mp l with q|q;rw[q,upd_ne (ak M)];omega;have q:b=f:=by simp_all
  rw[q,upd_ne (ak ap)];omega
 done:=by intro X hP hw hK hc i B s σ H E I Q st hg;subst hP hw hK;obtain⟨xs,G,hx⟩:=hg;obtain⟨Z,S,p,hz⟩:=I.tuple G;obtain⟨⟨cI,A⟩,D⟩:=st;obtain⟨g0,g1,g2,g3,g4,g5⟩:=Q f (by simp);have hl:=S.length;exact Ho (I.ok.hd hc) A D (p) (by simp_all) λg eb=>⟨J,I.turned (λb o l z=>eb b o l z) g0 g1 g3 g4 g5⟩
 self:=λ_ _ _ _ _ st h=>by obtain⟨⟨cI,A⟩,_⟩:=st;exact wpAny_pyIter_enum A h
section
inductive iC(K:W.Frag)(R:It->Hp->Prop)(vs:List V)(H1:Hp):Prop|mk:∀a xs,vs=[.ref a]->aE K H1 a xs->R (rj K a) H1->iC K R vs H1
def Dg(K:W.Frag)(ta:TA):TI:=λσ H R=>ta σ H λvs H1=>iC K R vs H1
theorem J8{o}{E:Pos}{a:Expr}{p:Pos}(B:Gl X "enumerate")(y:X.mg "enumerate"=none)(D:PA X [a] ta)(w:starEach [a] X.env=[(false,eval a X.env)]:=by rfl):PI X (.Tuple eR o E) (.Call (.Name "enumerate" p) [a] [] aD) (Dg X.K ta):=by
 intro f s j H R I h;refine Call_ (Yz I B y boot_enumerate (PyProof.Rows.callWith_type1 (aF (D aD f s j H _ I h) λL c ⟨K,F,d,l,m⟩=>?_) w J));obtain⟨t,G,e,x,q⟩:=m;subst e;obtain⟨u,rfl,k⟩:=jz l;cases k;obtain⟨r,M,n,N⟩:=d.tuple x;refine IW (n) λg i A v hk=>?_;refine wpAny_pyIter_enum i ?_;refine⟨c.heap.objs.size+1,[c.heap.objs.size+1,c.heap.objs.size],_,_,F,J,d.kept hk,IB t (c.heap.objs.size+1) c.heap.objs.size (Nat.succ_ne_self _) (by rw[sizeLine_eq];omega),⟨⟨_,i⟩,A⟩,λb C=>?_,q⟩;rcases az.mp C with z|z;rw[z];exact d.fpOk (Nat.le_succ _) (d.hok.fresh (Nat.le_succ _));have z:b=c.heap.objs.size:=by simp_all
 rw[z];exact d.fpOk (ag _) (d.hok.fresh (ag _))
end
theorem uD{K:W.Frag}(Pv:Nat->St->Hp->Prop)(h0:Pv 0 σ H)(hl:∀i σ H,i<=xs.length->Pv i σ H->aE K H a xs)(o:∀i x σ H p,xs[i]?=some x->Pv i σ H->H p=none->g (.ref p) σ (upd H p (.tup [.int i,x])) λb H2=>tb (D.lp (Pv (i+1))) b H2) (j:∀σ H,Pv xs.length σ H->D.nx σ H):
  cG g tb D σ (rj K a) H:=by
 refine⟨λi m σ H=>m=xs.length-i/\i<=xs.length/\Pv i σ H,⟨xs.length,by simp,bj _,h0⟩,?_⟩;rintro i m σ H ⟨rfl,h,p⟩;have q:=hl i σ H h p;by_cases c:i<xs.length;refine .inr ⟨⟨xs,xs[i],q,by simp⟩,Pv (i+1),λf k d=>⟨xs.length-(i+1),by omega,J,c,d⟩,λx k y=>?_⟩;obtain⟨d,l,rfl,r,rfl,n⟩:=y
 grind
 have e:i=xs.length:=by omega
 subst e;exact .inl ⟨⟨xs,q,ag _⟩,j σ H p⟩
noncomputable def vA(lo:Int)(n:Nat):It:=⟨λi _=>i<n,λi H x H'=>H'=H/\x=.int (lo-i),λi _=>n<=i⟩
theorem IA{K:W.Frag}(c:Y)(lo:Int)(n:Nat):dI P w K tg (vA lo n) [c] c (λi h=>IsRangeIter h c (lo+(i:Nat)*(-1)) ((n:Int)-(i:Nat)) (-1)) where
 mem:=by simp
 obj:=λi h st b f=>by simp_all
 keep:=λi h r st k=>k c (by simp) _ st
 item:=by
  intro X p j q m i a s B H E I g st l;subst p j q;obtain⟨A,z,G,y,x,u⟩:=g c (by simp);refine(Walks.range (I.ok.hd m) c lo (-1) n).item i s _ _ l st λv r C F d D=>?_;obtain⟨t,rfl⟩:=F;have M:Inv X a B H {s with heap:=r,toks:=C}:=I.turned (λb o f e=>D b o (by simp_all) e) A z y x u;refine⟨_,J,dS d J J (by rfl) ⟨.int (lo-i),H,M,⟨t,?_⟩,⟨J,J⟩,d,λb f=>(g b f).1⟩⟩
  grind
 done:=by intro X p j q m i a s B H E I g st l;subst p j q;obtain⟨A,z,G,y,x,u⟩:=g c (by simp);exact wpAny_pyNext_range_end (I.ok.hd m) st (by have:n<=i:=l;omega) λr L=>⟨J,I.turned (λb o f e=>L b o f e) A z y x u⟩
 self:=λ_ _ _ _ _ st h=>wpAny_pyIter_rangeiter st h
section
inductive iD(R:It->Hp->Prop)(vs:List V)(H1:Hp):Prop|mk:∀n:Nat,vs=[.int ((n:Int)-1),.int (-1),.int (-1)]->(n:Int)<2^62->R (vA ((n:Int)-1) n) H1->iD R vs H1
def CF(ta:TA):TI:=λσ H R=>ta σ H λvs H1=>iD R vs H1
theorem E6 {a b c:Expr} {p:Pos} (D:Gl X "range") (C:X.mg "range"=none) (F:PA X [a,b,c] ta) (B:starEach [a,b,c] X.env=[(false,eval a X.env),(false,eval b X.env),(false,eval c X.env)]:=by rfl)
  (g:starEach [b,c] X.env=[(false,eval b X.env),(false,eval c X.env)]:=by rfl):
  PI X tg (.Call (.Name "range" p) [a,b,c] [] aD) (CF ta):=by
 intro d s m H R I h;refine Call_ (Yz I D C boot_range (PyProof.Rows.callWith_type1 (aF (F aD d s m H _ I h) λN j ⟨M,v,L,y,A⟩=>?_) (by rw[B,g]) (by rw[g];rfl)));obtain⟨n,e,P,q⟩:=A;subst e;cases y with| cons r f=>
   cases f with| cons z f=>
     cases f with| cons k f=>
       cases f;obtain⟨t,rfl⟩:=r;obtain⟨w,rfl⟩:=z;obtain⟨i,rfl⟩:=k;refine call_range_3 (by decide) ?_ (.inl (PyProof.noPylong_small (by omega)));have u:Builtin.Range.rangeSize (n-1) (-1) (-1)=n:=by
        unfold Builtin.Range.rangeSize
        grind
       have x:Builtin.Range.small (n-1) (-1) (-1)=true:=by
        unfold Builtin.Range.small;simp only[u,Builtin.Range.rangeFitsLong,cg,Bool.or_eq_true,decide_eq_true_eq,beq_iff_eq]
        grind
       refine wpAny_pyIter_range (IsRange.new ..) x ?_;rw[u];have l:Inv X d m v {j with heap:=j.heap.push {cls:=.type "range",data:=.fields #[.int (n-1) t,.int (-1) w,.int (-1) i]},toks:=j.toks}:=L.kept λb o e=>au _ e;refine⟨_,[_],_,_,v,J,l.kept λb o e=>au _ e,IA _ (n-1) n,?_,λb E=>?_,q⟩;have K:n-1+((0:Nat):Int)*(-1)=n-1:=by omega
       have G:n-((0:Nat):Int)=n:=by omega
       rw[K,G];exact bq _ J;have e:=ai.mp E;rw[e];exact l.fpOk (ag _) (l.hok.fresh (ag _))
end
theorem FK{n:Nat}(Pv:Nat->St->Hp->Prop)(h0:Pv 0 σ H)(j:∀i σ H,i<n->Pv i σ H->g (.int (lo-i)) σ H λb H2=>tb (D.lp (Pv (i+1))) b H2) (f:∀σ H,Pv n σ H->D.nx σ H):
  cG g tb D σ (vA lo n) H:=by
 refine⟨λi m σ H=>m=n-i/\i<=n/\Pv i σ H,⟨n,by simp,bj _,h0⟩,?_⟩;rintro i m σ H ⟨rfl,k,p⟩;by_cases a:i<n;refine .inr ⟨a,Pv (i+1),λc h d=>⟨n-(i+1),by omega,J,a,d⟩,λx h y=>?_⟩;obtain⟨e,y⟩:=y
 simp_all
 have e:i=n:=by omega
 subst e;exact .inl ⟨ag _,f σ H p⟩
theorem Ym:entryFor table "dict.update.loop"=some Builtin.«dict.update.loop»:=entryFor_of_tree (by kernel_rfl)
theorem qu:plainId "dict.update.loop"=true:=by decide+kernel
theorem Iu:typeLookup (.type "tuple") "keys"=pure none:=am_miss_of_fast (by decide+kernel)
section
set_option maxRecDepth 8000 in
theorem Lz{xs:Array Value}{k:Nat}{u:Tok}(hx:s.heap.get? a=some {cls:=.type "tuple",dict:=none,data:=.seq xs k,slots:=sl})(hA:A.handled=none)
  (h:∀h' tk e,Heap.NewExcOf s.heap h' e "AttributeError"->E (.ref e) {s with heap:=h',toks:=tk}):wpAny (model prog w) A (getAttrBy (.ref a) (.str "keys" u) false) Q E s:=by
 obtain⟨hp,g,d,tk,os⟩:=s;have hT:∀tk',(⟨hp,g,d,tk',os⟩:Shared).TypeIs (.ref a) "tuple":=λ_=>⟨_,hx,rfl⟩
 have f1:=sub_AttributeError;have f3:=PySem.F.slot_tuple_getattribute.lookup;have f4:=PySem.F.slot_tuple_getattribute.bind (.ref a);have f5:=am_tuple_getattr_none;unfold getAttrBy
 repeat(any_goals (first|assumption|exact hT _|((with_reducible show wpAny _ _ (call (Value.builtin "tuple.__getattribute__") _ _) _ _ _);refine call_meets PySem.F.slot_tuple_getattribute (hT _) am_entry_tuple_getattribute (PySem.F.args_tuple_getattribute_2 _ _) (meets_getattribute_miss_tuple a xs k sl "keys" _ Iu (by decide+kernel) (by size_fits)) ⟨hx,hA,λh' tk' e hx'=>?_⟩)|wp_step))
 obtain⟨t',u',he⟩:=hx'.there;show wpAny _ _ (getattributeRaised _ _ _ _ _ _ _) _ _ _;unfold getattributeRaised
 repeat(any_goals (first|assumption|wp_step))
 exact h _ _ _ hx'.of
theorem JT{xs:Array I}{k:Nat}{Q:Option I->Shared->Prop}(d:s.heap.get? a=some {cls:=.type "tuple",dict:=none,data:=.seq xs k,slots:=sl})(i:A.handled=none)
  (h:∀h' tk,(∀b o,s.heap.get? b=some o->h'.get? b=some o)->Q none {s with heap:=h',toks:=tk}):wpAny (model prog w) A (getAttr? (.ref a) "keys") Q E s:=by unfold getAttr? getAttrBy?;refine a4 (wpAny_mkText ?_);refine a4 (wpAny_attempt (Lz d i λh' tk e x=>?_));obtain⟨c,r,f,g,_⟩:=x.there;refine a4 (de ⟨_,f,g⟩ sub_AttributeError ?_);exact a9 (h _ _ x.keeps)
end
section
inductive hX(xs:List V)(H:Hp)(Q:VK):Prop|mk:∀(a:Addr),xs=[.ref a]->H a=some (.tup [])->(∀p,H p=none->Q (.ref p) (upd H p (.dK [])))->hX xs H Q
theorem IU(D:X.calm=true):jp X (.type "dict") hX:=by
 intro p s S H U W Q I r h;obtain⟨a,rfl,E,q⟩:=h;obtain⟨u,rfl,x⟩:=jz r;cases x;obtain⟨hz,C,y,⟨⟨cc,cd,R,P⟩,w,K,n,G⟩,B⟩:=(I.hok a _ E)
 have F:=B _ w;subst K G F;cases y;have v:=I.ok.hd D;refine callType_codes (Q₁:=λi d=>i=.ref s.heap.objs.size/\d={s with heap:=s.heap.push {cls:=.type "dict",data:=.dict #[]}}) PySem.F.kt_called_dict (PySem.F.kt_typeCall_dict_1 _) PySem.F.entry_dict_init (kt_code_dict_new _ ⟨J,J⟩) ?_;rintro i d ⟨rfl,rfl⟩;have c:(s.heap.push {cls:=.type "dict",data:=.dict #[]}).DictOf (ya X.prog X.w) s.heap.objs.size []:=Heap.DictOf.new s.heap;have f:=au {cls:=.type "dict",data:=.dict #[]} w;refine⟨c.typeIs,PySem.F.args_dict_init_2 _ _,?_⟩;unfold Builtin.«dict.__init__»;refine a4 ?_;unfold Builtin.Dict.selfAndRest;refine a4 (wpAny_notOrdered_dict c.typeIs (a9 ?_));show wpAny _ _ (Builtin.Dict.updateFrom "dict.__init__" s.heap.objs.size (.ref a) [] .none) _ _ _;unfold Builtin.Dict.updateFrom;refine a4 (wpAny_typeOf ⟨_,f,J⟩ ?_);rw[if_pos (by decide)];refine a4 (JT f v λg Z hk=>?_);simp only[Option.isNone_none,if_true];refine a4 (wpAny_rule ?_);have j:g.IsTuple a #[]:=⟨_,hk _ _ f,J,n,J⟩
 refine a4 (wpAny_pyIter_tuple j (a9 ⟨plainId_quiet qu _,codeAny_builtin Ym ?_⟩));obtain⟨o,L,M,t,A⟩:=c;have k:=ax (hk _ _ t);rw[Around.under_plainId qu _];refine a4 (wpAny_pyNext_tuple_end v ⟨_,bq _ J,J,J⟩ (j.push _) J λh' N=>a4 (a9 (a9 ⟨J,?_⟩)));have m:=λb o l e=>N b o (bf l) (au _ e);have keep:=λb o e=>m b o (Nat.lt_trans (ax e) k) (hk _ _ (au _ e));obtain⟨_,z,_⟩:=uA (P:=X.prog) (w:=X.w) (H:=H) s.heap I.big;exact⟨.ref s.heap.objs.size,_,I.laid keep (ag _) (p9 (bj _) z .nil ⟨o,L,M,m _ _ k (hk _ _ t),A⟩),J,q _ (I.hok.fresh (ag _))⟩
end
noncomputable def qZ(x:Str):It:=⟨λi _=>i<x.cps.size,λi H v H'=>H'=H/\∃c,x.cps[i]?=some c/\v=.str ⟨#[c]⟩,λi _=>x.cps.size<=i⟩
theorem Hy{K:W.Frag}{q:String}(a:Y)(x:Str)(t:Tok)(n:q="str_ascii_iterator"\/q="str_iterator"):dI P w K tg (qZ x) [a] a (λi h=>i<=x.cps.size/\h.IsStrIter a q x t i) where
 mem:=by simp
 obj:=λi h st b C=>by
  have e:b=a:=by simp_all
  subst e;obtain⟨_,o,e,c,d⟩:=st
  simp_all
 keep:=λi h g st k=>by obtain⟨z,o,e,r⟩:=st;exact⟨z,o,k a (by simp) o e,r⟩
 item:=by
  intro X U R Z B i j s Q H E I D st p;subst U R Z;obtain⟨z,st⟩:=st;obtain⟨N,M,f2,L,G,F⟩:=D a (by simp);have fin:∀(g:Heap)(l:Nat)(v:Value),SignAt x i v->g.IsStrIter a q x t (i+1)->(∀b o,b ∉ [a]->s.heap.get? b=some o->g.get? b=some o)->
    ∃u,some v=some u/\wpAny (model X.prog X.w) X.A (letOwnedTupleGo tg (.ref a) u) (λ_ s2=>∃y H',Inv X j Q H' s2/\yq y u/\(qZ x).yld i H y H'/\(i+1<=x.cps.size/\s2.heap.IsStrIter a q x t (i+1))/\∀b∈[a],H' b=none) E {s with heap:=g,toks:=l}:=by intro g l v A f m;obtain⟨c,u,S,rfl⟩:=A;have I1:Inv X j Q H {s with heap:=g,toks:=l}:=I.turned (λb o C e=>m b o (by simp_all) e) N M L G F;obtain⟨o,e1,e2,e3⟩:=id f;refine⟨_,J,dS e1 e2 e3 (by grind) ⟨.str ⟨#[c]⟩,H,I1,⟨u,J⟩,⟨J,c,S,J⟩,⟨p,f⟩,λb C=>(D b C).1⟩⟩
  rcases n with rfl|rfl;exact(Walks.strAscii (I.ok.hd B) a x t).item i s _ _ p st λv g l A f m=>fin g l v A f m;exact(Walks.strWide (I.ok.hd B) a x t).item i s _ _ p st λv g l A f m=>fin g l v A f m
 done:=by
  intro X U R Z B i j s Q H E I D st p;subst U R Z;obtain⟨z,st⟩:=st;have p:x.cps.size<=i:=p;have e:i=x.cps.size:=by omega
  subst e;obtain⟨N,M,f2,L,G,F⟩:=D a (by simp);rcases n with rfl|rfl;exact(Walks.strAscii (I.ok.hd B) a x t).done s _ _ st λg l m=>⟨J,I.turned (λb o C e=>m b o (by simp_all) e) N M L G F⟩
  exact(Walks.strWide (I.ok.hd B) a x t).done s _ _ st λg l m=>⟨J,I.turned (λb o C e=>m b o (by simp_all) e) N M L G F⟩
 self:=λ_ _ _ _ _ st h=>by rcases n with rfl|rfl;exact wpAny_pyIter_striter_ascii st.2 h;exact wpAny_pyIter_striter_wide st.2 h
section
inductive kZ(R:It->Hp->Prop)(v:V)(H1:Hp):Prop|mk:∀x,v=.str x->R (qZ x) H1->kZ R v H1
def CL(B:TE):TI:=λσ H R=>B σ H λv H1=>kZ R v H1
theorem D1{l:Expr}{j:TE}(hl:PE X l j):PI X tg l (CL j):=by
 intro a s i H R I h;refine aF (hl a s i H _ I h) λv c ⟨x,r,g,n,p⟩=>?_;obtain⟨y,e,q⟩:=p;subst e;obtain⟨t,rfl⟩:=n;have k:∀d,(d="str_ascii_iterator"\/d="str_iterator")->qW X a i tg R (.ref c.heap.objs.size) {c with heap:=c.heap.push {cls:=.type d,data:=.fields #[.str y t,.int 0 0]}}:=λd f=>by
  refine⟨c.heap.objs.size,[c.heap.objs.size],_,_,r,J,g.kept λb o e=>au _ e,Hy _ y t f,⟨bj _,_,bq _ J,J,J⟩,λb u=>?_,q⟩;have e:b=c.heap.objs.size:=by simp_all
  subst e;exact g.fpOk (ag _) (g.hok.fresh (ag _))
 cases m:y.cps.all (· <128);exact wpAny_pyIter_wide m (k _ (.inr J));exact wpAny_pyIter_ascii m (k _ (.inl J))
end
section
variable{K:W.Frag}{k:Nat}{Q:VK}
theorem nL(Pv:Nat->O V->Hp->Prop)(h0:Pv 0 [] H)(hl:∀i ys H,i<=xs.length->Pv i ys H->aE K H a xs/\ys.length<=sizeLine)(t:∀i x ys H,xs[i]?=some x->Pv i ys H->g x (bS k cap σ) H λc H2=>tc c H2 λb h=>if b=true then te c h λy r=>Pv (i+1) (ys++[y]) r else Pv (i+1) ys h)
  (o:∀ys H,Pv xs.length ys H->∀p,H p=none->Q (.ref p) (upd H p (.lst ys))):bZ (nj K a) g tc te k cap σ H Q:=by
 refine⟨λi m ys H=>m=xs.length-i/\i<=xs.length/\Pv i ys H,⟨xs.length,by simp,bj _,h0⟩,?_⟩;rintro i m ys H ⟨rfl,n,p⟩;obtain⟨q,f⟩:=hl i ys H n p;by_cases d:i<xs.length;refine .inr ⟨⟨xs,xs[i],q,by simp⟩,f,Pv (i+1),λj s l=>⟨xs.length-(i+1),by omega,J,d,l⟩,λx s y=>?_⟩;obtain⟨e,y⟩:=y
 grind
 have e:i=xs.length:=by omega
 subst e;exact .inl ⟨⟨xs,q,ag _⟩,f,o ys H p⟩
theorem Zl(Pv:Nat->O V->Hp->Prop)(h0:Pv 0 [] H)(hl:∀i ys H,i<=xs.length->Pv i ys H->aI K H a xs/\ys.length<=sizeLine)(n:∀i x ys H,xs[i]?=some x->Pv i ys H->g x (bS k cap σ) H λc H2=>tc c H2 λb h=>if b=true then te c h λy s=>Pv (i+1) (ys++[y]) s else Pv (i+1) ys h)
  (r:∀ys H,Pv xs.length ys H->∀p,H p=none->Q (.ref p) (upd H p (.lst ys))):bZ (re K a) g tc te k cap σ H Q:=by
 refine⟨λi m ys H=>m=xs.length-i/\i<=xs.length/\Pv i ys H,⟨xs.length,by simp,bj _,h0⟩,?_⟩;rintro i m ys H ⟨rfl,o,p⟩;obtain⟨q,f⟩:=hl i ys H o p;by_cases d:i<xs.length;refine .inr ⟨⟨xs,xs[i],q,by simp[d]⟩,f,Pv (i+1),λj t l=>⟨xs.length-(i+1),by omega,J,d,l⟩,λx t y=>?_⟩;obtain⟨e,y⟩:=y;subst e;exact n i x ys _ (y xs q) p;have e:i=xs.length:=by omega
 subst e;exact .inl ⟨⟨xs,q,ag _⟩,f,r ys H p⟩
theorem j7{n:Nat}(Pv:Nat->O V->Hp->Prop)(h0:Pv 0 [] H)(hl:∀i ys H,i<=n->Pv i ys H->ys.length<=sizeLine)(s:∀i ys H,i<n->Pv i ys H->g (.int (lo+i)) (bS k cap σ) H λa H2=>tc a H2 λb f=>if b=true then te a f λy q=>Pv (i+1) (ys++[y]) q else Pv (i+1) ys f)
  (o:∀ys H,Pv n ys H->∀p,H p=none->Q (.ref p) (upd H p (.lst ys))):bZ (np lo n) g tc te k cap σ H Q:=by
 refine⟨λi m ys H=>m=n-i/\i<=n/\Pv i ys H,⟨n,by simp,bj _,h0⟩,?_⟩;rintro i m ys H ⟨rfl,l,p⟩;have d:=hl i ys H l p;by_cases c:i<n;refine .inr ⟨c,d,Pv (i+1),λh r j=>⟨n-(i+1),by omega,J,c,j⟩,λx r y=>?_⟩;obtain⟨e,y⟩:=y
 simp_all
 have e:i=n:=by omega
 subst e;exact .inl ⟨ag _,d,o ys H p⟩
theorem Eh(Pv:Nat->O V->Hp->Prop)(h0:Pv 0 [] H)(hl:∀i ys H,i<=x.cps.size->Pv i ys H->ys.length<=sizeLine)(s:∀i c ys H,x.cps[i]?=some c->Pv i ys H->g (.str ⟨#[c]⟩) (bS k cap σ) H λa H2=>tc a H2 λb h=>if b=true then te a h λy q=>Pv (i+1) (ys++[y]) q else Pv (i+1) ys h)
  (o:∀ys H,Pv x.cps.size ys H->∀p,H p=none->Q (.ref p) (upd H p (.lst ys))):bZ (qZ x) g tc te k cap σ H Q:=by
 refine⟨λi m ys H=>m=x.cps.size-i/\i<=x.cps.size/\Pv i ys H,⟨x.cps.size,by simp,bj _,h0⟩,?_⟩;rintro i m ys H ⟨rfl,n,p⟩;have f:=hl i ys H n p;by_cases d:i<x.cps.size;refine .inr ⟨d,f,Pv (i+1),λj r l=>⟨x.cps.size-(i+1),by omega,J,d,l⟩,λv r y=>?_⟩;obtain⟨e,c,t,rfl⟩:=y
 simp_all
 have e:i=x.cps.size:=by omega
 subst e;exact .inl ⟨ag _,f,o ys H p⟩
end
inductive T where|non|bl (b:Bool)|int (i:Int)|str (x:Str)|tup (ts:List T)|lst (ts:List T)|dct
inductive vB(H:Hp)(f:List V->HO)(L:List V->Prop)(v:V):Prop|mk:∀a xs,v=.ref a->H a=some (f xs)->L xs->vB H f L v
inductive Cf(A:V->Prop)(L:List V->Prop)(xs:List V):Prop|mk:∀v vs,xs=v::vs->A v->L vs->Cf A L xs
mutual
noncomputable def Is(H:Hp):T->V->Prop|.non,v=>v=.non|.bl b,v=>v=.bl b|.int i,v=>v=.int i|.str x,v=>v=.str x|.tup ts,v=>vB H .tup (λxs=>IsL H ts xs) v|.lst ts,v=>vB H .lst (λxs=>IsL H ts xs) v|.dct,v=>∃a,v=.ref a/\H a=some (.dK [])
noncomputable def IsL(H:Hp):List T->List V->Prop|[],xs=>xs=[]|t::ts,xs=>Cf (λv=>Is H t v) (λvs=>IsL H ts vs) xs
end
variable{p:Addr}{kvs:List (aM×V)}{ts:List T}{o:Obj}{v:V}
def yw(H B:Hp):Prop:=∀b xs,H b=some (.tup xs)->B b=some (.tup xs)
theorem zg.tups(s:zg H H'):yw H H':=λb a e=>s b _ e
theorem yw.refl(H:Hp):yw H H:=λ_ _ e=>e
theorem yw.trans{f:Hp}(a:yw H f)(b:yw f H2):yw H H2:=λc d e=>b c d (a c d e)
theorem zg.new(h:H p=none)(o:HO):zg H (upd H p o):=λb u q=>by rw[upd_ne (zm q h)];exact q
theorem yw.upd{H:Hp}{p:Y}{o a:HO}(h:H p=some o)(c:∀xs,o≠ .tup xs):yw H (upd H p a):=λb xs e=>by rw[upd_ne (Xj e h (λz=>c xs z.symm))];exact e
mutual
theorem Is.mono{H H':Hp}(s:zg H H'):∀{t:T}{v:V},Is H t v->Is H' t v|.non,v,h=>h|.bl b,v,h=>h|.int i,v,h=>h|.str x,v,h=>h| .tup ts,v,h=>by obtain⟨a,xs,e,ha,hl⟩:=h;exact⟨a,xs,e,s a _ ha,IsL.mono s hl⟩| .lst ts,v,h=>by obtain⟨a,xs,e,ha,hl⟩:=h;exact⟨a,xs,e,s a _ ha,IsL.mono s hl⟩| .dct,v,h=>by obtain⟨a,e,ha⟩:=h;exact⟨a,e,s a _ ha⟩
theorem IsL.mono{H H':Hp}(s:zg H H'):∀{ts:List T}{xs:List V},IsL H ts xs->IsL H' ts xs|[],xs,h=>h| t::ts,xs,h=>by obtain⟨v,vs,e,h1,h2⟩:=h;exact⟨v,vs,e,Is.mono s h1,IsL.mono s h2⟩
end
mutual
noncomputable def dM:T->Prop|.tup ts=>qt ts|.lst _=>False|.dct=>False|_=>True
noncomputable def qt:List T->Prop|[]=>True|t::ts=>dM t/\qt ts
end
mutual
theorem Is.tups{H H':Hp}(s:yw H H'):∀{t:T}{v:V},dM t->Is H t v->Is H' t v
 |.non,v,_,h=>h
 |.bl b,v,_,h=>h
 |.int i,v,_,h=>h
 |.str x,v,_,h=>h
 | .tup ts,v,f,h=>by
   obtain⟨a,xs,e,ha,hl⟩:=h;have f:qt ts:=by unfold dM at f;exact f
   exact⟨a,xs,e,s a _ ha,IsL.tups s f hl⟩
 |.lst ts,v,f,h=>by unfold dM at f;exact f.elim
 |.dct,v,f,h=>by unfold dM at f;exact f.elim
theorem IsL.tups{H H':Hp}(s:yw H H'):∀{ts:List T}{xs:List V},qt ts->IsL H ts xs->IsL H' ts xs
 |[],xs,_,h=>h
 | t::ts,xs,f,h=>by
   obtain⟨v,vs,e,h1,h2⟩:=h;have f:dM t/\qt ts:=by unfold qt at f;exact f
   exact⟨v,vs,e,Is.tups s f.1 h1,IsL.tups s f.2 h2⟩
end
theorem qt.all:qt ts↔∀t∈ts,dM t:=by induction ts with|nil=>simp[qt]|cons t ts a=>simp[qt,a]
theorem IsL.length{H:Hp}:∀{a:List T}{xs:List V},IsL H a xs->xs.length=a.length|[],xs,h=>by cases h;rfl| t::a,xs,h=>by obtain⟨v,c,rfl,_,b⟩:=h;simp[IsL.length b]
theorem IsL.get{H:Hp}:∀{a:List T}{xs:List V}{i:Nat}{t:T},IsL H a xs->a[i]?=some t->∃v,xs[i]?=some v/\Is H t v|[],_,_,_,_,e=>by simp at e| t ::a,xs,i,j,h,e=>by obtain⟨v,g,rfl,c,b⟩:=h;cases i with|zero=>simp at e;subst e;exact⟨v,J,c⟩| succ i=>obtain⟨w,f,d⟩:=IsL.get b (by simpa using e);exact⟨w,by simpa using f,d⟩
theorem IsL.get'(h:IsL H ts xs)(e:xs[i]?=some v):∃t,ts[i]?=some t/\Is H t v:=by
 have d:=h.length;have a:i<ts.length:=by have:=(cp.mp e).1;omega
 obtain⟨w,b,c⟩:=h.get (bo a);rw[e]at b;cases b;exact⟨_,bo a,c⟩
theorem IsL.append{H:Hp}:∀{c b:List T}{xs a:List V},IsL H c xs->IsL H b a->IsL H (c++b) (xs++a)|[],b,xs,a,h,k=>by cases h;exact k| t::c,b,xs,a,h,k=>by obtain⟨v,d,rfl,f,e⟩:=h;exact⟨v,d++a,J,f,IsL.append e k⟩
theorem IsL.drop{H:Hp}:∀{a:List T}{xs:List V}(n:Nat),IsL H a xs->IsL H (a.drop n) (xs.drop n)|a,xs,0,h=>h|[],xs,n+1,h=>by cases h;exact rfl| t::a,xs,n+1,h=>by obtain⟨v,c,rfl,d,b⟩:=h;exact IsL.drop n b
theorem IsL.take{H:Hp}:∀{a:List T}{xs:List V}(n:Nat),IsL H a xs->IsL H (a.take n) (xs.take n)|a,xs,0,h=>rfl|[],xs,n+1,h=>by cases h;exact rfl| t::a,xs,n+1,h=>by obtain⟨v,b,rfl,d,c⟩:=h;exact⟨v,b.take n,J,d,IsL.take n c⟩
theorem IsL.one{t:T}(h:Is H t v):IsL H [t] [v]:=⟨v,[],J,h,J⟩
theorem IsL.two{t u:T}{w:V}(h:Is H t v)(k:Is H u w):IsL H [t,u] [v,w]:=⟨v,[w],J,h,w,[],J,k,J⟩
noncomputable def nS:T->String|.non=>"NoneType"|.bl _=>"bool"|.int _=>"int"|.str _=>"str"|.tup _=>"tuple"|.lst _=>"list"|.dct=>"dict"
theorem Is.ty{K:W.Frag}{t:T}(h:Is H t v):cM K H v (.type (nS t)):=by cases t with|non=>cases(h);exact .non|bl b=>cases(h);exact .bl b|int i=>cases(h);exact .int i|str x=>cases(h);exact .str x|tup e=>obtain⟨a,d,rfl,c,_⟩:=h;exact .tup c|lst e=>obtain⟨a,d,rfl,c,_⟩:=h;exact .lst c|dct=>obtain⟨a,rfl,c⟩:=h;exact .dK c
noncomputable def vT:T->Bool|.int _=>true|.bl _=>true|_=>false
noncomputable def BW:T->Bool|.bl _=>true|_=>false
noncomputable def Dl:T->Bool|.tup _=>true|_=>false
noncomputable def Dk:T->Bool|.str _=>true|_=>false
theorem Fa(K:W.Frag)(t:T):W.kitOne K (.type (nS t)) (.type "int")=some (vT t):=by cases t<;>kernel_rfl
theorem FP(K:W.Frag)(t:T):W.kitOne K (.type (nS t)) (.type "bool")=some (BW t):=by cases t<;>kernel_rfl
theorem Bk(K:W.Frag)(t:T):W.kitOne K (.type (nS t)) (.type "tuple")=some (Dl t):=by cases t<;>kernel_rfl
theorem zZ(K:W.Frag)(t:T):W.kitOne K (.type (nS t)) (.type "str")=some (Dk t):=by cases t<;>kernel_rfl
def lu:HO->Prop|.dK _=>True|.dT _=>True|_=>False
section
variable{d:Addr}{u u':HO}
theorem Inv.retag(I:Inv X pins σ H s)(e:H d=some u)(h:∀xs,u≠ .tup xs)(l:∀x,u≠ .own x)(k:∀ps,u≠ .tbl ps)(B:∀o v,X.H₀ d≠some (.frz o v))(ok:qf X.prog X.w (upd H d u') s.heap d u'):Inv X pins σ (upd H d u') s:=by
 have a:∀{b},H b=none->b≠d:=λz q=>by simp_all
 refine⟨I.ok,I.os,I.bare,⟨I.base.keep,I.base.slot,λb f q n m=>?_,I.base.there,λb xs q=>?_,λb f v q=>?_,λb ps q=>?_⟩,I.loc,I.cell,?_,λx c q=>?_,λp r=>?_,λb f q=>?_,I.len⟩;have z:=I.base.free b f q n m;rw[upd_ne (a z)];exact z;have z:=I.base.tups b xs q;rw[upd_ne (Xj z e (λw=>h xs w.symm))];exact z;have z:=I.base.frzs b f v q;have j:b≠d:=λw=>by simp_all
 rw[upd_ne j];exact z;obtain⟨g,z⟩:=I.base.tbls b ps q;exact⟨g,by rw[upd_ne (Xj z e (λw=>k _ w.symm))];exact z⟩;rw[upd_ne (a I.free)];exact I.free;rw[upd_ne (a (I.freeC x c q))];exact I.freeC x c q;obtain⟨A,y,t⟩:=I.pin p r;exact⟨A,by rw[upd_ne (a y)];omega,t⟩;by_cases i:b=d;subst i;rw[zd]at q;simp_all;rw[upd_ne i]at q;exact(I.hok b f q).stay (λ_ _ _ z=>z) (λc z=>by rw[upd_ne (Xj z e (λw=>l _ w.symm))];exact z) λc xs z=>by rw[upd_ne (Xj z e (λw=>h _ w.symm))];exact z
theorem lu.no(h:lu u):(∀xs,u≠ .tup xs)/\(∀x,u≠ .own x)/\(∀ps,u≠ .tbl ps)/\∀o v,u≠ .frz o v:=by cases u<;>first|exact h.elim|exact⟨(λ_ z=>by cases z),(λ_ z=>by cases z),(λ_ z=>by cases z),λ_ _ z=>by cases z⟩
theorem Inv.nofrz(I:Inv X pins σ H s)(e:H d=some u)(h:lu u):∀o v,X.H₀ d≠some (.frz o v):=λo v q=>by have z:=I.base.frzs d o v q;rw[e]at z;cases z;exact h.no.2.2.2 _ _ J
theorem Inv.freeze(I:Inv X pins σ H s)(e:H d=some u)(h:lu u):∃o,Inv X pins σ (upd H d (.frz o u)) s:=by
 obtain⟨g,f,i,k⟩:=h.no;have ok:=I.hok d u e;have a:∃o,s.heap.get? d=some o:=by cases u<;>first|exact h.elim|(obtain⟨_,_,_,_,o,_,_,b,_⟩:=ok;exact⟨o,b⟩)
 obtain⟨o,b⟩:=a;refine⟨o,I.retag e g f i (I.nofrz e h) ⟨b,ok.stay (λ_ _ _ z=>z) (λc z=>?_) λc j z=>?_⟩⟩;rw[upd_ne (Xj z e (λw=>f _ w.symm))];exact z;rw[upd_ne (Xj z e (λw=>g _ w.symm))];exact z
theorem Inv.thaw(I:Inv X pins σ H s)(e:H d=some (.frz o u))(a:∀o v,X.H₀ d≠some (.frz o v)):Inv X pins σ (upd H d u) s:=by refine I.retag e (λ_ z=>by cases z) (λ_ z=>by cases z) (λ_ z=>by cases z) a ?_;obtain⟨_,ok⟩:=I.hok d _ e;refine ok.stay (λ_ _ _ z=>z) (λc z=>?_) λc b z=>?_;rw[upd_ne (Xj z e (λw=>by cases w))];exact z;rw[upd_ne (Xj z e (λw=>by cases w))];exact z
end
noncomputable def DO(d:Addr)(o:Obj)(u:HO)(D:Ends):Ends where
 nx:=λσ H=>H d=some (.frz o u)/\D.nx σ (upd H d u)
 rt:=λv H=>H d=some (.frz o u)/\D.rt v (upd H d u)
 bk:=λσ H=>H d=some (.frz o u)/\D.bk σ (upd H d u)
 ct:=λσ H=>H d=some (.frz o u)/\D.ct σ (upd H d u)
inductive nX(ts:TS)(D:Ends)(σ:St)(H:Hp):Prop|mk:∀d u,H d=some u->lu u->(∀o,ts (DO d o u D) σ (upd H d (.frz o u)))->nX ts D σ H
inductive nU(te:TE)(σ:St)(H:Hp)(Q:VK):Prop|mk:∀d u,H d=some u->lu u->(∀o,te σ (upd H d (.frz o u)) λv H'=>H' d=some (.frz o u)/\Q v (upd H' d u))->nU te σ H Q
section
theorem sQ{l:TS}(h:PS X st l):PS X st (nX l):=by intro c s n H D I p;obtain⟨d,u,e,m,q⟩:=p;obtain⟨o,t⟩:=I.freeze e m;have g:=I.nofrz e m;refine aF (h c s n _ _ t (q o)) λf w i=>?_;cases f with|next=>obtain⟨a,j,J,b,k⟩:=i;exact⟨a,_,J.thaw b g,k⟩|brk=>obtain⟨a,j,J,b,k⟩:=i;exact⟨a,_,J.thaw b g,k⟩|cont=>obtain⟨a,j,J,b,k⟩:=i;exact⟨a,_,J.thaw b g,k⟩|ret v=>obtain⟨x,a,j,J,r,b,k⟩:=i;exact⟨x,a,_,J.thaw b g,r,k⟩
theorem Q1{e:Expr}(h:PE X e te):PE X e (nU te):=by intro a s c H Q I g;obtain⟨d,u,e,b,q⟩:=g;obtain⟨o,j⟩:=I.freeze e b;have f:=I.nofrz e b;exact aF (h a s c _ _ j (q o)) λv l ⟨x,m,J,r,i,k⟩=>⟨x,_,J.thaw i f,r,k⟩
end
section
end
section
variable{d:Addr}{k:Nat}{Q:VK}
end
theorem Jy:∀{xs:List V}{a:List Value},xs.length=a.length->(∀(j:Nat) x u,xs[j]?=some x->a[j]?=some u->yq x u)->yu xs a|[],[],_,_=>.nil|x::xs,u::a,b,h=>.cons (h 0 x u J J) (Jy (by simp_all) λj y v d c=>h (j+1) y v (by simp_all) (by simp_all))|[],_::_,b,_=>by grind|_::_,[],b,_=>by grind
section
theorem HS:cE X (compareOp .IsNot) (λx y H Q=>∃a b,x=.bl a/\y=.bl b/\Q (.bl (a !=b)) H):=by intro c s f H x y v u Q I e d h;obtain⟨a,b,rfl,rfl,q⟩:=h;cases e;cases d;exact PyProof.Rows.isnot_bool ⟨.bl _,H,I,J,q⟩
end
noncomputable def off(S:Addr->Prop)(H:Hp):Hp:=λb=>@ite _ (S b) (Classical.propDecidable _) none (H b)
theorem X3{S:Y->Prop}{b:Y}{o:HO}:off S H b=some o↔¬S b/\H b=some o:=by unfold off;simp
theorem FX{S:Y->Prop}(s:zg H H'):zg (off S H) (off S H'):=λb o e=>by rw[X3]at e⊢;exact⟨e.1,s _ _ e.2⟩
theorem DQ{S:Y->Prop}:zg (off S H) H:=λb o e=>(X3.mp e).2
def Sd(S:Addr->Prop)(H:Hp):Prop:=∀b,S b->H b≠none
theorem EK{S:Y->Prop}{o:HO}(d:Sd S H)(h:H p=none):off S (upd H p o) p=some o:=X3.mpr ⟨λz=>d p z h,zd⟩
theorem Gq(H:Hp):off (λ_=>False) H=H:=by funext b;unfold off;simp
theorem Is.off{S:Y->Prop}{H:Hp}{t:T}{v:V}(h:Is (off S H) t v):Is H t v:=h.mono DQ
theorem Is.off0{t:T}(h:Is H t v):Is (L2.off (λ_=>False) H) t v:=by rw[Gq];exact h
theorem Is.nt{S:Y->Prop}(d:Sd S H)(hp:H p=none)(h:IsL (L2.off S H) ts xs):Is (L2.off S (upd H p (.tup xs))) (.tup ts) (.ref p):=⟨p,xs,J,EK d hp,IsL.mono (FX (zg.new hp _)) h⟩
end L2
namespace HT
open PySem PyProof.Rows
open PySem.SeqAt
open PySem.AutoSeq1 (wpAny_loadPart')
open PySem.MeetsSeq PySem.MeetsSeq2 PySem.MeetsSeq3
variable{A:Around}{aC:Array Value}{ws:List Value}{s:Shared}{E Q:Value->Shared->Prop}
section
variable{prog:Program}{w:World}
theorem oZ{t b:Y}(p:IsTup s.heap t ([]:O I).toArray)(q:IsTup s.heap b ws.toArray)(h:Q (.ref b) s):wpAny (model prog w) A (binaryOp .Add (.ref t) (.ref b)) Q E s:=by
 obtain⟨⟨u,r,k,m⟩,g,j,n,i⟩:=id p;obtain⟨⟨l,f,data2,e⟩,a,d,o,c⟩:=id q;simp only at j i d c;subst j i d c;exact concat_meets ⟨_,g,J⟩ ⟨_,a,J⟩ noFill_tuple_add seq_tuple_add PySem.F.slot_tuple_add PySem.F.entry_tuple_add (PySem.F.args_tuple_add_2 _ _)
  (tuple_addW0 t b [].toArray ws.toArray n o r f m e J) ⟨g,a,h⟩
theorem fH{t d:Y}{j i:I}{lo c:Option Int}(b:IsTup s.heap t aC)(k:s.heap.IsSliceOf d j i .none)(m:IsPart j lo)(l:IsPart i c)(o:bU aC.size 0 lo=0/\bU aC.size aC.size c=aC.size) (h:Q (.ref t) s):wpAny (model prog w) A (getItem (.ref t) (.ref d)) Q E s:=by
 obtain⟨os,e,f,n⟩:=id k;have g:s.TypeIs (.ref d) "slice":=⟨os,e,f⟩
 unfold getItem
 try with_reducible refine wpAny_holding ?_
 first|refine a4 (a9 ?_)|skip
 refine a4 (wpAny_sequenceKey b.typeIs (by rfl) ?_);refine a4 (wpAny_callSpecial?_slot b.typeIs PyProof.Rows.slot_tuple_getitem (cr PyProof.Rows.slot_tuple_getitem b.typeIs entry_tuple_getitem ?_ (args_tuple_getitem _ _)))
 show wpAny _ _ (Builtin.Tuple.tupleItemsOf (.ref t)>>=_) _ _ s;refine a4 (tupleItemsOf_ b ?_);refine a4 (wpAny_typeOf g ?_);rw[if_pos (by rfl)];refine a4 (Yf k m l ?_);have a:(((bU aC.size 0 lo):Int)==0 && (1:Int)==1 && (bU aC.size aC.size c-bU aC.size 0 lo)==aC.size)=true:=by simp_all
 show wpAny _ _ (if(((bU aC.size 0 lo):Int)==0 && (1)==1 && (bU aC.size aC.size c-bU aC.size 0 lo)==aC.size)=true then _ else _) _ _ s;rw[if_pos a];refine a4 ?_;unfold Builtin.Tuple.tupleIsExact;refine a4 (wpAny_typeOf b.typeIs (a9 ?_));rw[if_pos (by rfl)];exact a4 (wpAny_rule (a9 ⟨_,J,a9 h⟩))
end
end HT
namespace L2
open PySem PySem.Spec PyProof.Rows
variable{L e f:Addr}{A:Around}{vs:Array Value}{X:Cx}{env:Env}{base:Heap}{H H₀:Hp}{pins:List (Addr×Obj)}{outer:List Env}{N:List Str}{oe:Obj}{P:Program}{scope:Scope}{s s₀:Shared}{σ:St}{qual:Str}{mg:Str->Option Value}{Q:Unit->Shared->Prop}{cd:Value}{E Ex:Value->Shared->Prop}{w:World}
section
variable{S:Addr->Prop}
inductive ii(S:Addr->Prop)(x y:V)(H:Hp)(Q:VK):Prop|mk:∀ts us,Is (off S H) (.tup ts) x->Is (off S H) (.tup us) y->Sd S H->ts.length+us.length<=sizeLine->(∀v H',zg H H'->Is (off S H') (.tup (ts++us)) v->Q v H')->ii S x y H Q
theorem Gc:cE X (binaryOp .Add) (ii S):=by intro c s A H x y v u Q I m l h;obtain⟨N,M,⟨a,g,rfl,z,j⟩,⟨b,k,rfl,w,i⟩,d,R,q⟩:=h;have f:=(X3.mp z).2;have e:=(X3.mp w).2;have L:=j.length;have K:=i.length;by_cases r:g=[];subst r;have G:=List.length_eq_zero_iff.mp (by simpa using L.symm);subst G;cases m;cases l;obtain⟨E,B,D,_⟩:=I.tuple (aE.of f);obtain⟨n,P,C,_⟩:=I.tuple (aE.of e);cases B;exact HT.oZ D C ⟨.ref b,H,I,J,q _ H (zg.refl H) ⟨b,k,J,w,i⟩⟩;refine Ae c s A H (.ref a) (.ref b) v u Q I m l ⟨a,b,g,k,J,J,aE.of f,aE.of e,r,by omega,λo=>?_,λo p t=>q _ _ (zg.new t _) (Is.nt d t (IsL.append j i))⟩;have F:=List.length_eq_zero_iff.mp (by rw[<-K,o];rfl);subst F;refine q _ H (zg.refl H) ?_;rw[cq];exact⟨a,g,J,z,j⟩
noncomputable def Xs{B:Type}(xs:List B)(lo U:Option Int):List B:=(xs.drop (HT.bU xs.length 0 lo)).take (HT.bU xs.length xs.length U-HT.bU xs.length 0 lo)
theorem xF{a:O T}{xs:O V}(h:IsL H a xs)(lo b:Option Int):IsL H (Xs a lo b) (mH xs lo b):=by unfold Xs mH;rw[h.length];exact IsL.take _ (IsL.drop _ h)
inductive kG(S:Addr->Prop)(x:V)(lo hi:Option Int)(H:Hp)(Q:VK):Prop|mk:∀ts,Is (off S H) (.tup ts) x->Sd S H->(∀v H',zg H H'->Is (off S H') (.tup (Xs ts lo hi)) v->Q v H')->kG S x lo hi H Q
theorem C4:ni X (kG S):=by
 intro c s B H x v D C lo g E Q I m u o n h;obtain⟨l,⟨a,b,rfl,z,k⟩,d,q⟩:=h;have f:=(X3.mp z).2;have A:=k.length;by_cases j:HT.bU b.length 0 lo=0/\HT.bU b.length b.length g=b.length;cases m;obtain⟨i,r,t,F⟩:=I.tuple (aE.of f);have y:i.toArray.size=b.length:=by rw[d5];exact r.length.symm
 refine⟨"tuple",_,PyProof.Rows.slot_tuple_getitem.lookup,t.typeIs,?_⟩;refine HT.fH t u o n (by simp_all) ⟨.ref a,H,I,J,q _ H (zg.refl H) ?_⟩;have e:Xs l lo g=l:=by unfold Xs;rw[<-A,j.1,j.2,A,List.drop_zero,Nat.sub_zero,cw]
 rw[e];exact⟨a,b,J,z,k⟩;exact D4 c s B H (.ref a) v D C lo g E Q I m u o n ⟨a,b,J,aE.of f,j,λp w=>q _ _ (zg.new w _) (Is.nt d w (xF k lo g))⟩
end
section
variable{S:Addr->Prop}{aL:Str->Bool}
theorem xj{n:Nat}(h:n<=1000):n<=sizeLine:=cj h (by decide)
end
section
variable{M:Model}{T0:Addr}{cls a0:Value}
end
section
variable{K:W.Frag}{E:XK}
end
section
variable{K:W.Frag}{E:XK}
end
structure uV(K:W.Frag)(mg:Str->Option Value)(base:Heap)(x:Str)(C:Addr):Prop where
 cls:OwnCls x C [.type "ValueError",.type "Exception",.type "BaseException",.type "object"] "ValueError.__new__" mg base
 keep:W.keepIn K (.ref C)=true
section
variable{M:Model}{h:Heap}{g:Array GenState}{d:Drawn}{t:Nat}{os:OsState}{Q:Bool->Shared->Prop}
end
section
variable{E:XK}{s':Shared}{e:Value}{R:Shared->Prop}
end
section
end
section
variable{a C:Addr}
end
section
variable{K:W.Frag}
end
end L2
namespace PySem
open Sem (wp)
noncomputable def qn:List Str:=["__class__","__getattribute__","__getattr__","__init__"]
abbrev vE:List Value:=[.type "ValueError",.type "Exception",.type "BaseException",.type "object"]
section
variable{M:Model}{prog:Program}{w:World}{A:Around}{E:Value->Shared->Prop}{h:Heap}{g:Array GenState}{d:Drawn}{t:Nat}{os:OsState}{a:Addr}{o:Obj}{nm q:Str} {C N:Addr} {bs bm:List Value} {hdct:Bool} {sn:List Str} {sub:List Value} {ab:Bool} {col:Option Bool} {dd:Option Addr} {k0 k1 k2 k3 k5:Option Value} {ou:String} {mN:Str->Option Value}
end
section
variable{M:Model}{prog:Program}{w:World}{A:Around}{E:Value->Shared->Prop}{h:Heap}{g:Array GenState}{d:Drawn}{t:Nat}{os:OsState}{a:Addr}{o:Obj}{nm q:Str} {C N:Addr} {bs bm:List Value} {hdct:Bool} {sn:List Str} {sub:List Value} {ab:Bool} {col:Option Bool} {dd:Option Addr} {k0 k1 k2 k3 k5:Option Value} {ou:String} {mN:Str->Option Value}
end
end PySem
namespace L2
open PySem PySem.Spec PyProof.Rows
variable{A:Around}{X:Cx}{H:Hp}{pins:List (Addr×Obj)}{es fQ:List Expr}{cap:List Nat}{own:List Str}{prog:Program}{s:Shared}{σ:St}{mg:Str->Option Value}{E:Value->Shared->Prop}{w:World}
structure uQ(K:W.Frag)(C D:Addr):Prop where
 c:∃nm q N bs hdct sn sub ab col dd k0 k1 k2 k3 k5,K.lookup C=some (excClassObj nm q C N bs (.ref D::vE) hdct sn sub ab col dd k0 k1 k2 k3 k5 "ValueError.__new__")/\W.nsOkIn K N=true/\∀n∈qn,W.nsIn K N n=some none
 d:∃nm q N bs hdct sn sub ab col dd k0 k1 k2 k3 k5,K.lookup D=some (excClassObj nm q D N bs vE hdct sn sub ab col dd k0 k1 k2 k3 k5 "ValueError.__new__")/\W.nsOkIn K N=true/\∀n∈qn,W.nsIn K N n=some none
section
variable{K:W.Frag}{C D:Addr}{base:Heap}{x:Str}
end
section
variable{e cA fX tg:Expr}{t:TE}{scope:Scope}{aD:Pos}
end
mutual
noncomputable def aO:T->PyData|.non=>.none|.bl b=>.bool b|.int i=>.int i|.str x=>.str x|.tup ts=>.tuple (qh ts)|.lst ts=>.list (qh ts)|.dct=>.dict []
noncomputable def qh:List T->List PyData|[]=>[]|t::r=>aO t::qh r
end
section
mutual
theorem Zs(I:Inv X pins σ H s):∀{t:T}{v:V}{u:Value},(aO t).canLay0=true->Is H t v->yq v u->∃as,Reads s.heap u (aO t) as
 | .non,v,u,_,h,r=>by cases(show v=.non from h);cases(show u=Value.none from r);exact⟨_,by unfold aO;exact .none⟩
 | .bl b,v,u,_,h,r=>by cases(show v=.bl b from h);cases(show u=Value.bool b from r);exact⟨_,by unfold aO;exact .bool b⟩
 | .int i,v,u,_,h,r=>by
   cases(show v=.int i from h);obtain⟨t,rfl⟩:=(show∃t,u=Value.int i t from r)
   exact⟨_,by unfold aO;exact .int i t⟩
 | .str x,v,u,_,h,r=>by
   cases(show v=.str x from h);obtain⟨t,rfl⟩:=(show∃t,u=Value.str x t from r)
   exact⟨_,by unfold aO;exact .str x t⟩
 | .tup ts,v,u,l,h,r=>by obtain⟨a,xs,rfl,ha,hl⟩:=h;cases(show u=Value.ref a from r);obtain⟨its,rv,⟨o,e,c,n,d⟩,_⟩:=I.tuple (aE.of ha);obtain⟨as,ra⟩:=Xd I (by unfold aO PyData.canLay0 at l;exact l) hl rv;exact⟨_,by unfold aO;exact .tuple e c d (by simpa using ra)⟩
 | .lst ts,v,u,l,h,r=>by obtain⟨a,xs,rfl,ha,hl⟩:=h;cases(show u=Value.ref a from r);obtain⟨its,rv,⟨o,n,e,c,_,d⟩,_⟩:=I.list (aI.of ha);obtain⟨as,ra⟩:=Xd I (by unfold aO PyData.canLay0 at l;exact l) hl rv;exact⟨_,by unfold aO;exact .list e c d (by simpa using ra)⟩
 |.dct,v,u,l,h,r=>by unfold aO PyData.canLay0 at l;cases l
theorem Xd(I:Inv X pins σ H s):∀{ts:List T}{xs:List V}{us:List Value},PyData.canLayAll0 (qh ts)=true->IsL H ts xs->yu xs us->∃as,ReadsAll s.heap us (qh ts) as| [],xs,us,_,h,r=>by cases(show xs=[]from h);cases r;exact⟨_,by unfold qh;exact .nil⟩| t ::ts,xs,us,l,h,r=>by obtain⟨v,vs,rfl,h1,h2⟩:=h;cases r with| cons r1 r2=>unfold qh PyData.canLayAll0 at l;rw[cg]at l;obtain⟨as,ra⟩:=Zs I l.1 h1 r1;obtain⟨bs,rb⟩:=Xd I l.2 h2 r2;exact⟨_,by unfold qh;exact .cons ra rb⟩
end
end
inductive uG(f:Bool->Bool)(x y:V)(H:Hp)(Q:VK):Prop|mk:∀t u,Is H t x->Is H u y->(aO t).canLay0=true->(aO u).canLay0=true->(aO t).depth<=20->Q (.bl (f (PyData.eqv (aO t) (aO u)))) H->uG f x y H Q
section
theorem tK(n:X.A.units+64<cLine):cE X (compareOp .NotEq) (uG (!·)):=by intro a s l H x y v u Q I f e h;obtain⟨t,m,k,j,c,b,d,q⟩:=h;obtain⟨as,i⟩:=Zs I c k f;obtain⟨o,g⟩:=Zs I b j e;exact SeqAt.compareNe_reads i g c b (by omega) ⟨.bl _,H,I,J,q⟩
theorem V2(n:X.A.units+64<cLine):cE X (compareOp .Eq) (uG id):=by intro a s l H x y v u Q I f e h;obtain⟨t,m,k,j,c,b,d,q⟩:=h;obtain⟨as,i⟩:=Zs I c k f;obtain⟨o,g⟩:=Zs I b j e;exact SeqAt.rcAt_reads i g c b (by omega) X.prog X.w _ _ ⟨.bl _,H,I,J,q⟩
end
noncomputable def iT(ns:List Int):List T:=ns.map T.int
theorem Qm:∀ns:List Int,qh (iT ns)=ns.map PyData.int|[]=>by rfl| n::r=>by show qh (T.int n::iT r)=_;unfold qh;rw[Qm r];rfl
theorem AE:∀ns:List Int,PyData.canLayAll0 (qh (iT ns))=true|[]=>rfl| n::r=>by show PyData.canLayAll0 (qh (T.int n::iT r))=true;unfold qh aO PyData.canLayAll0;rw[AE r];rfl
theorem Zz:∀ns:List Int,PyData.depthAll (qh (iT ns))=0|[]=>rfl| n::r=>by show PyData.depthAll (qh (T.int n::iT r))=0;unfold qh aO PyData.depthAll;rw[Zz r];rfl
theorem FC:∀ns c:List Int,PyData.eqvAll (qh (iT ns)) (qh (iT c))=decide (ns=c):=λns c=>by
 rw[Qm,Qm];induction ns generalizing c with|nil=>cases c<;>rfl| cons a r d=>
   cases c with|nil=>rfl| cons b q=>
     simp only[cb,PyData.eqvAll,PyData.eqv,d q]
     grind
theorem IsL.ints{H:Hp}:∀{ns:List Int}{xs:List V},IsL H (iT ns) xs↔xs=ns.map V.int|[],xs=>Iff.rfl| n::r,xs=>by constructor;rintro⟨v,c,rfl,b,a⟩;rw[IsL.ints.mp a,(b)];rfl;rintro rfl;exact⟨_,_,J,J,IsL.ints.mpr J⟩
theorem Fc(ns:O Int):(aO (.tup (iT ns))).canLay0=true:=by unfold aO PyData.canLay0;exact AE ns
noncomputable def tt(B ns:List Int):T:=.tup [.tup (iT B),.tup (iT ns)]
section
end
section
inductive kN(K:W.Frag)(o i:V)(H:Hp)(Q:VK):Prop|mk:∀p xs k v,o=.ref p->i=.int k->0<=k->aI K H p xs->xs[k.toNat]?=some v->Q v H->kN K o i H Q
theorem FL:vD X (kN X.K):=by intro b s n H o i x y Q I d e h;obtain⟨p,u,k,v,rfl,rfl,m,j,l,q⟩:=h;cases(d);obtain⟨t,rfl⟩:=e;obtain⟨g,r,f,z⟩:=I.list j;obtain⟨w,c,a⟩:=r.get l;have B:=r.length;have A:=Q4;have hk:=(cp.mp c).1;exact wpAny_getItem_list f.isList m (by omega) (by simpa using c) ⟨v,H,I,a,q⟩
end
section
end
section
end
section
end
section
variable{a b:Addr}{xs zs:List V}{g:TG}{tc:TT}{te:TE}{k:Nat}{Q:VK}
end
section
open Classical in
end
section
variable{o e:Expr}{to:TE}{t:TA}{name:Str}{apos cpos:Pos}{id:String}{r:V->List V->Hp->VK->Prop}
end
inductive nY(f:Bool->Bool)(x y:V)(H:Hp)(Q:VK):Prop|mk:∀t u,Is H t x->Is H u y->(aO t).canLay0=true->(aO u).canLay0=true->(aO u).depth<=20->Q (.bl (f (PyData.eqv (aO t) (aO u)))) H->nY f x y H Q
section
theorem Ge(n:X.A.units+64<cLine):cE X (compareOp .Eq) (nY id):=by intro a s l H x y v u Q I f e h;obtain⟨t,m,k,j,c,b,d,q⟩:=h;obtain⟨as,i⟩:=Zs I c k f;obtain⟨o,g⟩:=Zs I b j e;exact SeqAt.rcAt_reads i g c b (by omega) X.prog X.w _ _ ⟨.bl _,H,I,J,q⟩
end
end L2
namespace L2
open PySem PySem.Spec PyProof.Rows PySem.W
variable{A:Around}{p:Array Nat}{h:Heap}{gs:List (List Int)}{g:List Int}{vs:List Value}{prog:Program}{s:Shared}{E Q:Value->Shared->Prop}{w:World}
noncomputable def yh(lt:Nat->Nat->Bool){B:Type}:KasT B->B|.ret a=>a|.ask i j k=>yh lt (k (lt i j))
def ka(n:Nat)(lt:Nat->Nat->Bool){B:Type}:KasT B->Prop|.ret _=>True|.ask i j k=>i<n/\j<n/\ka n lt (k (lt i j))
section
variable{n:Nat}{lt:Nat->Nat->Bool}
theorem jy{a b:Type}{f:a->KasT b}:∀t:KasT a,yh lt (t.bind f)=yh lt (f (yh lt t))|.ret _=>rfl|.ask i j k=>jy (k (lt i j))
theorem kz{a b:Type}{f:a->KasT b}:∀{t:KasT a},ka n lt t->ka n lt (f (yh lt t))->ka n lt (t.bind f)|.ret _,_,h=>h|.ask i j k,h,g=>⟨h.1,h.2.1,kz h.2.2 g⟩
theorem AB{b:Type}{a:Nat->Nat->(Bool->Shared->Prop)->Shared->Prop}{Q:b->Shared->Prop}{s:Shared}(c:∀i j,i<n->j<n->∀C:Bool->Shared->Prop,C (lt i j) s->a i j C s):∀{t:KasT b},ka n lt t->Q (yh lt t) s->t.kasWp a Q s|.ret _,_,q=>q|.ask i j k,h,q=>c i j h.1 h.2.1 _ (AB c h.2.2 q)
def qe(n:Nat)(p:Array Nat):Prop:=p.toList.Perm (List.range n)
theorem qe.bd(h:qe n p)(h0:0<n)(k:Nat):p.getD k 0<n:=by
 by_cases hk:k<p.size;have e:p.getD k 0=p[k]:=by simp[Array.getD,hk]
 rw[e];have a:p[k]∈p.toList:=by simp
 exact da.mp (h.mem_iff.mp a);have e:p.getD k 0=0:=by simp[Array.getD,hk]
 rw[e];exact h0
theorem qe.rev(h:qe n p)(i j:Nat):qe n (kas_rev p i j):=(mirror_perm p i j _).toList.trans h
theorem qe.bub(h:qe n p)(i j:Nat):qe n (bubble p i j):=(bubble_perm p i j).toList.trans h
theorem sC(h0:0<n){p:Array Nat}(h:qe n p):∀f m,ka n lt (kas_asc p f m)|0,_=>trivial| f+1,m=>by refine⟨h.bd h0 _,h.bd h0 _,?_⟩;dsimp only;split;trivial;exact sC h0 h f (m+1)
theorem Kc(h0:0<n):∀f {p:Array Nat} m q,qe n p->ka n lt (kas_desc f p m q)/\qe n (yh lt (kas_desc f p m q)).1|0,_,_,_,h=>⟨trivial,h⟩| f+1,p,m,q,h=>by unfold kas_desc;show(_/\_/\ka n lt (ite _ _ _))/\qe n (yh lt (ite _ _ _:KasT (Array Nat×Nat×Nat))).1;split;split;obtain⟨a,b⟩:=Kc h0 f (m+1) 0 (h.rev (m-(q+1)) m);exact⟨⟨h.bd h0 _,h.bd h0 _,a⟩,b⟩;obtain⟨a,b⟩:=Kc h0 f (m+1) 0 h;exact⟨⟨h.bd h0 _,h.bd h0 _,a⟩,b⟩;show(_/\_/\(_/\_/\ka n lt (ite _ _ _)))/\qe n (yh lt (ite _ _ _:KasT (Array Nat×Nat×Nat))).1;split;exact⟨⟨h.bd h0 _,h.bd h0 _,h.bd h0 _,h.bd h0 _,trivial⟩,h⟩;obtain⟨a,b⟩:=Kc h0 f (m+1) (q+1) h;exact⟨⟨h.bd h0 _,h.bd h0 _,h.bd h0 _,h.bd h0 _,a⟩,b⟩
theorem AL(h0:0<n)(h:qe n p)(m r:Nat):ka n lt (kas_tail3 m r p)/\qe n (yh lt (kas_tail3 m r p)).2:=by unfold kas_tail3;refine⟨kz (sC h0 (h.rev 0 m) _ _) trivial,?_⟩;rw[jy];exact h.rev 0 m
theorem Jn(h0:0<n)(h:qe n p)(m r:Nat):ka n lt (kas_descPart m r p)/\qe n (yh lt (kas_descPart m r p)).2:=by
 unfold kas_descPart;obtain⟨a,b⟩:=Kc h0 (r-(m+1)) (m+1) 0 h;generalize kas_desc (r-(m+1)) p (m+1) 0=t at a b;have c:ka n lt (if(yh lt t).2.2>0 then kas_tail3 (yh lt t).2.1 r (kas_rev (yh lt t).1 ((yh lt t).2.1-((yh lt t).2.2+1)) (yh lt t).2.1)else kas_tail3 (yh lt t).2.1 r (yh lt t).1)/\
   qe n (yh lt (if(yh lt t).2.2>0 then kas_tail3 (yh lt t).2.1 r (kas_rev (yh lt t).1 ((yh lt t).2.1-((yh lt t).2.2+1)) (yh lt t).2.1)else kas_tail3 (yh lt t).2.1 r (yh lt t).1)).2:=by split;exact AL h0 (b.rev _ _) _ _;exact AL h0 b _ _
 refine⟨kz a c.1,?_⟩;rw[jy];exact c.2
theorem FT(h0:0<n)(h:qe n p)(r:Nat):ka n lt (kas_count r p)/\qe n (yh lt (kas_count r p)).2:=by
 unfold kas_count;have a:=sC (lt:=lt) h0 h (r-1) 1;generalize kas_asc p (r-1) 1=t at a;generalize d:yh lt t=m;have b:ka n lt (if(m==r)=true then KasT.ret (m,p)else if m>1 then KasT.ask (p.getD 0 0) (p.getD (m-1) 0) λc=>if c=true then KasT.ret (m,p)else kas_descPart m r (kas_rev p 0 m)else kas_descPart m r p)/\
   qe n (yh lt (if(m==r)=true then KasT.ret (m,p)else if m>1 then KasT.ask (p.getD 0 0) (p.getD (m-1) 0) λc=>if c=true then KasT.ret (m,p)else kas_descPart m r (kas_rev p 0 m)else kas_descPart m r p)).2:=by split;exact⟨trivial,h⟩;split;show(_/\_/\ka n lt (ite _ _ _))/\qe n (yh lt (ite _ _ _:KasT (Nat×Array Nat))).2;split;exact⟨⟨h.bd h0 _,h.bd h0 _,trivial⟩,h⟩;obtain⟨x,y⟩:=Jn h0 (h.rev 0 m) m r;exact⟨⟨h.bd h0 _,h.bd h0 _,x⟩,y⟩;exact Jn h0 h m r
 subst d;refine⟨kz a b.1,?_⟩;rw[jy];exact b.2
theorem uy(h0:0<n){p:Array Nat}(h:qe n p)(k:Nat):∀f l r,ka n lt (kas_place p k f l r)|0,_,_=>trivial| f+1,l,r=>by unfold kas_place;split;trivial;refine⟨h.bd h0 _,h.bd h0 _,?_⟩;dsimp only;split;exact uy h0 h k f _ _;exact uy h0 h k f _ _
theorem wO(h0:0<n):∀f {p:Array Nat} k,qe n p->ka n lt (kas_bin f p k)/\qe n (yh lt (kas_bin f p k))|0,_,_,h=>⟨trivial,h⟩| f+1,p,k,h=>by unfold kas_bin;obtain⟨a,b⟩:=wO h0 f (k+1) (h.bub k (k-yh lt (kas_place p k k 0 k)));refine⟨kz (uy h0 h k k 0 k) a,?_⟩;rw[jy];exact b
theorem ug(h0:0<n):ka n lt (kas_sort n)/\qe n (yh lt (kas_sort n)):=by
 unfold kas_sort;have d:qe n (List.toArray (List.range n)):=List.Perm.refl _;obtain⟨a,b⟩:=FT h0 d n;generalize kas_count n (List.toArray (List.range n))=t at a b;have c:ka n lt (if(yh lt t).1<n then kas_bin (n-max (yh lt t).1 1) (yh lt t).2 (max (yh lt t).1 1)else KasT.ret (yh lt t).2)/\
   qe n (yh lt (if(yh lt t).1<n then kas_bin (n-max (yh lt t).1 1) (yh lt t).2 (max (yh lt t).1 1)else KasT.ret (yh lt t).2)):=by split;exact wO h0 _ _ b;exact⟨trivial,b⟩
 refine⟨kz a c.1,?_⟩;rw[jy];exact c.2
end
structure mD(R:Around->Prop)(P:Program)(w:World)(h:Heap)(vs:List Value)(κ:SortKind)(lt:Nat->Nat->Bool):Prop where
 kind:∀(A:Around),R A->∀(s:Shared)(E:Value->Shared->Prop)(Q:SortKind->Shared->Prop),(∀b o,h.get? b=some o->s.heap.get? b=some o)->Q κ s->wpAny (model P w) A (keyKind' vs.toArray) Q E s
 ask:∀i j,i<vs.length->j<vs.length->∀(A:Around),R A->∀(s:Shared)(E:Value->Shared->Prop)(Q:Bool->Shared->Prop),(∀b o,h.get? b=some o->s.heap.get? b=some o)->Q (lt i j) s->wpAny (model P w) A (keyLt' κ (vs.getD i Value.none) (vs.getD j Value.none)) Q E s
theorem Zx{a:Type}(vs:O a)(d:a):(List.range vs.length).map (λi=>vs.getD i d)=vs:=by refine List.ext_getElem (by simp) λi c b=>?_;have e:=bo b;simp[e]
section
variable{h0:Heap}{κ:SortKind}{lt:Nat->Nat->Bool}
noncomputable def jr(lt:Nat->Nat->Bool)(vs:List Value):List Value:=if vs.length<2 then vs else(yh lt (kas_sort vs.length)).toList.map λi=>vs.getD i Value.none
theorem Lv:(jr lt vs).Perm vs:=by
 unfold jr;split
 . exact List.Perm.refl _
 . rename_i h
   have p:=(ug (n:=vs.length) (lt:=lt) (by omega)).2;exact(List.Perm.map (λi=>vs.getD i Value.none) p).trans (List.Perm.of_eq (Zx vs Value.none))
theorem V5{R:Around->Prop}(F:R A){a:Y}{n:Nat}{P:PySem.Fin->Shared->Prop}(t:s.heap.get? a=some (seqObj "list" vs.toArray n))(v:vs.length<64)(O:2<=vs.length->mD R prog w h0 vs κ lt)(hk:∀b o,h0.get? b=some o->b≠a/\s.heap.get? b=some o) (h:P (.done (.ret .none)) {s with heap:=sortedHeap s.heap a vs (jr lt vs).toArray}):
  wpAny (model prog w) A (Builtin.«list.sort» ⟨[.ref a],[]⟩) P E s:=by
 rw[list_sort_plain];refine a4 (listItems_at t J (a4 (listUpdate_at t J ?_ (by rw[d5,sizeLine_eq];omega) (bj _))));have r:=get?_update_seq t (λ_=>(#[]));generalize (if(#[]).size==vs.toArray.size then n else n+1)=z at r;refine a4 (seqEpoch_at r J (a4 (wpAny_newTuple (a4 (wpAny_newList (wpAny_holding ?_) (bj _))) (by show vs.length<=_;rw[sizeLine_eq];omega))));have m:(((s.heap.update a (Obj.mapSeq λ_=>(#[]))).push (seqObj "tuple" vs.toArray 0)).push (seqObj "list" #[] 0)).get? a=some (seqObj "list" #[] z):=au _ (au _ r);have B:∀b o,h0.get? b=some o->(((s.heap.update a (Obj.mapSeq λ_=>(#[]))).push (seqObj "tuple" vs.toArray 0)).push (seqObj "list" #[] 0)).get? b=some o:=λb o e=>by obtain⟨L,z⟩:=hk b o e;exact au _ (au _ (by rw[Heap.get?_update_ne _ _ _ _ L];exact z))
 dsimp only;by_cases q:vs.length<2
 . have d:vs.toArray.size<2:=by rw[d5];exact q
   have y:jr lt vs=vs:=by unfold jr;rw[if_pos q]
   rw[if_pos d,if_pos d];refine a4 (a9 ?_);rw[StateT.run_pure];refine a4 (a9 ?_);have f:(arrOf (SortSt.mk' general' (vs.toArray.zip vs.toArray) #[] 7 none)).map (·.2)=vs.toArray:=by show(vs.toArray.zip vs.toArray).map (·.2)=vs.toArray;refine Array.ext (by simp) λi Z H=>by simp
   rw[f];refine a4 (seqEpoch_at m J (a4 (listUpdate_at m J ?_ (bj _) (by rw[d5,sizeLine_eq];omega))));simp only[bne_self_eq_false,Bool.false_eq_true,if_false];rw[y]at h;exact a9 h
 . have d:¬vs.toArray.size<2:=by rw[d5];exact q
   have O:=O (by omega);have y:jr lt vs=(yh lt (kas_sort vs.length)).toList.map λi=>vs.getD i Value.none:=by unfold jr;rw[if_neg q]
   obtain⟨K,X⟩:=ug (n:=vs.length) (by omega);rw[if_neg d,if_neg d];refine a4 (O.kind _ F _ _ _ B ?_);generalize D:({s with heap:=(((s.heap.update a (Obj.mapSeq λ_=>(#[]))).push (seqObj "tuple" vs.toArray 0)).push (seqObj "list" #[] 0))}:Shared)=S at *;have l:S.heap=(((s.heap.update a (Obj.mapSeq λ_=>(#[]))).push (seqObj "tuple" vs.toArray 0)).push (seqObj "list" #[] 0)):=by rw[<-D]
   have run:=kat_run (A:=A) (E:=E) (G:=λp g=>g=S/\p=yh lt (kas_sort vs.length))
    (Q:=λc g=>g=S/\failedOf c=none/\arrOf c=(yh lt (kas_sort vs.length)).map (kas_item (vs.toArray.zip vs.toArray))) J (by omega) v
    (λp c g _ H W G=>⟨G.1,W,by rw[<-G.2];exact H⟩)
    (AB (λi j N M C U=>O.ask i j N M _ F _ _ _ (by rw[l];exact B) U) K ⟨J,J⟩)
   refine a4 (db run ?_ λ_ _ x=>x);rintro⟨⟨⟩,c⟩ g ⟨rfl,Q,u⟩;have f:(arrOf c).map (·.2)=(jr lt vs).toArray:=by rw[y];exact kat_snds J u
   have k:(jr lt vs).length=vs.length:=Lv.length_eq;rw[f];rw[<-l]at m;refine a4 (seqEpoch_at m J (a4 (listUpdate_at m J ?_ (bj _) (by rw[d5,k,sizeLine_eq];omega))));rw[Q];simp only[bne_self_eq_false,Bool.false_eq_true,if_false];rw[<-D];exact a9 h
theorem Iz{R:Around->Prop}{l:Y}(hl:s.heap.IsList l vs.toArray)(d:vs.length<64)(O:2<=vs.length->mD R prog w s.heap vs κ lt)(h:Q (.ref (s.heap.objs.size+1)) {s with heap:=sortedAll s.heap vs (jr lt vs).toArray}) (g:R A.in1.in1:=by trivial):wpAny (model prog w) A (call (.builtin "sorted") [.ref l]) Q E s:=by
 refine Calls.call_function_entry kind_sorted plain_sorted entry_sorted (args_sorted1 _) ?_;unfold Builtin.«sorted»;refine a4 (a9 (a4 (collect_list hl (a4 (wpAny_newList ?_ (by rw[sizeLine_eq];omega))) (by rw[sizeLine_eq];omega))));have c:((s.heap.push (seqObj "list" #[] 0)).update s.heap.objs.size (Obj.mapSeq (· ++vs.toArray))).objs.size=s.heap.objs.size+1:=by rw[Heap.size_update,size_push']
 have f:(((s.heap.push (seqObj "list" #[] 0)).update s.heap.objs.size (Obj.mapSeq (· ++vs.toArray))).push (seqObj "list" vs.toArray 0)).get? (s.heap.objs.size+1)=some (seqObj "list" vs.toArray 0):=by rw[<-c];exact bq _ J
 rw[c];refine a4 (wpAny_holding (cr slot_list_sort ⟨_,f,J⟩ entry_list_sort (V5 g f d O (λb o e=>?_) ⟨_,J,a9 ⟨_,J,h⟩⟩) (args_list_sort _)));have a:=ax e;refine⟨bf (Nat.lt_succ_of_lt a),?_⟩;rw[Heap.get?_push_ne _ _ _ (by rw[c];exact bf (Nat.lt_succ_of_lt a)),Heap.get?_update_ne _ _ _ _ (bf a),Heap.get?_push_ne _ _ _ (bf a)];exact e
end
noncomputable def tI(g:List Int):T:=.tup (iT g)
noncomputable def nC(fin:Bool):List Int->List Int->Bool|p::r,q::t=>if(p==q)=true then nC fin r t else decide (p<q)|_,_=>fin
def lh(h:Heap)(v:Value)(g:List Int):Prop:=∃a o n,∃us:List Value,v=.ref a/\h.get? a=some o/\o.cls=.type "tuple"/\o.data=.seq us.toArray n/\yu (g.map V.int) us
theorem GJ{g d:Type}{f:g->d}{j:List d}{l:List d}(p:j.Perm l):∀{xs:List g},l=xs.map f->∃a:List g,j=a.map f/\a.Perm xs:=by
 induction p with
 | nil=>simp
 | cons u p o=>
   intro xs e;cases xs with
   |nil=>cases e
   | cons x xs=>injection e with c b;obtain⟨a,w,q⟩:=o b;exact⟨x::a,by simp_all,q.cons x⟩
 | swap u v l=>
   intro xs e
   match xs,e with
   | x::y::xs,e=>injection e with c b;injection b with s r;exact⟨y::x::xs,by rw[c,s,r];rfl,List.Perm.swap _ _ _⟩
 | trans p q i h=>intro xs e;obtain⟨t,c,n⟩:=h e;obtain⟨k,b,m⟩:=i c;exact⟨k,b,m.trans n⟩
section
theorem AI{b fin:Bool}{Q:Bool->Shared->Prop}:∀{g f:List Int}{e a:List Value}(i:Nat),yu (g.map V.int) e->yu (f.map V.int) a->Q (nC fin g f) s->KatLex prog w A b fin Q (e.zip a) i s
 |[],_,_,_,i,.nil,_,q=>q
 |_::_,[],_,_,i,.cons _ _,.nil,q=>q
 | p ::r,d::t,_,_,i,.cons l k,.cons j h,q=>by
   obtain⟨x,rfl⟩:=l;obtain⟨y,rfl⟩:=j;refine kat_cons (wpAny_eqBool_int ?_);have q:Q (if(p==d)=true then nC fin r t else decide (p<d)) s:=q;by_cases c:(p==d)=true
   . rw[if_pos c]at q;rw[c];exact kat_yes (AI (i+1) k h q)
   . rw[if_neg c]at q;rw[Bool.eq_false_iff.mpr c];refine kat_no ?_;cases m:(b && i==0)with
     |true=>exact oneLt_int q
     |false=>exact kat_one _ _ (PyProof.Rows.lt_int q)
theorem lh.keep{h':Heap}{v:I}(t:lh h v g)(k:∀b o,h.get? b=some o->h'.get? b=some o):lh h' v g:=by obtain⟨a,o,n,c,e,d,r⟩:=t;exact⟨a,o,n,c,e,k _ _ d,r⟩
theorem BK{h:Heap}:∀{d:List (List Int)}{vs:List Value},Paired (λg v=>lh h v g) d vs->(∀g∈d,g≠[])->∃fs,KatTups h vs fs/\fs.length=vs.length/\∀f∈fs,∃i t,f=Value.int i t
 |_,_,.nil,_=>⟨[],trivial,J,λf c=>by grind⟩
 | g ::d,v::vs,.cons x w,b=>by
   obtain⟨fs,k,l,A⟩:=BK w λy p=>b y (bv _ p);obtain⟨a,o,n,z,rfl,m,s,q,j⟩:=x;cases g with
   |nil=>simp_all
   | cons i g=>
     cases j with
     | cons r t=>
       rename_i u e
       refine⟨u::fs,KatTups.cons m s q (by simp) k,by grind,λf c=>?_⟩;rcases az.mp c with rfl|c
       . obtain⟨t,rfl⟩:=r;simp
       simp_all
theorem Bo (P:Paired (λg v=>lh h v g) gs vs) (d:∀g∈gs,g≠[]) (K:2<=vs.length):mD (λ_=>True) prog w h vs (tuples' true) (λi j=>nC (decide ((gs.getD i []).length<(gs.getD j []).length)) (gs.getD i []) (gs.getD j [])):=by
 have m:∀i,i<vs.length->lh h (vs.getD i Value.none) (gs.getD i []):=by
  clear d K;induction P with
  |nil=>simp
  | cons r t H=>grind
 constructor
 . intro A _ s E Q k q;obtain⟨b,c,l,x⟩:=BK P d;have y:KatTups s.heap vs b:=by
    clear l x m q K d P
    revert b
    induction vs with
    | nil=>intro b c;cases b with
      |nil=>trivial
      |cons=>exact c.elim
    | cons v vs H=>intro b c;cases b with
      |nil=>exact c.elim
      | cons f b=>obtain⟨⟨a,o,L,n,e,B,r⟩,c⟩:=c;exact⟨⟨a,o,L,n,e,k _ _ B,r⟩,H b c⟩
   refine kat_kind (T:=.type "int") y (by omega) (λv u=>?_) (by rfl) q;obtain⟨i,t,rfl⟩:=x v u;exact Looks.now
 . intro i j x N A _ s E Q k q;obtain⟨a,o,n,W,U,B,hc,R,u⟩:=(m i x).keep k;obtain⟨a',X,Z,M,D,z,S,C,p⟩:=(m j N).keep k;rw[U,D];have G:=u.length;have F:=p.length;rw[ae]at G F;refine kat_lt B R z C ?_;rw[d5,d5,<-G,<-F];exact AI 0 u p q
end
section
variable{X:Cx}
theorem IsL.tupI{b:List (Addr×Obj)}{l:St}{H:Hp}{s:Shared}(I:Inv X b l H s):∀{j:List (List Int)}{xs:List V}{f:List Value},IsL H (j.map tI) xs->yu xs f->Paired (λg v=>lh s.heap v g) j f| [],xs,f,h,r=>by cases(h);cases r;exact .nil| g ::j,xs,f,h,r=>by obtain⟨v,y,rfl,w,u⟩:=h;cases r with| cons p m=>refine .cons ?_ (IsL.tupI I u m);obtain⟨a,x,rfl,t,q⟩:=w;cases(p);obtain⟨i,k,⟨o,e,c,n,d⟩,_⟩:=I.tuple (aE.of t);rw[IsL.ints.mp q]at k;exact⟨a,o,n,i,J,e,c,d,k⟩
end
end L2
namespace L2
open PySem PySem.Spec PyProof.Rows
variable{A:Around}{X:Cx}{es:List Expr}{aD:Pos}{prog:Program}{s:Shared}{E:Value->Shared->Prop}{w:World}
theorem DL{a:List T}(h:∀t∈a,(aO t).canLay0=true):PyData.canLayAll0 (qh a)=true:=by
 induction a with|nil=>rfl| cons t a b=>
   unfold qh;simp only[PyData.canLayAll0,cg]
   simp_all
section
open Classical in
end
theorem Wy(g:O Int):(aO (tI g)).canLay0=true:=Fc g
theorem FU(g:O Int):(aO (tI g)).depth<=20:=by unfold tI aO PyData.depth;rw[Zz];decide
theorem rZ(g a:O Int):PyData.eqv (aO (tI g)) (aO (tI a))=decide (g=a):=by unfold tI aO PyData.eqv;exact FC g a
section
end
section
end
section
end
section
end
inductive kH(x:V)(lo hi:Option Int)(H:Hp)(Q:VK):Prop|mk:∀ts,Is H (.lst ts) x->(∀p H',zg H H'->H p=none->Is H' (.lst (Xs ts lo hi)) (.ref p)->Q (.ref p) H')->kH x lo hi H Q
def Db(t:TA):TE:=λσ H Q=>t σ H λxs H1=>xs.length<=1000/\∀p H',zg H1 H'->H1 p=none->H' p=some (.lst xs)->Q (.ref p) H'
def vZ(t:TA):TE:=λσ H Q=>t σ H λxs H1=>xs.length<=1000/\∀p H',zg H1 H'->H1 p=none->H' p=some (.tup xs)->Q (.ref p) H'
section
theorem wG:ni X kH:=by intro b s e H x v i g lo d j Q I k n m l h;obtain⟨t,⟨a,f,rfl,r,o⟩,q⟩:=h;exact Fi b s e H (.ref a) v i g lo d j Q I k n m l ⟨a,f,J,aI.of r,λp c=>q p _ (zg.new c _) c ⟨p,_,J,zd,(xF o lo d).mono (zg.new c _)⟩⟩
theorem vk{t:TA}(h:PA X es t):PE X (.List es aD) (Db t):=by intro a s g H Q I k;refine wpAny_List_spliced (aF (h aD a s g H _ I k) λj c ⟨i,l,f,r,z,q⟩=>⟨by rw[<-r.length];exact xj z,?_⟩);have d:=f.hok.fresh (ag _);exact⟨.ref c.heap.objs.size,upd l c.heap.objs.size (.lst i),f.laid (λb u e=>au _ e) (ag _) ⟨xj z,j,0,r,bq _ J⟩,J,q _ _ (zg.new d _) d zd⟩
theorem y0{t:TA}{j}(h:PA X es t):PE X (.Tuple es j aD) (vZ t):=by intro a s g H Q I l;refine wpAny_Tuple_spliced (aF (h aD a s g H _ I l) λk c ⟨i,m,f,r,z,q⟩=>⟨by rw[<-r.length];exact xj z,?_⟩);have d:=f.hok.fresh (ag _);exact⟨.ref c.heap.objs.size,upd m c.heap.objs.size (.tup i),f.laid (λb u e=>au _ e) (ag _) ⟨xj z,k,r,IsTup.new _ _,iF.push⟩,J,q _ _ (zg.new d _) d zd⟩
end
end L2
namespace L2
open PySem PySem.Spec PyProof.Rows PySem.W
structure Ord(n:Nat)(lt:Nat->Nat->Bool):Prop where
 irr:∀i,lt i i=false
 tr:∀i j k,lt i j=true->lt j k=true->lt i k=true
 tot:∀i j,i<n->j<n->i≠j->lt i j=true\/lt j i=true
section
variable{n:Nat}{lt:Nat->Nat->Bool}
end
section
variable{X:Cx}
theorem JE{c b γ:Type}{R:c->b->Prop}{xs:List c}{a:List b}(h:Paired R xs a){dx:c}{k:b}:∀(l:List Nat),(∀i∈l,i<a.length)->Paired R (l.map λi=>xs.getD i dx) (l.map λi=>a.getD i k):=by
 have f:∀i,i<a.length->R (xs.getD i dx) (a.getD i k):=by induction h with|nil=>intro i e;simp at e| cons r t d=>intro i e;cases i with|zero=>exact r|succ i=>exact d i (by simpa using e)
 intro l;induction l with|nil=>intro _;exact .nil|cons i l d=>intro g;exact .cons (f i (g i c5)) (d λj m=>g j (bv _ m))
theorem zB{H:Hp}{a:List T}{xs:List V}(h:IsL H a xs){dt:T}{dx:V}:∀(l:List Nat),(∀i∈l,i<xs.length)->IsL H (l.map λi=>a.getD i dt) (l.map λi=>xs.getD i dx)|[],_=>rfl| i::l,c=>by have g:=c i c5;have b:=h.length;obtain⟨v,f,e⟩:=h.get (i:=i) (t:=a.getD i dt) (by rw[c8,bo (by omega)];rfl);refine⟨_,_,J,?_,zB h l λj d=>c j (bv _ d)⟩;show Is H (a.getD i dt) (xs.getD i dx);rw[c8 (l:=xs),f];exact e
end
end L2
namespace L2
open PySem PySem.Spec PyProof.Rows
section
variable{X:Cx}
end
end L2
namespace L2
open PySem PySem.Spec PyProof.Rows PySem.W
variable{A:Around}{es:Array DictEntry}{h:Heap}{H:Hp}{ks:List (List Int)}{Q:Option Value->Shared->Prop}{s:Shared}{E:Value->Shared->Prop}
def qz(h:Heap)(d:Addr)(es:Array DictEntry)(ep:Nat):Prop:=∃o,h.get? d=some o/\o.ExactDict/\o.data=.dict es ep
section
variable{prog:Program}{w:World}{d it:Addr}{ep i:Nat}
theorem qz.ty(x:qz s.heap d es ep):s.TypeIs (.ref d) "dict":=let⟨o,a,b,_⟩:=x;⟨o,a,b.1⟩
theorem qz.at{h':Heap}(x:qz h d es ep)(k:∀o,h.get? d=some o->h'.get? d=some o):qz h' d es ep:=let⟨o,a,r⟩:=x;⟨o,k o a,r⟩
theorem qz.lt(x:qz h d es ep):d<h.objs.size:=let⟨_,a,_⟩:=x;ax a
theorem Al{Q:I->Shared->Prop}(c:(d==sysModules)=false)(x:qz s.heap d es ep)(e:Q (.ref s.heap.objs.size) {s with heap:=s.heap.push {cls:=.type "dict_keyiterator",data:=.fields #[.ref d,.int 0 0,.int es.size 0,.int ep 0]}}):wpAny (model prog w) A (pyIter (.ref d)) Q E s:=by have hT:=x.ty;obtain⟨o,b,f,a⟩:=id x;refine wpAny_pyIter_slot hT F.slot_dict_iter (cr F.slot_dict_iter hT F.entry_dict_iter ?_ (F.args_dict_iter_1 _));unfold Builtin.«dict.__iter__»;refine a4 ?_;unfold Builtin.Dict.dictSlotNone;refine a4 (wpAny_notOrdered_dict hT (a9 ?_));show wpAny _ _ (Builtin.Dict.showsAll d>>=_) _ _ s;unfold Builtin.Dict.showsAll;rw[if_neg (by rw[c];exact bu)];refine a4 (a9 (a4 (wpAny_dictEntries b a (a4 (wpAny_dictEpoch b a ?_)))));refine a4 (d8 (a9 ⟨_,J,"dict_keyiterator",_,⟨_,bq _ J,J⟩,F.slot_dict_keyiterator_next.lookup,?_⟩));simpa[rawInt]using e
theorem Am(a:s.heap.IsKeyIter it d i es.size ep)(x:qz s.heap d es ep)(h:i<es.size)(l:∀h',h'.IsKeyIter it d (i+1) es.size ep->Heap.SameBut it s.heap h'->Q (some es[i].key) {s with heap:=h'}):wpAny (model prog w) A (pyNext (.ref it)) Q E s:=by
 obtain⟨m,f,k,e⟩:=id a;obtain⟨n,b,j,c⟩:=id x;unfold pyNext;refine a4 (wpAny_attempt (wpAny_callSpecial?_slot a.typeIs F.slot_dict_keyiterator_next (cr F.slot_dict_keyiterator_next a.typeIs F.entry_dict_keyiterator_next (a4 (a9 (a4 (a4 ?_)))) (F.args_dict_keyiterator_next_1 _))))
 first|refine a4 (wpAny_typeNameOfWhole_keyiter a.typeIs (a9 ?_))|refine a4 (wpAny_typeNameOf_keyiter a.typeIs (a9 ?_))
 refine a4 (wpAny_fieldsOf f e ?_);simp only[show Builtin.Dict_items.ownsTuple "dict_keyiterator"=false from by decide,Bool.false_eq_true,if_false];show wpAny _ _ (if(Value.ref d==Value.none)=true then _ else _) _ _ s;rw[if_neg (show¬((Value.ref d==Value.none)=true)from bu)];refine a4 (a9 (a4 (wpAny_dictEntries b c ?_)));rw[if_neg (by simp)];refine a4 (a9 (a4 (wpAny_dictEpoch b c ?_)));rw[if_neg (by simp)];refine a9 ?_;simp only[(by omega),if_false,ci,ee h];refine a4 ?_;first|refine a4 (wpAny_typeNameOfWhole_keyiter a.typeIs (a9 ?_))|refine a4 (wpAny_typeNameOf_keyiter a.typeIs (a9 ?_))
 refine a4 (wpAny_isOneOf_keyiter a.typeIs ?_);show wpAny _ _ (setField (.ref it) 1 (rawInt (i+1))>>=_) _ _ s;refine a4 (wpAny_setField f e (by simp) ?_);have g:(s.heap.update it (Obj.mapFields (·.setIfInBounds 1 (rawInt (i+1))))).IsKeyIter it d (i+1) es.size ep:=
  ⟨_,Heap.get?_update_self _ f (Obj.isFreed_of_fields (Obj.data_mapFields e _)),(Obj.cls_mapFields ..).trans k,by rw[Obj.data_mapFields e];simp[rawInt]⟩
 refine a4 (wpAny_holding (a4 (wpAny_isOneOf_keyiter g.typeIs ?_)));exact a9 (a9 ⟨_,J,a9 (l _ g (Heap.SameBut.update ..))⟩)
theorem yP(hh:A.handled=none)(a:s.heap.IsKeyIter it d i es.size ep)(x:qz s.heap d es ep)(g:es.size<=i)(j:∀h',Heap.ExtBut it s.heap h'->Q none {s with heap:=h'}):wpAny (model prog w) A (pyNext (.ref it)) Q E s:=by
 obtain⟨k,e,m,f⟩:=id a;obtain⟨l,b,h,c⟩:=id x;unfold pyNext;refine a4 (wpAny_attempt (wpAny_callSpecial?_slot a.typeIs F.slot_dict_keyiterator_next (cr F.slot_dict_keyiterator_next a.typeIs F.entry_dict_keyiterator_next (a4 (a9 (a4 (a4 ?_)))) (F.args_dict_keyiterator_next_1 _))))
 first|refine a4 (wpAny_typeNameOfWhole_keyiter a.typeIs (a9 ?_))|refine a4 (wpAny_typeNameOf_keyiter a.typeIs (a9 ?_))
 refine a4 (wpAny_fieldsOf e f ?_);simp only[show Builtin.Dict_items.ownsTuple "dict_keyiterator"=false from by decide,Bool.false_eq_true,if_false];show wpAny _ _ (if(Value.ref d==Value.none)=true then _ else _) _ _ s;rw[if_neg (show¬((Value.ref d==Value.none)=true)from bu)];refine a4 (a9 (a4 (wpAny_dictEntries b c ?_)));rw[if_neg (by simp)];refine a4 (a9 (a4 (wpAny_dictEpoch b c ?_)));rw[if_neg (by simp)];refine a9 ?_;simp only[(by omega),if_false,ci,Array.getElem?_eq_none g];refine a4 ?_;first|refine a4 (wpAny_typeNameOfWhole_keyiter a.typeIs (a9 ?_))|refine a4 (wpAny_typeNameOf_keyiter a.typeIs (a9 ?_))
 show wpAny _ _ (setField (.ref it) 0 .none>>=_) _ _ s;refine a4 (wpAny_setField e f (by simp) ?_);refine a4 ?_;simp only[newExc,newTuple];refine a4 (d8 (a4 (wpAny_of_eq (by first|rfl|(simp only[firstArgMember];rfl)) (d8 ?_ (by size_fits)))) (by size_fits));simp only[raiseNew];refine a4 (wpAny_handled ?_);rw[(hh)];refine a4 (a9 (wpAny_throw ?_));refine a4 (de ⟨_,bq _ J,J⟩ isSubtype_stop ?_);exact a9 (j _ (((Heap.SameBut.update ..).extBut.push _).push _))
theorem Hm(hh:A.handled=none)(I:Y)(j:d≠I):Walks prog w A I [I,d] [I] es.size (λi v=>∃e,es[i]?=some e/\v=e.key) (λi h=>h.IsKeyIter I d i es.size ep/\qz h d es ep) where
 sub:=λb a=>by simp at a;simp[a]
 frame:=λ_ _ _ st hk=>⟨st.1.at λo e=>hk I (by simp) o e,st.2.at λo e=>hk d (by simp) o e⟩
 item:=λi s Q E m st g=>Am st.1 st.2 m λl f c=>g _ l s.toks ⟨_,ee m,J⟩ ⟨f,st.2.at λo e=>c.extBut d o j e⟩ λb o a e=>c.extBut b o (λh=>a (by simp[h])) e
 done:=λs Q E st g=>yP hh st.1 st.2 (ag _) λl k=>g l s.toks λb o a e=>k b o (λh=>a (by simp[h])) e
 self:=λ_ _ _ _ st g=>wpAny_pyIter_keyiter st.1 g
theorem yQ(lo:(d==sysModules)=false):KdlSrc prog w "dict" d d es.size (λi v=>∃e,es[i]?=some e/\v=e.key) (λh=>qz h d es ep) where
 type:=λ_ x=>x.ty
 there:=λ_ x=>⟨x.lt,x.lt⟩
 keep:=λ_ _ x hk=>x.at λo e=>hk d (.inl J) o e
 notList:=by decide
 notTuple:=by decide
 hint:=λ_ _ _ _ x a=>kdl_hint_dict x.ty a
 iter:=λ_ _ b x=>⟨_,_,(λ_ _ a=>Al lo x a),Hm b _ (bf x.lt),⟨⟨_,bq _ J,J,J⟩,x.at λo e=>au _ e⟩⟩
end
noncomputable def kI(g:List Int):List aM:=g.map Sum.inl
theorem Wg(g:O Int):(kI g).map kV=g.map V.int:=by unfold kI;rw[bp];rfl
theorem aT{g c:List Int}(h:kI g=kI c):g=c:=by unfold kI at h;induction g generalizing c with|nil=>simp_all| cons a g d=>cases c with|nil=>cases h| cons b c=>grind
inductive pA(H:Hp)(d:Addr)(ks:List (List Int)):Prop|mk:∀kvs:List (List aM×V),H d=some (.dT kvs)->kvs.map (·.1)=ks.map kI->pA H d ks
theorem pA.len{d:Y}{kvs:O (O aM×V)}(e:H d=some (.dT kvs))(k:kvs.map (·.1)=ks.map kI):kvs.length=ks.length:=by
 have:=congrArg List.length k
 grind
theorem wB{kvs:List (List aM×V)}{xs:List (List aM×Addr×Value)}(b:KT H kvs xs):∀{a:List (List Int)},kvs.map (·.1)=a.map kI->IsL H (a.map tI) (xs.map λx=>V.ref x.2.1):=by
 induction b with
 | nil=>
   intro a k;cases a with
   |nil=>rfl
   |cons=>cases k
 | @cons p x i h f t e=>
   intro a k;cases a with
   |nil=>cases k
   | cons g a=>injection k with c d;refine⟨_,_,J,⟨x.2.1,_,J,f.2.1,?_⟩,e d⟩;have c:p.1=kI g:=c;rw[c,Wg];exact IsL.ints.mpr J
section
variable{X:Cx}
inductive hU(xs:List V)(H:Hp)(Q:VK):Prop|mk:∀d ks,xs=[.ref d]->pA H d ks->(∀ys p H',zg H H'->H p=none->H' p=some (.lst ys)->IsL H' (ks.map tI) ys->Q (.ref p) H')->hU xs H Q
theorem Bv(K:X.calm=true):jp X (.type "list") hU:=by
 intro p s P H c S Q I r h;obtain⟨d,W,rfl,⟨A,e,k⟩,q⟩:=h;obtain⟨u,rfl,y⟩:=jz r;cases(y);obtain⟨z,G,c,f,⟨o,es,ep,D,l,g,w,_,_⟩⟩:=rN I.hok e;have B:=Paired.length f;have F:=size_of_entries w;refine kdl_call (yQ G) (I.ok.hd K) ⟨o,D,l,g⟩ (by omega) λh' U b N hk Z a=>?_;have C:yu (c.map λx=>V.ref x.2.1) b.toList:=Jy (by have i:=a.1;simp_all) λj x v m e2=>by obtain⟨en,i,L⟩:=a.2 j v (by simp_all);rw[entry_at w j]at i;rw[aj]at m;cases M:c[j]? with|none=>simp_all| some R=>rw[M]at m i;cases m;cases i;rw[L];rfl
 have E:=wB f k;have t:=I.hok.fresh (ag s.heap.objs.size);have n:=zg.new t (.lst (c.map λx=>V.ref x.2.1));exact⟨.ref s.heap.objs.size,_,I.laid (o:=.lst (c.map λx=>V.ref x.2.1)) hk (ag _) ⟨by simp_all,b.toList,N,C,by omega⟩,J,q _ _ _ n t zd (E.mono n)⟩
end
end L2
namespace L2
open PySem PySem.Spec PyProof.Rows
variable{a:Addr}{A:Around}{sl:Array (Option Value)}{its xs:Array Value}{X:Cx}{Q:Option Value->Shared->Prop}{prog:Program}{R:Result->Shared->Prop}{s:Shared}{E:Value->Shared->Prop}{w:World}
theorem IR:typeLookup (.type "list") "keys"=pure none:=am_miss_of_fast (by rfl)
section
set_option maxRecDepth 8000 in
theorem Lw{k:Nat}{u:Tok}{Q:Value->Shared->Prop}(hx:s.heap.get? a=some {cls:=.type "list",dict:=none,data:=.seq xs k,slots:=sl})(hA:A.handled=none)
  (h:∀h' tk e,Heap.NewExcOf s.heap h' e "AttributeError"->E (.ref e) {s with heap:=h',toks:=tk}):wpAny (model prog w) A (getAttrBy (.ref a) (.str "keys" u) false) Q E s:=by
 obtain⟨hp,g,d,tk,os⟩:=s;have hT:∀tk',(⟨hp,g,d,tk',os⟩:Shared).TypeIs (.ref a) "list":=λ_=>⟨_,hx,rfl⟩
 have f1:=sub_AttributeError;have f3:=PySem.F.slot_list_getattribute.lookup;have f4:=PySem.F.slot_list_getattribute.bind (.ref a);have f5:=am_list_getattr_none;unfold getAttrBy
 repeat(any_goals (first|assumption|exact hT _|((with_reducible show wpAny _ _ (call (Value.builtin "list.__getattribute__") _ _) _ _ _);refine call_meets PySem.F.slot_list_getattribute (hT _) am_entry_list_getattribute (PySem.F.args_list_getattribute_2 _ _) (meets_getattribute_miss_list a xs k sl "keys" _ IR (by decide+kernel) (by size_fits)) ⟨hx,hA,λh' tk' e hx'=>?_⟩)|wp_step))
 obtain⟨t',u',he⟩:=hx'.there;show wpAny _ _ (getattributeRaised _ _ _ _ _ _ _) _ _ _;unfold getattributeRaised
 repeat(any_goals (first|assumption|wp_step))
 exact h _ _ _ hx'.of
theorem BL{k:Nat}(d:s.heap.get? a=some {cls:=.type "list",dict:=none,data:=.seq xs k,slots:=sl})(i:A.handled=none)
  (h:∀h' tk,(∀b o,s.heap.get? b=some o->h'.get? b=some o)->Q none {s with heap:=h',toks:=tk}):wpAny (model prog w) A (getAttr? (.ref a) "keys") Q E s:=by unfold getAttr? getAttrBy?;refine a4 (wpAny_mkText ?_);refine a4 (wpAny_attempt (Lw d i λh' tk e x=>?_));obtain⟨c,r,f,g,_⟩:=x.there;refine a4 (de ⟨_,f,g⟩ sub_AttributeError ?_);exact a9 (h _ _ x.keeps)
end
abbrev Jw:=List aM×Addr×Value
noncomputable def xL(xs rows:List Jw):List Jw:=rows.foldl (λB r=>storedH B r.1 r.2.1 r.2.2) xs
theorem Le(xs:O Jw)(k:O aM)(a:Y)(v:I):(storedH xs k a v).length<=xs.length+1:=by
 unfold storedH
 grind
section
def pP(prog:Program)(w:World)(h:Heap)(d B:Addr)(v:Value)(r:Jw):Prop:=∃b,v=.ref b/\b≠d/\b≠B/\r.2.1≠d/\r.2.1≠B/\h.IsTuple b #[.ref r.2.1,r.2.2]/\(tupleKind (ya prog w)).is h r.1 r.2.1
theorem pP.keep{h h':Heap}{d a:Y}{v:I}{r:Jw}(p:pP prog w h d a v r)(k:∀c o,c≠d->c≠a->h.get? c=some o->h'.get? c=some o):pP prog w h' d a v r:=by obtain⟨b,e,l,j,i,g,⟨o,t,x,n,u⟩,⟨s,y,m,f,q⟩⟩:=p;exact⟨b,e,l,j,i,g,⟨o,k _ _ l j t,x,n,u⟩,⟨s,y,m,k _ _ i g f,q⟩⟩
theorem Hl{d p t:Addr}{rows:List Jw}(hu:A.units+1<cLine)(hh:A.handled=none)(B:d≠p)(Z:t≠p)(X:t≠d)(hl:its.size=rows.length)(aa:rows.length<=sizeLine):
  ∀ (k i:Nat) (s:Shared) (xs:List Jw),rows.length-i=k->i<=rows.length->xs.length<=i->s.heap.IsListIter p t i->s.heap.IsList t its->s.heap.DictOfH (tupleKind (ya prog w)) d xs->
    (∀(j:Nat) v r,its[j]?=some v->rows[j]?=some r->pP prog w s.heap d p v r)->
    (∀h' tk,h'.DictOfH (tupleKind (ya prog w)) d (xL xs (rows.drop i))->(∀b o,b≠d->b≠p->s.heap.get? b=some o->h'.get? b=some o)->R (.ok (.ret .none)) {s with heap:=h',toks:=tk})->
    codeAny (model prog w) A (.builtin "dict.update.loop" ⟨[.ref d,.ref p,rawInt i,.none],[]⟩) R s:=by
 intro k;induction k with| zero=>
   intro i s xs hk hi hz f N hd S hR;have e:i=rows.length:=by omega
   refine codeAny_builtin Ym ?_;rw[Around.under_plainId qu _];refine a4 (wpAny_pyNext_list_end (hh) f N (Array.getElem?_eq_none (by omega)) λh' eb=>?_);refine a4 (a9 (a9 ?_));refine hR h' s.toks ?_ λb o G l z=>eb b o l z;rw[e,List.drop_length];obtain⟨o,es,ep,W,hc,D,he,C,y⟩:=hd;refine⟨o,es,ep,eb d o B W,hc,D,he,λx F=>?_,y⟩;obtain⟨P,aC,m,a,n⟩:=C x F;refine⟨P,aC,m,eb _ _ (λz=>?_) a,n⟩;obtain⟨oi,u,E,_⟩:=f;rw[z,u]at a;cases a;rw[E]at n;exact absurd n.1 (by decide)| succ k ih=>
   intro i s xs hk hi hz f N hd S hR;have h:i<rows.length:=by omega
   have F:its[i]?=some its[i]:=ee (by omega);have hr:=bo h;have P0:=S i _ _ F hr;refine codeAny_builtin Ym ?_;rw[Around.under_plainId qu _];refine a4 (wpAny_pyNext_list_item f N F λg L H=>?_);have kg:∀c o,c≠d->c≠p->s.heap.get? c=some o->g.get? c=some o:=λc o _ l z=>H.extBut c o l z;obtain⟨b,hb,aS,aK,ay,aw,M,K⟩:=P0.keep kg;have av:g.DictOfH (tupleKind (ya prog w)) d xs:=by obtain⟨o,es,ep,W,hc,D,he,C,y⟩:=hd;refine⟨o,es,ep,H.extBut d o B W,hc,D,he,λx F=>?_,y⟩;obtain⟨P,aC,m,a,n⟩:=C x F;refine⟨P,aC,m,H.extBut _ _ (λz=>?_) a,n⟩;obtain⟨oi,u,E,_⟩:=f;rw[z,u]at a;cases a;rw[E]at n;exact absurd n.1 (by decide)
   rw[hb];refine a4 (wpAny_holding (a4 (wpAny_tryCatch ?_)));unfold Builtin.Dict.pairItems;refine a4 (wpAny_typeOf (Heap.IsTuple.typeIs M) ?_);rw[if_pos (by rfl)];obtain⟨ob,U,_,nb,ap⟩:=M;refine a4 (wpAny_seqItems U ap (a9 ?_));refine wpAny_holding (wpAny_dictSet_heap (tupleKind_room_in1 hu) K av (λg2 aq q=>?_) (cj (Nat.le_of_lt (dz hz h)) aa));refine a9 ⟨plainId_quiet qu _,?_⟩;have e1:rawInt (i+1)=rawInt ((i+1:Nat)):=by simp
   have keep:=λc o G l z=>q.extBut c o G (H.extBut c o l z);rw[e1];have lz:=Le xs rows[i].1 rows[i].2.1 rows[i].2.2;refine ih (i+1) _ _ (by omega) h (by omega) (L.extBut q.extBut (ak B)) (N.extBut H.extBut Z |>.extBut q.extBut X) aq (λj v r hv Q=>(S j v r hv Q).keep keep) λh' tk hD ah=>?_;refine hR h' tk ?_ λc o G l z=>ah c o G l (keep c o G l z);have e2:=List.drop_eq_getElem_cons h;rw[e2];exact hD
end
inductive dJ(H:Hp)(b:Addr)(r:List Int×V):Prop|mk:∀kb,H b=some (.tup [.ref kb,r.2])->H kb=some (.tup (r.1.map V.int))->dJ H b r
theorem wF{X:Cx}{c:List (Addr×Obj)}{i:St}{H:Hp}{s:Shared}(I:Inv X c i H s):∀{d:List Addr}{rows:List (List Int×V)},Paired (dJ H) d rows->∃a:List Jw,a.length=d.length/\Paired (λ(r:List Int×V) (q:Jw)=>kI r.1=q.1/\H q.2.1=some (.tup (q.1.map kV))/\yq r.2 q.2.2) rows a/\
  ∀(j:Nat) b q,d[j]?=some b->a[j]?=some q->s.heap.IsTuple b #[.ref q.2.1,q.2.2]/\(tupleKind (ya X.prog X.w)).is s.heap q.1 q.2.1
 |_,_,.nil=>⟨[],J,.nil,λj b q e=>by simp⟩
 | b ::d,r::rows,.cons h t=>by
   obtain⟨a,A,x,z⟩:=wF I t;obtain⟨u,e,hk⟩:=h;obtain⟨_,v,l,w,_⟩:=(I.hok b _ e)
   cases l with
   | @cons _ y _ _ p o=>
     cases o with
     | @cons _ k _ _ n m=>
       cases m;cases(p);rw[<-Wg]at hk;refine⟨(kI r.1,u,k)::a,by grind,.cons ⟨J,hk,n⟩ x,λj B q g f=>?_⟩;cases j with
       | zero=>simp at g f;subst g f;exact⟨w,Y0 I.hok hk⟩
       |succ j=>grind
section
end
section
end
end L2
namespace L2
open PySem PySem.Spec PyProof.Rows PySem.W
variable{A:Around}{Q:Bool->Shared->Prop}{s:Shared}{E:Value->Shared->Prop}
section
variable{prog:Program}{w:World}{K:Type}[DecidableEq K](knd:KeyKind prog w K)
variable{knd}
theorem Ic{n:Nat}{f:O K}{a:Y}(hk:IsTupleKey knd s.heap f a)(h:Q true s):wpAny (model prog w) A (eqIsQuiet (n+1) (.ref a)) Q E s:=by have hT:=hk.typeIs;obtain⟨o,p,m,g,_,j,i⟩:=hk;unfold eqIsQuiet;refine a4 (wpAny_specialOf hT F.slot_tuple_eq.lookup ?_);refine a4 (de hT isSubtype_tuple_tuple ?_);simp only[Bool.not_true,Bool.false_eq_true,if_false];refine a4 (wpAny_seqItems g j ?_);refine a4 ?_;rw[<-Array.forIn_toList];refine wpAny_forIn_list _ (λZk r c=>r.1=none/\c=s/\∀v∈Zk,carriedByValue v=true) _ ?_ ?_ _ _ ⟨J,J,i.byValue⟩;rintro v Zk r c ⟨e,rfl,b⟩;rw[eqIsQuiet_byValue _ (b v c5)];refine a4 (a9 ?_);simp only[Bool.not_true,Bool.false_eq_true,if_false];exact a9 ⟨J,J,λu d=>b u (bv _ d)⟩;rintro⟨l,k⟩ c ⟨e,rfl,_⟩;simp only at e;subst e;exact a9 h
end
noncomputable def tN(k:List (List Int)):T:=.tup (k.map tI)
abbrev Cj:=List (List Int)
variable{kvs:List (Cj×V)}{P:Program}
theorem uE:∀(a:List Int),qt (a.map T.int)|[]=>trivial|c::a=>⟨trivial,uE a⟩
section
variable{w:World}{H H':Hp}{d:Addr}
end
section
variable{X:Cx}{o i e aY:Expr}{aD cK dD:Pos}{td ty tv:TE}
end
end L2
namespace L2
open PySem PySem.Spec PyProof.Rows
variable{A:Around}{R:Result->Shared->Prop}
def ll(h h':Heap):Prop:=∀c o,o.cls=.type "tuple"->h.get? c=some o->h'.get? c=some o
section
variable{prog:Program}{w:World}{h h':Heap}
end
section
variable{X:Cx}
end
end L2
namespace L2
open PySem PySem.Spec PyProof.Rows PySem.W
variable{a b:Addr}{A:Around}{es:Array DictEntry}{X:Cx}{D:Ends}{e tg:Expr}{h:Heap}{H:Hp}{eR:List Expr}{cap:List Nat}{o:Obj}{apos cpos aD:Pos}{P prog:Program}{s:Shared}{σ:St}{td te:TE}{g:TG}{tb:TS}{tc:TT}{y:V}{u v:Value}{E Q:Value->Shared->Prop}{w:World}
section
variable{K:Type}[DecidableEq K](knd:KeyKind prog w K)
abbrev cO(K:Type):=List K ⊕ K
noncomputable def Wh:cO K->Bool|.inl _=>true|.inr _=>false
def dZ(h:Heap):cO K->Value->Prop|.inl k,v=>∃a,v=.ref a/\IsTupleKey knd h k a|.inr k,v=>knd.is k v=true
noncomputable def W0:cO K->Int|.inl k=>tupleKeyHash knd k|.inr k=>knd.hash k
noncomputable def ua:cO K->Nat|.inl k=>k.length+1|.inr _=>1
inductive cB(h:Heap):List (cO K)->List Value->Prop|nil:cB h [] []|cons {k:cO K} {v:Value} {ks:List (cO K)} {vs:List Value}:dZ knd h k v->cB h ks vs->cB h (k::ks) (v::vs)
def Zi(h:Heap)(B:List (cO K))(a:Addr):Prop:=∃o aC n,h.get? a=some o/\o.cls=.type "tuple"/\o.data=.seq aC n/\cB knd h B aC.toList
noncomputable def ue(B:List (cO K)):Int:=reduceHash (Builtin.Tuple.tupleHashOf (B.map (W0 knd)))
noncomputable def uu(B:List (cO K)):Nat:=(B.map ua).sum+1
variable{knd}
theorem dZ.inj{h:Heap}{x y:cO K}{v:Value}(f:dZ knd h x v)(c:dZ knd h y v):x=y:=by
 cases x with
 | inl k=>
   obtain⟨a,rfl,i⟩:=f;cases y with
   | inl d=>obtain⟨b,e,g⟩:=c;cases e;rw[i.inj g]
   |inr d=>exact absurd (knd.byValue _ _ c) (λz=>by cases z)
 | inr k=>
   cases y with
   | inl d=>obtain⟨b,rfl,g⟩:=c;exact absurd (knd.byValue _ _ f) (λz=>by cases z)
   |inr d=>rw[knd.inj _ _ _ f c]
theorem dZ.keeps{h h':Heap}{k:cO K}{v:Value}{d:Addr}{o:Obj}{es ep}(x:dZ knd h k v)(c:h.get? d=some o)(f:o.data=.dict es ep)(b:Heap.SameBut d h h'):dZ knd h' k v:=by cases k with| inl k=>obtain⟨a,e,g⟩:=x;exact⟨a,e,g.keeps c f b⟩|inr k=>exact x
theorem cB.inj{h:Heap}{x y:List (cO K)}{vs:List Value}(d:cB knd h x vs)(a:cB knd h y vs):x=y:=by induction d generalizing y with|nil=>cases a;rfl| cons f _ c=>cases a with|cons e b=>rw[f.inj e,c b]
theorem Zi.typeIs{b:O (cO K)}(x:Zi knd s.heap b a):s.TypeIs (.ref a) "tuple":=let⟨o,_,_,c,d,_⟩:=x;⟨o,c,d⟩
theorem Zi.inj{h:Heap}{a:Y}{x y:O (cO K)}(i:Zi knd h x a)(g:Zi knd h y a):x=y:=by obtain⟨o,q,n,j,_,l,k⟩:=i;obtain⟨f,c,p,d,_,b,e⟩:=g;obtain rfl:o=f:=Option.some.inj (j.symm.trans d);rw[l]at b;injection b with m _;subst m;exact k.inj e
theorem cB.keeps{h h':Heap}{a:List (cO K)}{vs:List Value}{d:Addr}{o:Obj}{es ep}(x:cB knd h a vs)(e:h.get? d=some o)(f:o.data=.dict es ep)(c:Heap.SameBut d h h'):cB knd h' a vs:=by induction x with|nil=>exact .nil|cons g _ b=>exact .cons (g.keeps e f c) b
theorem Zi.keeps{h h':Heap}{f:O (cO K)}{a d:Y}{o:Obj}{es ep}(x:Zi knd h f a)(j:h.get? d=some o)(l:o.data=.dict es ep)(g:Heap.SameBut d h h'):Zi knd h' f a:=by
 obtain⟨i,p,n,b,m,e,k⟩:=x;have c:a≠d:=by grind
 exact⟨i,p,n,(g.2 a c).trans b,m,e,k.keeps j l g⟩
theorem Ia{k:cO K}{Q:Int->Shared->Prop}(b:A.units<cLine)(hk:dZ knd s.heap k v)(h:Q (W0 knd k) {s with toks:=s.toks+ua k}):wpAny (model prog w) A (pyHash v) Q E s:=by cases k with| inl k=>obtain⟨a,rfl,c⟩:=hk;exact wpAny_pyHash_tuple b c h|inr k=>exact knd.pyHash hk h
theorem Hq{x y:cO K}{Q:Bool->Shared->Prop}(g:A.units<cLine)(f:Wh x=Wh y)(e:dZ knd s.heap x u)(d:dZ knd s.heap y v)(h:Q (decide (x=y)) s):wpAny (model prog w) A (eqBool u v) Q E s:=by
 cases x with
 | inl k=>
   cases y with
   | inl c=>
     obtain⟨a,rfl,j⟩:=e;obtain⟨b,rfl,i⟩:=d;refine wpAny_eqBool_tuple g j i ?_
     simp_all
   |inr c=>cases f
 | inr k=>
   cases y with
   |inl c=>cases f
   | inr c=>
     refine knd.eqBool e d ?_
     simp_all
theorem JG{f:O (cO K)}{Q:Int->Shared->Prop}(u:A.units+2<cLine)(hk:Zi knd s.heap f a)(h:Q (ue knd f) {s with toks:=s.toks+uu f}):wpAny (model prog w) A (pyHash (.ref a)) Q E s:=by
 have hT:=hk.typeIs;obtain⟨o,v,n,p,_,r,q⟩:=hk;unfold pyHash;first|unfold pyHashByItsType|skip
 first|refine a4 (wpAny_cRoomFor_or (.inr (show A.units<cLine by omega)) ?_)|skip
 refine a4 (wpAny_specialOf hT F.slot_tuple_hash.lookup ?_);rw[if_neg (by simp)];refine a4 (wpAny_specialOf hT F.slot_tuple_hash.lookup ?_);refine a4 (wpAny_callSpecialIfBoundUnlessNone?_slot hT F.slot_tuple_hash (cr F.slot_tuple_hash hT F.entry_tuple_hash ?_ (F.args_tuple_hash_1 _)));show wpAny _ _ (Builtin.Tuple.tupleItemsOf (.ref a)>>=_) _ _ s;refine a4 (wpAny_tupleItemsOf p r ?_);refine a4 ?_;rw[<-Array.forIn_toList];refine wpAny_forIn_list _
  (λZk b j=>∃d Q5,f=d++Q5/\cB knd s.heap Q5 Zk/\b.toList=d.map (W0 knd)/\j={s with toks:=s.toks+(d.map ua).sum})
  _ ?_ ?_ _ _ ⟨[],f,J,q,J,J⟩
 . rintro x Zk b j ⟨d,Q5,rfl,l,m,rfl⟩;cases l with| @cons k c e _ t g=>
     refine a4 (Ia ?room t ?_)
     case room=>grind
     first|exact a9 ⟨d++[k],e,by simp,g,by grind,by grind⟩|exact a4 (a9 (a9 ⟨d++[k],e,by simp,g,by simp[m],by simp[Nat.add_assoc]⟩))
 rintro b j ⟨d,Q5,rfl,l,m,rfl⟩;cases l;rw[cq]at h;show wpAny _ _ (retInt (Builtin.Tuple.tupleHashOf b.toList)) _ _ _;rw[m];refine wpAny_ret_mkInt ?_;show wpAny _ _ (if(decide (-(2)^63<=Builtin.Tuple.tupleHashOf (d.map (W0 knd))) && decide (Builtin.Tuple.tupleHashOf (d.map (W0 knd))<2^63))=true then _ else _) Q E _;unfold ue reduceHash uu at h;by_cases i:(decide (-(2)^63<=Builtin.Tuple.tupleHashOf (d.map (W0 knd))) && decide (Builtin.Tuple.tupleHashOf (d.map (W0 knd))<2^63))=true;rw[if_pos i];rw[if_pos i]at h;exact a9 (by omega);rw[if_neg i];rw[if_neg i]at h;exact a4 (wpAny_rule (a9 (by omega)))
theorem KP{x y:List (cO K)}{P:Fin->Shared->Prop}(hu:A.units<cLine)(F:x.map Wh=y.map Wh)(hx:Zi knd s.heap x a)(X:Zi knd s.heap y b)(h:P (.done (.ret (.bool (decide (x=y))))) s):wpAny (model prog w) A (Builtin.«tuple.__eq__» ⟨[.ref a,.ref b],[]⟩) P E s:=by
 have W:=X.typeIs;obtain⟨oa,z,na,N,_,U,R⟩:=hx;obtain⟨ob,t,nb,M,_,S,Q⟩:=X;show wpAny _ _ (isInstance (.ref b) (.type "tuple")>>=_) _ _ s;refine a4 (de W isSubtype_tuple_tuple ?_);simp only[Bool.not_true,Bool.false_eq_true,if_false];refine a4 (wpAny_tupleItemsOf N U ?_);refine a4 (wpAny_tupleItemsOf M S ?_);refine a4 ?_;refine wpAny_forIn_list _
  (λZk r B=>r.1=none/\B=s/\∃n l d c,Zk=List.zip d c/\cB knd s.heap n d/\cB knd s.heap l c/\n.map Wh=l.map Wh/\decide (n=l)=decide (x=y)/\(d.length==c.length)=(z.size==t.size))
  _ ?_ ?_ _ _ ⟨J,J,x,y,z.toList,t.toList,J,R,Q,F,J,by simp⟩
 rintro⟨u,v⟩ Zk r B ⟨L,rfl,n,l,d,c,o,i,e,j,g,f⟩;cases i with
 |nil=>simp at o
 | @cons k1 u' D m h1 q=>
   cases e with
   |nil=>grind
   | @cons k2 v' C k h2 p=>
     simp only[List.zip_cons_cons,List.cons.injEq,Prod.mk.injEq]at o;obtain⟨⟨rfl,rfl⟩,rfl⟩:=o;rw[cb,cb]at j;injection j with H G;refine a4 (Hq hu H h1 h2 ?_);by_cases hk:k1=k2;subst hk;rw[bn J];simp only[Bool.not_true,Bool.false_eq_true,if_false];refine a9 ⟨J,J,D,C,m,k,J,q,p,G,?_,by simp_all⟩
     simp_all
     rw[c6 hk];simp only[Bool.not_false,if_true];have hf:decide (x=y)=false:=by simp_all
     rw[hf]at h;exact a4 (a9 (a9 (a9 h)))
 rintro⟨r1,r2⟩ B ⟨L,rfl,n,l,d,c,o,i,e,j,g,f⟩;simp only at L;subst L;refine a9 ?_;have Z:(z.size==t.size)=decide (x=y):=by
  rw[<-g,<-f];cases i with
  | nil=>
    cases e with
    |nil=>simp
    |cons _ _=>simp
  | cons _ _=>
    cases e with
    |nil=>simp
    |cons _ _=>simp at o
 show P (.done (.ret (.bool (z.size==t.size)))) B
 simp_all
theorem IK{x y:O (cO K)}{Q:Bool->Shared->Prop}(i:A.units+2<cLine)(g:x.map Wh=y.map Wh)(d:Zi knd s.heap x a)(f:Zi knd s.heap y b)(h:Q (decide (x=y)) s):wpAny (model prog w) A (eqBool (.ref a) (.ref b)) Q E s:=by
 unfold eqBool
 try with_reducible refine wpAny_holding ?_
 by_cases c:(Value.ref a==Value.ref b)=true;rw[if_pos c];have e:a=b:=by simp_all
 subst e;obtain rfl:=d.inj f;exact a4 (wpAny_rule (a9 (by simp_all)))
 . rw[if_neg c];refine a4 (wpAny_richCompare_same_room d.typeIs f.typeIs F.slot_tuple_eq (cr F.slot_tuple_eq d.typeIs F.entry_tuple_eq (KP ?room g d f ⟨_,J,(λe=>nomatch e),wpAny_truthy_bool h⟩) (F.args_tuple_eq_2 _ _)) (by omega))
   grind
theorem Gs{n:Nat}{k:cO K}{Q:Bool->Shared->Prop}(hk:dZ knd s.heap k v)(h:Q true s):wpAny (model prog w) A (eqIsQuiet (n+1) v) Q E s:=by cases k with| inl k=>obtain⟨a,rfl,b⟩:=hk;exact Ic b h| inr k=>rw[eqIsQuiet_byValue _ (knd.byValue _ _ hk)];exact a9 h
theorem Ib{d:List (cO K)}{Q:Bool->Shared->Prop}(hk:Zi knd s.heap d a)(h:Q true s):wpAny (model prog w) A (eqIsQuiet 8 (.ref a)) Q E s:=by
 have hT:=hk.typeIs;obtain⟨o,p,m,g,_,j,i⟩:=hk;unfold eqIsQuiet;refine a4 (wpAny_specialOf hT F.slot_tuple_eq.lookup ?_);refine a4 (de hT isSubtype_tuple_tuple ?_);simp only[Bool.not_true,Bool.false_eq_true,if_false];refine a4 (wpAny_seqItems g j ?_);refine a4 ?_;rw[<-Array.forIn_toList];refine wpAny_forIn_list _ (λZk r c=>r.1=none/\c=s/\∃d,cB knd s.heap d Zk) _ ?_ ?_ _ _ ⟨J,J,_,i⟩;rintro v Zk r c ⟨e,rfl,f,b⟩;cases b with| cons k t=>refine a4 (Gs k ?_);simp only[Bool.not_true,Bool.false_eq_true,if_false];exact a9 ⟨J,J,_,t⟩
 rintro⟨n,l⟩ c ⟨e,rfl,_⟩;simp only at e;subst e;exact a9 h
end
structure Shape(K κ:Type) where
 f:κ->List (cO K)
 inj:∀a b,f a=f b->a=b
 one:∀a b,(f a).map Wh=(f b).map Wh
noncomputable def qw{prog:Program}{w:World}{K B:Type}[DecidableEq K][DecidableEq B](knd:KeyKind prog w K)(S:Shape K B):HeapKind prog w B where
 is:=λh k a=>Zi knd h (S.f k) a
 hash:=λk=>ue knd (S.f k)
 draws:=λk=>uu (S.f k)
 room:=λA=>A.units+2<cLine
 inj:=λZ U=>S.inj _ _ (Z.inj U)
 keeps:=λx ho hd hs=>x.keeps ho hd hs
 pyHash:=λhu hk h=>JG hu hk h
 eqBool:=λ{_ _ _ x y _ _ _} hu Z U h=>IK hu (S.one x y) Z U (by
  have e:decide (S.f x=S.f y)=decide (x=y):=by by_cases c:x=y;rw[c];simp;rw[c6 c,c6 λz=>c (S.inj _ _ z)]
  rw[e];exact h)
 quiet:=λhk h=>Ib hk h
structure aU(κ:Type)[DecidableEq κ] where
 S:Shape aM κ
 tr:κ->T
 fro:∀k,dM (tr k)
 of:∀{P:Program}{w:World}{H:Hp}{h:Heap},cC P w H h->∀{k:κ}{a:Addr},Is H (tr k) (.ref a)->(qw (ya P w) S).is h k a
abbrev Z2(B:Type):=B×Addr×Value
section
variable{κ:Type}[DecidableEq κ]{τ:aU κ}
def Jt(τ:aU κ)(P:Program)(w:World)(d:Addr)(xs:List (Z2 κ)):Heap->Prop:=λh=>∃o es ep,h.get? d=some o/\o.ExactDict/\o.data=.dict es ep/\es.toList=xs.map (entryOfKey (qw (ya P w) τ.S))
theorem Jt.ok{d:Y}{xs:O (Z2 κ)}(x:Jt τ P w d xs h):qf P w H h d (.ext (Jt τ P w d xs)):=by refine⟨x,?_,λf e y k=>?_⟩;obtain⟨o,_,_,a,_⟩:=x;exact⟨o,a⟩;obtain⟨o,b,c,a,r⟩:=y;exact⟨o,b,c,k o a,r⟩
abbrev KG(τ:aU κ)(H:Hp):List (κ×V)->List (Z2 κ)->Prop:=Paired λp q=>p.1=q.1/\Is H (τ.tr p.1) (.ref q.2.1)/\yq p.2 q.2.2
theorem KG.val{kvs:List (κ×V)}{xs:List (Z2 κ)}(r:KG τ H kvs xs)(k:κ):Y3 (yz kvs k) ((atKey xs k).map (·.2)):=by
 induction r with|nil=>exact True.intro| @cons p q i a h t f=>
   obtain⟨d,_,g⟩:=h;by_cases e:p.1=k;have c:q.1=k:=by rw[<-d,e]
   have b:atKey (q::a) k=some q.2:=by simp[atKey,List.find?_cons,c]
   rw[wg e,b];exact g;have c:¬q.1=k:=λz=>e (d.trans z);have b:atKey (q::a) k=atKey a k:=by simp[atKey,List.find?_cons,c]
   rw[xu e,b];exact f
theorem KG.repl{kvs:List (κ×V)}{xs:List (Z2 κ)}(r:KG τ H kvs xs)(k:κ)(d:yq y u):KG τ H (kvs.map λb=>if b.1=k then(b.1,y)else b) (xs.map (putAt k u)):=by induction r with|nil=>exact .nil| @cons p q j i h t f=>rw[cb,cb];refine .cons ?_ f;obtain⟨a,c,g⟩:=h;unfold putAt;by_cases e:p.1=k;rw[if_pos e,if_pos (by rw[<-a,e])];exact⟨a,c,d⟩;rw[if_neg e,if_neg (λz=>e (a.trans z))];exact⟨a,c,g⟩
theorem KG.put{kvs:O (κ×V)}{xs:O (Z2 κ)}(r:KG τ H kvs xs)(k:κ)(d:Is H (τ.tr k) (.ref b))(a:yq y u):KG τ H (vi kvs k y) (storedH xs k b u):=by
 have e:(kvs.any λc=>decide (c.1=k))=(atKey xs k).isSome:=by rw[Zp,(r.val k).isSome_eq,Option.isSome_map]
 unfold vi storedH;rw[e];by_cases q:(atKey xs k).isSome=true;rw[if_pos q,if_pos q];exact r.repl k a;rw[if_neg q,if_neg q];exact Paired.snoc r ⟨J,d,a⟩
theorem KG.tups{H a:Hp}{kvs:O (κ×V)}{xs:O (Z2 κ)}(r:KG τ H kvs xs)(t:yw H a):KG τ a kvs xs:=Paired.mapP r λ_ _ z=>⟨z.1,z.2.1.tups t (τ.fro _),z.2.2⟩
inductive bP(τ:aU κ)(P:Program)(w:World)(H:Hp)(d:Addr)(kvs:List (κ×V)):Prop|mk:∀xs:List (Z2 κ),H d=some (.ext (Jt τ P w d xs))->(d==sysModules)=false->kvs.length<=sizeLine->(xs.map (·.1)).Nodup->KG τ H kvs xs->bP τ P w H d kvs
section
variable{H':Hp}{d:Addr}{kvs:List (κ×V)}
theorem bP.same(n:bP τ P w H d kvs)(s:zg H H'):bP τ P w H' d kvs:=by obtain⟨f,e,a,b,c,r⟩:=n;exact⟨f,s _ _ e,a,b,c,Paired.mapP r λ_ _ z=>⟨z.1,z.2.1.mono s,z.2.2⟩⟩
theorem bP.by(n:bP τ P w H d kvs)(t:yw H H')(e:H' d=H d):bP τ P w H' d kvs:=by obtain⟨f,g,a,b,c,r⟩:=n;exact⟨f,e.trans g,a,b,c,r.tups t⟩
theorem bP.tups{o:HO}(n:bP τ P w H d kvs):yw H (upd H d o):=by obtain⟨b,e,_⟩:=n;exact yw.upd e (λa z=>by cases z)
theorem bP.ne{a:O V}(n:bP τ P w H d kvs)(h:H b=some (.lst a)):b≠d:=λz=>by obtain⟨c,e,_⟩:=n;rw[z,e]at h;cases h
theorem bP.dict(i:cC P w H h)(n:bP τ P w H d kvs):(d==sysModules)=false/\∃xs,KG τ H kvs xs/\xs.length<=sizeLine/\h.DictOfH (qw (ya P w) τ.S) d xs:=by
 obtain⟨xs,e,a,b,c,r⟩:=n;obtain⟨⟨o,z,A,y,v,u,s⟩,_⟩:=(i d _ e)
 have D:=Paired.length r;refine⟨a,xs,r,by omega,o,z,A,y,v,u,s,?_,c⟩;have g:∀{l:O (κ×V)}{m:O (Z2 κ)},KG τ H l m->∀x∈m,(qw (ya P w) τ.S).is h x.1 x.2.1:=by intro l m q;induction q with|nil=>intro x f;exact nomatch f| @cons p q C B j t k=>intro x f;rcases az.mp f with e|f;subst e;rw[<-j.1];exact τ.of i j.2.1;exact k x f
 exact g r
end
inductive jZ(τ:aU κ)(P:Program)(w:World)(f:Bool->Bool)(Q:VK)(y x:V)(H2:Hp):Prop|mk:∀d b kvs k,x=.ref d->y=.ref b->bP τ P w H2 d kvs->Is H2 (τ.tr k) (.ref b)->Q (.bl (f (yz kvs k).isSome)) H2->jZ τ P w f Q y x H2
def vO(τ:aU κ)(P:Program)(w:World)(f:Bool->Bool)(B U:TE):TE:=λσ H Q=>B σ H λy H1=>U σ H1 λx H2=>jZ τ P w f Q y x H2
inductive gF(τ:aU κ)(P:Program)(w:World)(Q:VK)(x y:V)(H2:Hp):Prop|mk:∀d b kvs k v,x=.ref d->y=.ref b->bP τ P w H2 d kvs->Is H2 (τ.tr k) (.ref b)->yz kvs k=some v->Q v H2->gF τ P w Q x y H2
def C9(τ:aU κ)(P:Program)(w:World)(U B:TE):TE:=λσ H Q=>U σ H λx H1=>B σ H1 λy H2=>gF τ P w Q x y H2
inductive gX(τ:aU κ)(P:Program)(w:World)(D:Ends)(σ:St)(v x y:V)(H3:Hp):Prop|mk:∀d b kvs k,x=.ref d->y=.ref b->bP τ P w H3 d kvs->Is H3 (τ.tr k) (.ref b)->kvs.length<sizeLine->(∀o,bP τ P w (upd H3 d o) d (vi kvs k v)->D.nx σ (upd H3 d o))->gX τ P w D σ v x y H3
def C2(τ:aU κ)(P:Program)(w:World)(Z B U:TE):TS:=λD σ H=>U σ H λv H1=>Z σ H1 λx H2=>B σ H2 λy H3=>gX τ P w D σ v x y H3
def Da(τ:aU κ)(P:Program)(w:World):TE:=λ_ H Q=>∀p o,H p=none->bP τ P w (upd H p o) p []->Q (.ref p) (upd H p o)
def Fl(τ:aU κ)(P:Program)(w:World)(U B:TE):TE:=λσ H Q=>∀p o,H p=none->bP τ P w (upd H p o) p []->U σ (upd H p o) λx H1=>B σ H1 λy H2=>∃b k,x=.ref b/\Is H2 (τ.tr k) (.ref b)/\bP τ P w H2 p []/\∀o',bP τ P w (upd H2 p o') p [(k,y)]->Q (.ref p) (upd H2 p o')
section
variable{o i aY:Expr}{cK dD:Pos}{ty tv:TE}
theorem Ws(a:A.units+3<cLine):(qw (ya P w) τ.S).room A.in1:=by show A.in1.units+2<cLine;omega
theorem DY(w:X.A.units+3<cLine)(A:PE X i ty)(z:PE X o td):PC X .In i o (vO τ X.prog X.w id ty td):=by intro a s g H Q I h;refine aF (A a s g H _ I h) λt j ⟨y,K,F,l,r⟩=>aF (z a j g K _ F r) λu M ⟨x,G,f,m,d,b,e,k,D,C,n,v,p⟩=>?_;subst D C;obtain rfl:u=Value.ref d:=m;obtain rfl:t=Value.ref b:=l;obtain⟨B,L,c,_,E⟩:=n.dict f.hok;refine wpAny_in_heap (Ws w) (τ.of f.hok v) B E ?_;have q:=(c.val k).isSome_eq;rw[Option.isSome_map]at q;rw[<-q];exact⟨.bl (yz e k).isSome,G,f.tok _,J,p⟩
theorem HW(w:X.A.units+3<cLine)(A:PE X i ty)(z:PE X o td):PC X .NotIn i o (vO τ X.prog X.w (!·) ty td):=by intro a s g H Q I h;refine aF (A a s g H _ I h) λt j ⟨y,K,F,l,r⟩=>aF (z a j g K _ F r) λu M ⟨x,G,f,m,d,b,e,k,D,C,n,v,p⟩=>?_;subst D C;obtain rfl:u=Value.ref d:=m;obtain rfl:t=Value.ref b:=l;obtain⟨B,L,c,_,E⟩:=n.dict f.hok;refine wpAny_notIn_heap (Ws w) (τ.of f.hok v) B E ?_;have q:=(c.val k).isSome_eq;rw[Option.isSome_map]at q;rw[<-q];exact⟨.bl (!(yz e k).isSome),G,f.tok _,J,p⟩
theorem Vz(E:X.A.units+3<cLine)(K:PE X o td)(L:PE X i ty)(F:rA i):PE X (.Subscript o i aD) (C9 τ X.prog X.w td ty):=by intro a s j H Q I h;refine zT PySem.F.slot_dict_getitem.lookup F (aF (K a s j H _ I h) λu q ⟨x,S,P,t,z⟩=>aF (L a q j S _ P z) λB Z ⟨y,R,g,r,d,b,A,k,v,N,M,n,C,l,w⟩=>?_);subst N M;obtain rfl:u=Value.ref d:=t;obtain rfl:B=Value.ref b:=r;obtain⟨hd,U,e,_,m⟩:=n.dict g.hok;obtain⟨W,D,c⟩:=Y3.some_of (by rw[<-l];exact e.val k);obtain⟨p,G,f⟩:=cm.mp D;refine⟨m.typeIs,wpAny_getItem_heap (Ws E) (τ.of g.hok C) m G ?_⟩;rw[f];exact⟨v,R,g.tok _,c,w⟩
theorem zI(M:X.A.units+3<cLine)(P:PE X o td)(R:PE X i ty)(L:PE X aY tv)(N:swapsWith aY (some (.Subscript o i cK)) aD.line X.env=pure false):PS X (.Assign [.Subscript o i cK] aY aD) (C2 τ X.prog X.w td ty tv):=by intro a s c H D I h;refine wpAny_Assign_Subscript (aF (L a s c H _ I h) λr z ⟨v,H1,I1,C,G⟩=>aF (P a z c H1 _ I1 G) λu w ⟨x,H2,I2,B,F⟩=>aF (R a w c H2 _ I2 F) λK s3 ⟨y,H3,l,A,d,b,f,k,ex,ey,n,m,hl,E⟩=>?_) N;subst ex ey;obtain rfl:u=Value.ref d:=B;obtain rfl:K=Value.ref b:=A;obtain⟨S,xs,e,hz,dd⟩:=n.dict l.hok;refine wpAny_setItem_heap (Ws M) (τ.of l.hok m) dd λh' j g=>?_;obtain⟨q,es,ep,p,h2,Z,W,_,U⟩:=j;obtain⟨t,e0,_⟩:=id n;have Q:=xy f k v;refine⟨c,_,Z8 l (by rw[e0];exact True.intro) g ⟨q,p⟩ (Jt.ok ⟨q,es,ep,p,h2,Z,W⟩),E _ ⟨_,zd,S,by omega,U,(e.put k m C).tups n.tups⟩⟩
theorem yU(h:Heap):Jt τ P w h.objs.size [] (h.push {cls:=.type "dict",data:=.dict #[]}):=⟨_,#[],0,bq _ J,⟨J,J,J⟩,J,J⟩
theorem Vy:PE X (.Dict [] [] aD) (Da τ X.prog X.w):=λa s b H Q I h=>wpAny_Dict_empty ⟨.ref s.heap.objs.size,_,I.laid (λ_ _ q=>au _ q) (ag _) (yU s.heap).ok,J,h _ _ (I.hok.fresh (ag _)) ⟨[],zd,beq_eq_false_iff_ne.mpr (ak (bf I.big)),bj _,List.nodup_nil,.nil⟩⟩
theorem HX{v:Expr}(hu:X.A.units+3<cLine)(he:PE X e te)(F:PE X v tv):PE X (.Dict [some e] [v] aD) (Fl τ X.prog X.w te tv):=by
 intro a s i H Q I q;have K:=I.hok.fresh (ag s.heap.objs.size);have c:(s.heap.objs.size==sysModules)=false:=beq_eq_false_iff_ne.mpr (ak (bf I.big));have I1:=I.laid (a:=s.heap.objs.size) (o:=.ext (Jt τ X.prog X.w s.heap.objs.size [])) (t':=s.toks) (λ_ _ q=>au _ q) (ag _) (yU s.heap).ok;rw[arm_eval_Dict];refine a4 (wpAny_standAt ?_);let t:Sem Value:=do let x<-eval v X.env;standAt aD;pure x
 show wpAny _ _ (dictDisplay ([(eval e X.env,t)].map λp=>(some p.1,p.2))) _ _ _;rw[dictDisplay_pairs _ (by simp) (by simp)];refine a4 ?_;unfold subDict;refine a4 (wpAny_alloc (a4 (wpAny_holding ?_)));rw[if_pos (by simp)];refine a4 (evalPairs_cons ?_);refine aF (he a _ i _ _ I1 (q _ _ K ⟨[],zd,c,bj _,List.nodup_nil,.nil⟩)) λu z ⟨x,H1,Z,B,E⟩=>?_;refine a4 (aF (F a z i H1 _ Z E) λw s2 ⟨y,H2,h,A,b,k,S,l,n,D⟩=>?_);subst S;obtain rfl:u=Value.ref b:=B;refine a4 (wpAny_standAt (a9 (evalPairs_nil ?_)));refine wpAny_holding ?_;rw[List.forIn_cons];obtain⟨L,r,C,_,f⟩:=n.dict h.hok;cases C;obtain⟨o,W,_⟩:=id n;refine a4 (a4 (a4 (wpAny_dictSet_heap (k:=k) (knd:=qw (ya X.prog X.w) τ.S) (show X.A.units+2<cLine by omega) (τ.of h.hok l) f (λh' g G=>a9 ?_) (by rw[List.length_nil];exact bj _))));dsimp only;rw[List.forIn_nil];refine a9 (a9 (a9 (a9 ?_)));obtain⟨j,U,d,m,R,P,N,_,M⟩:=g;refine⟨.ref s.heap.objs.size,_,Z8 h (by rw[W];exact True.intro) G ⟨j,m⟩ (Jt.ok (xs:=storedH [] k b w) ⟨j,U,d,m,R,P,N⟩),J,D _ ⟨_,zd,L,by show 1<=sizeLine;decide,M,?_⟩⟩;exact(KG.put (kvs:=[]) (xs:=[]) .nil k l A).tups n.tups
end
end
theorem Q3{b c:Type}(f:b->c):∀(l:List b)(j:Nat),(l.eraseIdx j).map f=(l.map f).eraseIdx j|[],_=>rfl|_::_,0=>rfl| a::l,j+1=>by show f a::(l.eraseIdx j).map f=f a::(l.map f).eraseIdx j;rw[Q3 f l j]
section
variable{K:Type}[DecidableEq K]{knd:HeapKind prog w K}
theorem Js{d:Y}{xs:O (K×Y×I)}{k:K}{dflt:I}(u:knd.room A)(b:knd.is s.heap k a)(D:s.heap.DictOfH knd d xs)(c:∀p,atKey xs k=some p->Q p.2 {s with toks:=s.toks+knd.draws k})
  (l:atKey xs k=none->∀h',h'.DictOfH knd d (storedH xs k a dflt)->Heap.SameBut d s.heap h'->Q dflt {s with heap:=h',toks:=s.toks+knd.draws k}) (C:xs.length<=sizeLine):
  wpAny (model prog w) A (dictSetDefault d (.ref a) dflt) Q E s:=by
 obtain⟨o,H,G,h,F,g,n,m,t⟩:=D;unfold dictSetDefault
 try with_reducible refine wpAny_holding ?_
 refine a4 (knd.pyHash u b ?_);refine a4 (wpAny_dictFind_heap u b h g n m t ?_ ?_);intro i;have q:=atKey_none_of_get i;refine a4 (wpAny_rule (a4 (wpAny_updateDictKeys (hz:=by have e:=size_of_entries n;omega) h g (a9 (l q _ ⟨_,_,G+1,Heap.get?_update_self _ h (Obj.isFreed_of_dict (Obj.data_mapDictKeys g _)),F.mapDictKeys _,Obj.data_mapDictKeys g _,?_,?_,?_⟩ (Heap.SameBut.update ..))))))
 rw[storedH_new q];simp[n,entryOfKey];rw[storedH_new q];intro x f;rcases c4.mp f with f|f;exact knd.keeps (m x f) h g (Heap.SameBut.update ..);rw[ai.mp f];exact knd.keeps b h g (Heap.SameBut.update ..);rw[storedH_new q,be,List.nodup_append];refine⟨t,by simp,λx f y B z=>?_⟩;have r:y=k:=by simpa using B
 exact not_mem_keys_of_get i (r▸z▸f);intro j p v;refine a4 (wpAny_dictEntries h g ?_);rw[entry_at n j,v];exact a4 (wpAny_rule (a9 (c p (atKey_of_get t v))))
theorem Ly{d:Y}{xs:O (K×Y×I)}{k:K}{Q:Option DictEntry->Shared->Prop}(t:knd.room A)(b:knd.is s.heap k a)(B:s.heap.DictOfH knd d xs)(f:atKey xs k=none->Q none {s with toks:=s.toks+knd.draws k})
  (c:∀j p,xs[j]?=some (k,p)->∀h',h'.DictOfH knd d (xs.eraseIdx j)->Heap.SameBut d s.heap h'->Q (some (entryOfKey knd (k,p))) {s with heap:=h',toks:=s.toks+knd.draws k}) (z:xs.length<=sizeLine):
  wpAny (model prog w) A (Builtin.Dict.takeOut d (.ref a)) Q E s:=by
 obtain⟨o,D,F,h,C,g,m,i,u⟩:=B;unfold Builtin.Dict.takeOut
 try with_reducible refine wpAny_holding ?_
 refine a4 (knd.pyHash t b ?_);refine a4 (wpAny_dictFind_heap t b h g m i u ?_ ?_);intro n;exact a9 (f (atKey_none_of_get n));intro j p r;refine a4 (wpAny_dictEntries h g ?_);rw[entry_at m j,r];refine a4 (wpAny_updateDictKeys (hz:=by have e:=size_of_entries m;omega) h g (a9 (c j p r _ ⟨_,_,F+1,Heap.get?_update_self _ h (Obj.isFreed_of_dict (Obj.data_mapDictKeys g _)),C.mapDictKeys _,Obj.data_mapDictKeys g _,?_,?_,?_⟩ (Heap.SameBut.update ..))))
 rw[Q3,<-m];obtain⟨l⟩:=D;have q:j<l.length:=by have H:=(cp.mp r).1;have v:=congrArg List.length m;rw[ae]at v;have G:l.length=xs.length:=v;omega
 simp[Array.eraseIdxIfInBounds_eq,q];intro x y;exact knd.keeps (i x (List.mem_of_mem_eraseIdx y)) h g (Heap.SameBut.update ..);rw[Q3];exact u.sublist (List.eraseIdx_sublist ..)
end
section
variable{κ:Type}[DecidableEq κ]{τ:aU κ}
theorem KG.erase {kvs:List (κ×V)} {xs:List (Z2 κ)} (r:KG τ H kvs xs) (u:(xs.map (·.1)).Nodup) {j:Nat} {k:κ} {p:Addr×Value} (f:xs[j]?=some (k,p)):KG τ H (mO kvs k) (xs.eraseIdx j):=by
 induction r generalizing j with
 |nil=>rw[List.getElem?_nil]at f;cases f
 | @cons a q y n h t s=>
   have d:=c9.mp u;unfold mO;rw[List.filter_cons];cases j with
   | zero=>
     rw [List.getElem?_cons_zero]at f;cases f;have e:=h.1;rw[if_neg (by simp[e])];have keep:∀{l:List (κ×V)} {m:List (Z2 κ)},KG τ H l m->k ∉ m.map (·.1)->(l.filter λo=>decide (o.1≠k))=l:=by
      intro l m q;induction q with
      |nil=>exact λ_=>rfl
      | @cons b c B A w x g=>intro hk;have i:b.1≠k:=λz=>hk (az.mpr (.inl (z.symm.trans w.1)));rw[List.filter_cons,if_pos (by simp[i]),g λz=>hk (bv _ z)]
     rw[keep t d.1];exact t
   | succ j=>
     rw[List.getElem?_cons_succ]at f;have i:a.1≠k:=λz=>by have v:k∈n.map (·.1):=List.mem_map_of_mem (br f);exact d.1 (by show q.1∈_;rw[<-h.1,z];exact v)
     rw[if_pos (by simp[i])];exact .cons h (s d.2 f)
theorem bP.typ{d:Y}{kvs:O (κ×V)}(b:cC P w H h)(n:bP τ P w H d kvs):∃o,h.get? d=some o/\o.cls=.type "dict"/\o.dict=none:=by obtain⟨_,e,_,_,o,f,g,c,a,_⟩:=n.dict b;exact⟨o,c,a.1,a.2.1⟩
inductive fr(τ:aU κ)(P:Program)(w:World)(Q:VK)(d:Addr)(y z:V)(H3:Hp):Prop|mk:∀b kvs k,y=.ref b->bP τ P w H3 d kvs->Is H3 (τ.tr k) (.ref b)->(∀v,yz kvs k=some v->∀o,bP τ P w (upd H3 d o) d (mO kvs k)->Q v (upd H3 d o))->(yz kvs k=none->Q z H3)->fr τ P w Q d y z H3
inductive eJ(τ:aU κ)(P:Program)(w:World)(ty tx:TE)(σ:St)(Q:VK)(x:V)(H1:Hp):Prop|mk:∀d kvs0,x=.ref d->bP τ P w H1 d kvs0->(ty σ H1 λy H2=>tx σ H2 λz H3=>fr τ P w Q d y z H3)->eJ τ P w ty tx σ Q x H1
def Ea(τ:aU κ)(P:Program)(w:World)(Z B U:TE):TE:=λσ H Q=>Z σ H λx H1=>eJ τ P w B U σ Q x H1
variable{o f:Expr}{ty tx:TE}
theorem Gg(hu:X.A.units+4<cLine)(ho:PE X o td)(he:PE X e ty)(hf:PE X f tx)(m:M2 X o "pop" apos e f cpos):PE X (.Call (.Attribute o "pop" apos) [e,f] [] cpos) (Ea τ X.prog X.w td ty tx):=by
 intro g s B H Q I h;refine wpAny_Call_method m.base m.few m.line PySem.F.plainAttrs_dict PySem.F.slot_dict_pop PySem.F.type_dict_pop (aF (ho g s B H _ I h) λu s1 ⟨x,H1,I1,rx,d,W,ex,n0,q1⟩=>?_);subst ex;obtain rfl:u=Value.ref d:=rx;obtain⟨U,N,t1,t2⟩:=n0.typ I1.hok;refine⟨⟨U,N,t1⟩,λb q=>by cases q;exact⟨U,N,t2⟩,?_⟩;rw[m.trees];refine Calls.callWith_builtin J (Calls.evalArgs_plain (Calls.spliced_cons (aF (he g s1 B H1 _ I1 q1) λiv s2 ⟨y,H2,I2,ry,q2⟩=>Calls.spliced_cons (aF (hf g s2 B H2 _ I2 q2) λfv s3 ⟨z,H3,w,P,b,i,k,ey,n,ik,q3,R⟩=>Calls.spliced_nil ?_))))
 subst ey;obtain rfl:iv=Value.ref b:=ry;obtain⟨F,M,r,hz,A⟩:=n.dict w.hok;refine cr PySem.F.slot_dict_pop A.typeIs PySem.F.entry_dict_pop ?_ (PySem.F.args_dict_pop_3 _ _ _);unfold Builtin.«dict.pop»;refine a4 ?_;unfold Builtin.Dict.keyAndDefault;refine a4 (wpAny_notOrdered_dict A.typeIs ?_);refine a9 ?_;obtain⟨o1,es,ep,C,aq,E,D,ap,hn⟩:=id A;have a:atKey M k=none->yz i k=none:=λl=>by have q:=(r.val k).isSome_eq;rw[l]at q;cases c:yz i k with|none=>rfl|some p=>rw[c]at q;cases q
 dsimp only;rw[if_neg (by exact bu)];refine a4 (wpAny_dictEntries C E (a4 (a9 ?_)));by_cases em:es.isEmpty=true;rw[if_pos em];refine a4 (wpAny_rule (a4 (a9 ?_)));have x0:M=[]:=by
  have h1:=size_of_entries D;have h2:es.size=0:=by simpa using em
  exact List.length_eq_zero_iff.mp (by omega)
 rw[if_pos (show none.isNone=true from rfl)];refine a4 (wpAny_missedRemoval_other F ?_);exact a4 (wpAny_rule (a9 ⟨fv,J,z,H3,w,P,R (a (by rw[x0];rfl))⟩));rw[if_neg em];refine a4 (Ly (Ws (by omega)) (τ.of w.hok ik) A (λl=>?_) (λj p hj h' L hs=>?_) hz);rw[if_pos (show none.isNone=true from rfl)];refine a4 (wpAny_missedRemoval_other F ?_);exact a4 (wpAny_rule (a9 ⟨fv,J,z,H3,w.tok _,P,R (a l)⟩));rw[if_neg (show¬(some (entryOfKey _ (k,p))).isNone=true from bu)];have hv:=atKey_of_get hn hj;have t:=r.val k;rw[hv]at t;obtain⟨S,G,K,Z,h2,h3,h4,_,h5⟩:=L;obtain⟨aa,e0,_⟩:=id n;cases c:yz i k with|none=>rw[c]at t;exact t.elim| some v=>rw[c]at t;have ah:=FV i k;refine a4 (wpAny_letGo (a9 ⟨p.2,J,v,_,Z8 w (by rw[e0];exact True.intro) hs ⟨S,Z⟩ (Jt.ok ⟨S,G,K,Z,h2,h3,h4⟩),t,q3 v c _ ⟨_,zd,F,by omega,h5,(r.erase hn hj).tups n.tups⟩⟩))
end
section
variable{κ:Type}[DecidableEq κ]{τ:aU κ}
inductive fq(τ:aU κ)(P:Program)(w:World)(Q:VK)(d:Addr)(y z:V)(H3:Hp):Prop|mk:∀b kvs k,y=.ref b->bP τ P w H3 d kvs->Is H3 (τ.tr k) (.ref b)->kvs.length<sizeLine->(∀v,yz kvs k=some v->Q v H3)->(yz kvs k=none->∀o,bP τ P w (upd H3 d o) d (vi kvs k z)->Q z (upd H3 d o))->fq τ P w Q d y z H3
inductive eI(τ:aU κ)(P:Program)(w:World)(ty tx:TE)(σ:St)(Q:VK)(x:V)(H1:Hp):Prop|mk:∀d kvs0,x=.ref d->bP τ P w H1 d kvs0->(ty σ H1 λy H2=>tx σ H2 λz H3=>fq τ P w Q d y z H3)->eI τ P w ty tx σ Q x H1
def Eb(τ:aU κ)(P:Program)(w:World)(Z B U:TE):TE:=λσ H Q=>Z σ H λx H1=>eI τ P w B U σ Q x H1
variable{o f:Expr}{ty tx:TE}
theorem Gh(hu:X.A.units+4<cLine)(ho:PE X o td)(he:PE X e ty)(hf:PE X f tx)(m:M2 X o "setdefault" apos e f cpos):PE X (.Call (.Attribute o "setdefault" apos) [e,f] [] cpos) (Eb τ X.prog X.w td ty tx):=by
 intro a s r H Q I h;refine wpAny_Call_method m.base m.few m.line PySem.F.plainAttrs_dict PySem.F.slot_dict_setdefault PySem.F.type_dict_setdefault (aF (ho a s r H _ I h) λu s1 ⟨x,H1,R,rx,d,K,ex,n0,q1⟩=>?_);subst ex;obtain rfl:u=Value.ref d:=rx;obtain⟨G,D,W,U⟩:=n0.typ R.hok;refine⟨⟨G,D,W⟩,λb q=>by cases q;exact⟨G,D,U⟩,?_⟩;rw[m.trees];refine Calls.callWith_builtin J (Calls.evalArgs_plain (Calls.spliced_cons (aF (he a s1 r H1 _ R q1) λiv s2 ⟨y,H2,I2,ry,q2⟩=>Calls.spliced_cons (aF (hf a s2 r H2 _ I2 q2) λP Z ⟨z,H3,l,E,b,i,k,ey,n,L,hl,q3,q4⟩=>Calls.spliced_nil ?_))))
 subst ey;obtain rfl:iv=Value.ref b:=ry;obtain⟨N,xs,j,hz,C⟩:=n.dict l.hok;refine cr PySem.F.slot_dict_setdefault C.typeIs PySem.F.entry_dict_setdefault ?_ (PySem.F.args_dict_setdefault_3 _ _ _);unfold Builtin.«dict.setdefault»;refine a4 ?_;unfold Builtin.Dict.keyAndDefault;refine a4 (wpAny_notOrdered_dict C.typeIs ?_);refine a9 ?_;show wpAny _ _ (if(d==sysModules)=true then _ else(dictSetDefault d (.ref b) P>>=_)) _ _ Z;rw[if_neg (by rw[N];exact bu)];have g:=j.val k;refine a4 (Js (Ws (by omega)) (τ.of l.hok L) C (λp hp=>?_) (λt h' B hs=>?_) hz);rw[hp]at g;cases c:yz i k with|none=>rw[c]at g;exact g.elim| some v=>rw[c]at g;exact a9 ⟨p.2,J,v,H3,l.tok _,g,q3 v c⟩
 rw[t]at g;cases c:yz i k with|some v=>rw[c]at g;exact g.elim| none=>obtain⟨F,w,A,M,h2,h3,h4,_,h5⟩:=B;obtain⟨S,e0,_⟩:=id n;have aa:=xy i k z;exact a9 ⟨P,J,z,_,Z8 l (by rw[e0];exact True.intro) hs ⟨F,M⟩ (Jt.ok ⟨F,w,A,M,h2,h3,h4⟩),E,q4 c _ ⟨_,zd,N,by omega,h5,(j.put k L E).tups n.tups⟩⟩
end
section
theorem zA{i:Int}{v:V}(a:Is H (.int i) v)(r:yq v u):dZ (ya P w) h (.inr (.inl i)) u:=by cases(a);exact Xm r
theorem EH{x:Str}{v:V}(a:Is H (.str x) v)(r:yq v u):dZ (ya P w) h (.inr (.inr x)) u:=by cases(a);exact Xm r
theorem E8(d:cC P w H h){g:O Int}{v:V}(a:Is H (tI g) v)(r:yq v u):dZ (ya P w) h (.inl (kI g)) u:=by obtain⟨b,f,rfl,c,e⟩:=a;rw[IsL.ints.mp e,<-Wg]at c;cases(r);exact⟨b,J,Y0 d c⟩
theorem Ac(l:cC P w H h){c b:T}{f d:cO aM}(i:Is H (.tup [c,b]) (.ref a))(y:∀v u,Is H c v->yq v u->dZ (ya P w) h f u)(x:∀v u,Is H b v->yq v u->dZ (ya P w) h d u):Zi (ya P w) h [f,d] a:=by
 obtain⟨K,D,e,t,s⟩:=i;cases e;obtain⟨_,m,r,⟨o,B,A,n,z⟩,_⟩:=(l a _ t)
 obtain⟨G,E,rfl,q,F,g,rfl,p,C⟩:=s;cases(C);cases r with| cons k r=>cases r with| cons j r=>cases r;exact⟨o,_,n,B,A,z,by simpa using cB.cons (y _ _ q k) (.cons (x _ _ p j) .nil)⟩
end
noncomputable def mV:aU (Str×Int) where
 S := { f:=λp=>[.inr (.inr p.1),.inr (.inl p.2)]
        inj:=λa b e=>by
         injection e with e1 e2;injection e2 with e2 _;injection e1 with e1;injection e1 with e1;injection e2 with e2;injection e2 with e2;exact Prod.ext e1 e2
        one:=λ_ _=>rfl}
 tr:=λp=>.tup [.str p.1,.int p.2]
 fro:=λ_=>⟨trivial,trivial,trivial⟩
 of:=λok _ _ i=>Ac ok i (λ_ _=>EH) (λ_ _=>zA)
noncomputable def cN:aU (List Int×Int) where
 S := { f:=λp=>[.inl (kI p.1),.inr (.inl p.2)]
        inj:=λa b e=>by
         injection e with e1 e2;injection e2 with e2 _;injection e1 with e1;injection e2 with e2;injection e2 with e2;exact Prod.ext (aT e1) e2
        one:=λ_ _=>rfl}
 tr:=λp=>.tup [tI p.1,.int p.2]
 fro:=λp=>⟨uE p.1,trivial,trivial⟩
 of:=λok _ _ i=>Ac ok i (λ_ _=>E8 ok) (λ_ _=>zA)
section
variable{d it v:Addr}{ep i:Nat}{ok ov:Value}
theorem Ez(b:(d==sysModules)=false)(x:qz s.heap d es ep)(a:Q (.ref s.heap.objs.size) {s with heap:=s.heap.push {cls:=.type "dict_items",data:=.fields #[.ref d]}}):wpAny (model prog w) A (call (.builtin "dict.items") [.ref d]) Q E s:=by have hT:=x.ty;refine cr F.slot_dict_items hT F.entry_dict_items ?_ (F.args_dict_items_1 _);unfold Builtin.«dict.items»;refine a4 ?_;unfold Builtin.Dict.noArgs;refine a4 (wpAny_notOrdered_dict hT (a9 ?_));unfold Builtin.Dict.showsAll;rw[if_neg (by simp_all)];exact a4 (a9 (a4 (d8 (a9 ⟨_,J,a⟩))))
theorem Ew(b:s.heap.IsItemsView v d)(x:qz s.heap d es ep)(h:Q (.ref s.heap.objs.size) {s with heap:=s.heap.push {cls:=.type "dict_itemiterator",data:=.fields #[.none,.bool false,.ref d,.int 0 0,.int es.size 0,.int ep 0,.none,.none]}}):wpAny (model prog w) A (pyIter (.ref v)) Q E s:=by
 obtain⟨i,c,g,e⟩:=id b;obtain⟨o,f,j,a⟩:=id x;refine wpAny_pyIter_slot b.typeIs F.slot_dict_items_iter (cr F.slot_dict_items_iter b.typeIs F.entry_dict_items_iter ?_ (F.args_dict_items_iter_1 _));unfold Builtin.«dict_items.__iter__»;refine a4 (a9 (a4 ?_));unfold Builtin.Dict_items.dictOf;refine a4 (wpAny_field c e J (a9 (a4 ?_)));unfold Builtin.Dict_items.newIterator;refine a4 (wpAny_dictEntries f a (a4 (wpAny_dictEpoch f a ?_)));simp only[show Builtin.Dict_items.ownsTuple "dict_itemiterator"=true by rfl,if_true];refine d8 (a9 ⟨_,J,"dict_itemiterator",_,⟨_,bq _ J,J⟩,F.slot_dict_itemiterator_next.lookup,?_⟩)
  (by simp only[sizeOk,Builtin.Dict_items.ownedTupleFields,d5,c7,df,List.length_nil,sizeLine_eq];omega)
 simpa[rawInt,Builtin.Dict_items.ownedTupleFields]using h
theorem Ev{Q:Option I->Shared->Prop}(z:IsItemIter s.heap it d i es.size ep ok ov)(x:qz s.heap d es ep)(Z:i<es.size)(hQ:∀h',IsItemIterOut h' it d (i+1) es.size ep es[i].key es[i].val s.heap.objs.size->h'.get? s.heap.objs.size=some {cls:=.type "tuple",data:=.seq #[es[i].key,es[i].val]}->h'.objs.size=s.heap.objs.size+1-> (∀b o,b≠it->s.heap.get? b=some o->h'.get? b=some o)->Q (some (.ref s.heap.objs.size)) {s with heap:=h'}):wpAny (model prog w) A (pyNext (.ref it)) Q E s:=by
 obtain⟨K,g,P,N,os⟩:=s;obtain⟨od,L,aa,M⟩:=id x;have hT:Shared.TypeIs ⟨K,g,P,N,os⟩ (.ref it) "dict_itemiterator":=⟨_,z,J⟩
 unfold pyNext;refine a4 (wpAny_attempt (wpAny_callSpecial?_slot hT F.slot_dict_itemiterator_next (cr F.slot_dict_itemiterator_next hT F.entry_dict_itemiterator_next (a4 (a9 (a4 (a4 ?_)))) (F.args_dict_itemiterator_next_1 _))));first|refine a4 (wpAny_typeNameOfWhole_itemiter hT (a9 ?_))|refine a4 (wpAny_typeNameOf_itemiter hT (a9 ?_))
 refine a4 (wpAny_fieldsOf z J ?_);simp only[show Builtin.Dict_items.ownsTuple "dict_itemiterator"=true by rfl,if_true];show wpAny _ _ (if(Value.ref d==Value.none)=true then _ else _) _ _ _;rw[if_neg (show¬((Value.ref d==Value.none)=true)from bu)];refine a4 (a9 (a4 (wpAny_dictEntries L M ?_)));rw[if_neg (by simp)];refine a4 (a9 (a4 (wpAny_dictEpoch L M ?_)));rw[if_neg (by simp)];refine a9 ?_;simp only[(by omega),if_false,ci,ee Z];refine a4 ?_;first|refine a4 (wpAny_typeNameOfWhole_itemiter hT (a9 ?_))|refine a4 (wpAny_typeNameOf_itemiter hT (a9 ?_))
 refine a4 (wpAny_isOneOf_itemiter hT ?_);show wpAny _ _ (setField (.ref it) 3 (rawInt (i+1))>>=_) _ _ ⟨K,g,P,N,os⟩;refine a4 (wpAny_setField_rec z (by simp) λp f a=>?_);replace a:=a;replace f:IsItemIter p it d (i+1) es.size ep ok ov:=by
  have e:((i+1:Nat))=i+1:=by omega
  unfold IsItemIter;rw[e];simpa[rawInt]using f
 have v:Shared.TypeIs ⟨p,g,P,N,os⟩ (.ref it) "dict_itemiterator":=⟨_,f,J⟩
 refine a4 (wpAny_holding (a4 (wpAny_isOneOf_itemiter v (a4 (wpAny_isOneOf_itemiter v ?_)))));unfold Builtin.Dict_items.pairFromOwner;refine a4 (wpAny_newTuple ?_);have c:IsItemIter (p.push {cls:=.type "tuple",data:=.seq #[es[i].key,es[i].val]}) it d (i+1) es.size ep ok ov:=au _ f;generalize n:p.push {cls:=.type "tuple",data:=.seq #[es[i].key,es[i].val]}=y at c;have h:=a.1;have R:=dc (ax (z));have D:y.get? K.objs.size=some {cls:=.type "tuple",data:=.seq #[es[i].key,es[i].val]}:=by rw[<-n,<-h];exact bq _ J
 have C:y.objs.size=K.objs.size+1:=by rw[<-n,dy,h]
 have G:∀b o,b≠it->K.get? b=some o->y.get? b=some o:=λb o B e=>by rw[<-n];exact au _ (a.extBut b o B e)
 show wpAny _ _ (Builtin.Dict_items.ownedTupleIsFree (.ref it)>>=_) _ _ ⟨y,g,P,N,os⟩;rw[h];clear n f a v h p;refine a4 ?_;unfold Builtin.Dict_items.ownedTupleIsFree;refine a4 (wpAny_field c J J (a9 ?_));simp only[if_true];refine a4 (wpAny_field c J J (a4 (wpAny_field c J J ?_)));refine a4 (wpAny_setField_rec c (by simp) λX u m=>?_);replace u:=u;refine a4 (wpAny_setField_rec u (by simp) λW t l=>?_);replace t:=t;refine a4 (wpAny_setField_rec t (by simp) λU r k=>?_);replace r:=r;refine a4 (wpAny_setField_rec r (by simp) λH q j=>?_);replace q:=q;replace m:=m;replace l:=l;replace k:=k;replace j:=j;have S:=λb o B e=>j.extBut b o B (k.extBut b o B (l.extBut b o B (m.extBut b o B e)));refine a4 (wpAny_letGo (a9 (a9 ⟨_,J,a9 (hQ H q (S _ _ R D) ?_ λb o B e=>S b o B (G b o B e))⟩)));rw[j.1,k.1,l.1,m.1,C]
theorem Dx{Q:Option I->Shared->Prop}(hh:A.handled=none)(a:IsItemIter s.heap it d i es.size ep ok ov)(x:qz s.heap d es ep)(e:es.size<=i)(g:∀h',Heap.ExtBut it s.heap h'->Q none {s with heap:=h'}):wpAny (model prog w) A (pyNext (.ref it)) Q E s:=by
 obtain⟨h,b,f,c⟩:=id x;have hT:s.TypeIs (.ref it) "dict_itemiterator":=⟨_,a,J⟩
 unfold pyNext;refine a4 (wpAny_attempt (wpAny_callSpecial?_slot hT F.slot_dict_itemiterator_next (cr F.slot_dict_itemiterator_next hT F.entry_dict_itemiterator_next (a4 (a9 (a4 (a4 ?_)))) (F.args_dict_itemiterator_next_1 _))));first|refine a4 (wpAny_typeNameOfWhole_itemiter hT (a9 ?_))|refine a4 (wpAny_typeNameOf_itemiter hT (a9 ?_))
 refine a4 (wpAny_fieldsOf a J ?_);simp only[show Builtin.Dict_items.ownsTuple "dict_itemiterator"=true by rfl,if_true];show wpAny _ _ (if(Value.ref d==Value.none)=true then _ else _) _ _ s;rw[if_neg (show¬((Value.ref d==Value.none)=true)from bu)];refine a4 (a9 (a4 (wpAny_dictEntries b c ?_)));rw[if_neg (by simp)];refine a4 (a9 (a4 (wpAny_dictEpoch b c ?_)));rw[if_neg (by simp)];refine a9 ?_;simp only[(by omega),if_false,ci,Array.getElem?_eq_none e];refine a4 ?_;first|refine a4 (wpAny_typeNameOfWhole_itemiter hT (a9 ?_))|refine a4 (wpAny_typeNameOf_itemiter hT (a9 ?_))
 show wpAny _ _ (setField (.ref it) 2 .none>>=_) _ _ s;refine a4 (wpAny_setField a J (by simp) ?_);refine a4 ?_;simp only[newExc,newTuple];refine a4 (d8 (a4 (wpAny_of_eq (by rfl) (d8 ?_ (by size_fits)))) (by size_fits));simp only[raiseNew];refine a4 (wpAny_handled ?_);rw[(hh)];refine a4 (a9 (wpAny_throw ?_));refine a4 (de ⟨_,bq _ J,J⟩ isSubtype_stop ?_);exact a9 (g _ (((Heap.SameBut.update ..).extBut.push _).push _))
theorem Ey(a:IsItemIter s.heap it d i es.size ep ok ov)(h:Q (.ref it) s):wpAny (model prog w) A (pyIter (.ref it)) Q E s:=kcp_self a h
end
noncomputable def rg(d:Addr)(o:Obj)(kvs:List (List aM×V)):It:=⟨λi H=>H d=some (.frz o (.dT kvs))/\i<kvs.length,λi H v H'=>∃p b B,v=.ref p/\H p=none/\kvs[i]?=some B/\H b=some (.tup (B.1.map kV))/\H'=upd H p (.tup [.ref b,B.2]),λi H=>H d=some (.frz o (.dT kvs))/\kvs.length<=i⟩
theorem X6{d:Y}{kvs:O (O aM×V)}(u:cC P w H h)(e:H d=some (.frz o (.dT kvs))):(d==sysModules)=false/\h.get? d=some o/\o.ExactDict/\∃es ep,o.data=.dict es ep/\es.size=kvs.length/\∀i f,kvs[i]?=some f->∃(hi:i<es.size)(b:Y),es[i].key=.ref b/\H b=some (.tup (f.1.map kV))/\yq f.2 es[i].val:=by
 obtain⟨A,_⟩:=u d _ e;obtain⟨z,E,g,n,⟨F,es,ep,x,t,k,y,_,_⟩⟩:=Qb u (.inr ⟨o,e⟩);rw[A]at x;cases x;have C:=Paired.length n;have D:=size_of_entries y;refine⟨E,A,t,es,ep,k,by omega,λi f hk=>?_⟩;have hi:i<kvs.length:=by grind
 have j:i<es.size:=by omega
 have s:g[i]?=some g[i]:=bo (by omega);have v:f.1=g[i].1/\H g[i].2.1=some (.tup (f.1.map kV))/\yq f.2 g[i].2.2:=by
  have B:∀{l:O (O aM×V)}{m:O (O aM×Y×I)},KT H l m->∀{i:Nat}{p q},l[i]?=some p->m[i]?=some q->p.1=q.1/\H q.2.1=some (.tup (p.1.map kV))/\yq p.2 q.2.2:=by intro l m r;induction r with|nil=>simp| cons a _ G=>grind
  grind
 have c:=entry_at y i;rw[s,ee j]at c;have c:=Option.some.inj c;exact⟨j,g[i].2.1,by rw[c];rfl,v.2.1,by rw[c];exact v.2.2⟩
theorem JV{K:Frag}{k1}(d u:Y)(o:Obj)(kvs:O (O aM×V))(es:Array DictEntry)(ep:Nat)(j:o.data=.dict es ep):dI P w K (.Tuple eR k1 aD) (rg d o kvs) [u] u (λi h=>∃ok ov,IsItemIter h u d i es.size ep ok ov) where
 mem:=by simp
 obj:=λi h st b F=>by grind
 keep:=λi h h' ⟨ok,ov,st⟩ k=>⟨ok,ov,k u (by simp) _ st⟩
 item:=by
  intro X Z L hK x i t s σ H E I U st S;subst Z L hK;obtain⟨hH,R⟩:=S;obtain⟨ok,ov,st⟩:=st;obtain⟨hd,h0,v,ah,ap,a,M,B⟩:=X6 I.hok hH;rw[j]at a;cases a;obtain⟨Q,b,C,F,rv⟩:=B i kvs[i] (bo R);obtain⟨f0,G,f2,f3,f4,f5⟩:=U u (by simp);refine Ev st ⟨o,h0,v,j⟩ Q λg gi gT gz gk=>?_;refine⟨.ref s.heap.objs.size,J,wpAny_letOwnedTupleGo_items gi λg' aa p=>?_⟩;replace p:=p;have f:=I.hok.fresh (ag _);have A:=dc (ax st);have l:=λc o n e=>p.extBut c o n (gk c o n e);have W:=p.extBut _ _ A gT;have aq:∀c o,H c=some o->c≠u:=λc o e z=>by simp_all
  have I1:Inv X t σ (upd H s.heap.objs.size (.tup [.ref b,kvs[i].2])) {s with heap:=g',toks:=s.toks}:=by
   refine I.step (λc x=>by rw[ai.mp x];exact⟨f3,G,f4,f5⟩) (λc o n1 n2 y e _=>l c o (λz=>y (by grind)) e)
    (λc o n1 n2 y e _=>⟨o.slots,l c o (λz=>y (by grind)) e⟩) (λc o y e n=>by rw[upd_ne (bf (ax e))];exact n) (λc o y e=>⟨o,l c o (λz=>y (by grind)) e⟩)
    (λc zs e=>by rw[upd_ne (zm e f)];exact e) (λc o zs e=>by rw[upd_ne (zm e f)];exact e) (λc ps e=>⟨#[],by rw[upd_ne (zm e f),e];simp⟩) (λm hm=>?_) (λc ob e=>?_) I.bare
   obtain⟨o,es,ep,N,r⟩:=hm;exact⟨o,es,ep,l _ o (ak G) N,r⟩;by_cases D:c=s.heap.objs.size;subst D;rw[zd]at e;cases e;exact⟨by show 2<=sizeLine;rw[sizeLine_eq];omega,[es[i].key,es[i].val],.cons C (.cons rv .nil),⟨_,W,J,_,J⟩,λq hq=>by simp_all⟩
   rw[upd_ne D]at e;refine(I.hok c ob e).stay (λd o x q=>?_) (λd q=>by rw[upd_ne (zm q f)];exact q) λd zs q=>by rw[upd_ne (zm q f)];exact q
   grind
  exact⟨.ref s.heap.objs.size,_,I1,J,⟨_,b,_,J,f,bo R,F,J⟩,⟨_,_,aa⟩,λc x=>by rw[ai.mp x,upd_ne (ak A)];omega⟩
 done:=by intro X Z L hK x i t s σ H E I U st S;subst Z L hK;obtain⟨hH,R⟩:=S;obtain⟨ok,ov,st⟩:=st;obtain⟨hd,h0,v,ah,ap,a,M,_⟩:=X6 I.hok hH;rw[j]at a;cases a;obtain⟨f0,G,f2,f3,f4,f5⟩:=U u (by simp);exact Dx (I.ok.hd x) st ⟨o,h0,v,j⟩ (by omega) λh' eb=>⟨J,I.turned (λb o F e=>eb b o F e) f0 G f3 f4 f5⟩
 self:=λ_ _ _ _ _ ⟨ok,ov,st⟩ h=>Ey st h
section
variable{o:Expr}{dD:Pos}{k1:_}
inductive fE(R:It->Hp->Prop)(x:V)(H1:Hp):Prop|mk:∀d ob kvs,x=.ref d->H1 d=some (.frz ob (.dT kvs))->R (rg d ob kvs) H1->fE R x H1
def DD(to:TE):TI:=λσ H R=>to σ H λx H1=>fE R x H1
theorem Yh{to:TE}(C:PE X o to)(g:attributeBase o "items" X.env (eval o X.env)=eval o X.env:=by rfl)(f:(apos.endLine==cpos.line)=true:=by rfl):PI X (.Tuple eR k1 dD) (.Call (.Attribute o "items" apos) [] [] cpos) (DD to):=by
 intro j s y H R I h;refine wpAny_Call_method0_late g f (aF (C j s y H _ I h) λv i ⟨x,K,m,z,d,n,p,F,D,q⟩=>?_);subst F;cases z;obtain⟨B,w,l,r,t,c,A,_⟩:=X6 m.hok D;have u:qz i.heap d r t:=⟨n,w,l,c⟩
 refine⟨"dict","dict.items",PySem.F.plainAttrs_dict,PySem.F.slot_dict_items,PySem.F.type_dict_items,u.ty,λa e=>?_,Calls.callWith_builtin J (PySem.evalArgs_none (Ez B u ?_))⟩;cases e;exact⟨n,w,l.2.1⟩;refine Ew ⟨_,bq _ J,J,J⟩ (u.at λo e=>au _ e) ?_;have G:=m.kept (t':=i.toks) (h':=(i.heap.push {cls:=.type "dict_items",data:=.fields #[.ref d]}).push {cls:=.type "dict_itemiterator",data:=.fields #[.none,.bool false,.ref d,.int 0 0,.int r.size 0,.int t 0,.none,.none]}) λb o e=>au _ (au _ e);have k:i.heap.objs.size<=(i.heap.push {cls:=.type "dict_items",data:=.fields #[.ref d]}).objs.size:=by simp
 refine⟨_,[(i.heap.push {cls:=.type "dict_items",data:=.fields #[.ref d]}).objs.size],_,_,K,J,G,JV d _ n p r t c,⟨_,_,bq _ J⟩,λb E=>?_,q⟩;rw[ai.mp E];exact m.fpOk k (m.hok.fresh k)
end
theorem Q9{d:Y}{kvs:O (O aM×V)}(Pv:Nat->St->Hp->Prop)(h0:Pv 0 σ H)(hl:∀i σ H,i<=kvs.length->Pv i σ H->H d=some (.frz o (.dT kvs)))(t:∀i c σ H,kvs[i]?=some c->Pv i σ H->∀p b,H p=none->H b=some (.tup (c.1.map kV))->g (.ref p) σ (upd H p (.tup [.ref b,c.2])) λf H2=>tb (D.lp (Pv (i+1))) f H2) (n:∀σ H,Pv kvs.length σ H->D.nx σ H):
  cG g tb D σ (rg d o kvs) H:=by
 refine⟨λi m σ H=>m=kvs.length-i/\i<=kvs.length/\Pv i σ H,⟨kvs.length,by simp,bj _,h0⟩,?_⟩;rintro i m σ H ⟨rfl,l,p⟩;have q:=hl i σ H l p;by_cases a:i<kvs.length;refine .inr ⟨⟨q,a⟩,Pv (i+1),λh r j=>⟨kvs.length-(i+1),by omega,J,a,j⟩,λx r y=>?_⟩;obtain⟨s,b,c,rfl,k,hk,u,rfl⟩:=y
 grind
 have e:i=kvs.length:=by omega
 subst e;exact .inl ⟨⟨q,ag _⟩,n σ H p⟩
noncomputable def iN(rows:List (List Int×V))(kvs:List (List aM×V)):List (List aM×V):=rows.foldl (λB r=>vi B (kI r.1) r.2) kvs
inductive hV(as:List V)(H:Hp)(Q:VK):Prop|mk:∀(p:Addr)(bs:List Addr)(rows:List (List Int×V)),as=[.ref p]->H p=some (.lst (bs.map V.ref))->Paired (dJ H) bs rows->(∀d H',zg H H'->H d=none->H' d=some (.dT (iN rows []))->Q (.ref d) H')->hV as H Q
theorem Bl{H:Hp}:∀{rows:List (List Int×V)}{d:List Jw}{kvs:List (List aM×V)}{xs:List Jw},Paired (λ(r:List Int×V) (q:Jw)=>kI r.1=q.1/\H q.2.1=some (.tup (q.1.map kV))/\yq r.2 q.2.2) rows d->KT H kvs xs->
  KT H (iN rows kvs) (xL xs d)/\(iN rows kvs).length<=kvs.length+rows.length
 |_,_,kvs,_,.nil,r=>⟨r,ag _⟩
 | r::rows,q::d,kvs,xs,.cons h t,f=>by
   obtain⟨g,j,i⟩:=h;have b:=f.put q.1 j i;rw[<-g]at b;obtain⟨a,c⟩:=Bl t b;have e:storedH xs (kI r.1) q.2.1 q.2.2=storedH xs q.1 q.2.1 q.2.2:=by rw[g]
   rw[e]at a;refine⟨a,cj c ?_⟩;have:=xy kvs (kI r.1) r.2
   grind
section
theorem Bu(hc:X.calm=true)(hu:X.A.units+8<cLine):jp X (.type "dict") hV:=by
 intro aa s σ H as us Q I r h;obtain⟨p,F,k,rfl,hp,U,q⟩:=h;obtain⟨u,rfl,rx⟩:=jz r;cases(rx);obtain⟨hz,f,n,rv,h1⟩:=(I.hok p _ hp)
 have hh:=I.ok.hd hc;obtain⟨rh,av,z,l⟩:=wF I U;have R:f.length=F.length:=by have:=rv.length;simp_all
 have aq:F.length<=sizeLine:=by simp_all
 refine callType_codes (Q₁:=λw i=>w=.ref s.heap.objs.size/\i={s with heap:=s.heap.push {cls:=.type "dict",data:=.dict #[]}}) PySem.F.kt_called_dict (PySem.F.kt_typeCall_dict_1 _) PySem.F.entry_dict_init (kt_code_dict_new _ ⟨J,J⟩) ?_;rintro w i ⟨rfl,rfl⟩;have c:(s.heap.push {cls:=.type "dict",data:=.dict #[]}).DictOfH (tupleKind (ya X.prog X.w)) s.heap.objs.size []:=Heap.DictOfH.new s.heap;have E:=c.typeIs (s:={s with heap:=s.heap.push {cls:=.type "dict",data:=.dict #[]}});have t:(s.heap.push {cls:=.type "dict",data:=.dict #[]}).get? p=some {cls:=.type "list",dict:=none,data:=.seq f.toArray n,slots:=#[]}:=au _ h1;have D:=ax h1;refine⟨E,PySem.F.args_dict_init_2 _ _,?_⟩;unfold Builtin.«dict.__init__»;refine a4 ?_;unfold Builtin.Dict.selfAndRest;refine a4 (wpAny_notOrdered_dict E (a9 ?_));show wpAny _ _ (Builtin.Dict.updateFrom "dict.__init__" s.heap.objs.size (.ref p) [] .none) _ _ _;unfold Builtin.Dict.updateFrom;refine a4 (wpAny_typeOf ⟨_,t,J⟩ ?_);rw[if_pos (by rfl)];refine a4 (BL t hh λg tk hk=>?_);simp only[Option.isNone_none,if_true];refine a4 (wpAny_rule ?_);have y:g.IsList p f.toArray:=⟨_,hk _ _ t,J,n,J⟩
 refine a4 (wpAny_pyIter_list y (a9 ⟨plainId_quiet qu _,?_⟩));have d:s.heap.objs.size+1<=g.objs.size:=by obtain⟨o,G,K,C,_⟩:=c;exact ax (hk _ _ C)
 have S:(g.push {cls:=.type "list_iterator",data:=.fields #[.ref p,.int 0 0]}).DictOfH (tupleKind (ya X.prog X.w)) s.heap.objs.size []:=by obtain⟨o,G,K,C,a1,a2,Z,_,W⟩:=c;exact⟨o,G,K,au _ (hk _ _ C),a1,a2,Z,(λx hx=>by grind),W⟩
 have L:∀b o,s.heap.get? b=some o->(g.push {cls:=.type "list_iterator",data:=.fields #[.ref p,.int 0 0]}).get? b=some o:=λb o e=>au _ (hk _ _ (au _ e));refine Hl (A:=X.A.in1) (rows:=rh) (by grind) hh (bf (Nat.lt_of_succ_le d)) (bf (Nat.lt_trans D (Nat.lt_of_succ_le d))) (bf D) (by simp_all) (by omega) rh.length 0 _ [] (by omega) (bj _) (ag _)
  ⟨_,bq _ J,J,J⟩ (y.push _) S (λj v r N hr=>?_) λh' ap hD hK=>?_
 have N:f[j]?=some v:=by simp_all
 have hj:j<F.length:=by grind
 obtain⟨u,P,ru⟩:=rv.get (by rw[aj,bo hj];rfl);rw[P]at N;cases N;cases(ru);obtain⟨⟨ob,B,rr⟩,⟨ok,aC,m,A,rk⟩⟩:=l j F[j] r (bo hj) hr;have l1:=ax B;have l2:=ax A;exact⟨F[j],J,bf l1,bf (Nat.lt_trans l1 (Nat.lt_of_succ_le d)),bf l2,bf (Nat.lt_trans l2 (Nat.lt_of_succ_le d)),⟨ob,L _ _ B,rr⟩,⟨ok,aC,m,L _ _ A,rk⟩⟩;refine⟨J,?_⟩;have keep:=λb o e=>hK b o (bf (ax e)) (bf (Nat.lt_trans (ax e) (Nat.lt_of_succ_le d))) (L b o e);obtain⟨M,ah⟩:=Bl z .nil;have aw:=Paired.length z;have a:=I.hok.fresh (ag s.heap.objs.size);have sm:=zg.new a (.dT (iN k []));obtain⟨_,zz,_⟩:=Ak (P:=X.prog) (w:=X.w) (H:=H) s.heap I.big;obtain⟨o,G,K,C,a1,a2,Z,_,W⟩:=hD;refine⟨.ref s.heap.objs.size,_,I.laid (o:=.dT (iN k [])) keep (ag _) ⟨?_,zz,_,M.keeps λb ys e=>sm _ _ e,o,G,K,C,a1,a2,Z,W⟩,J,q _ _ sm a zd⟩
 grind
end
section
variable{d:Addr}{kvs:List (List aM×V)}{k:Nat}{Q:VK}
theorem uo(Pv:Nat->O V->Hp->Prop)(h0:Pv 0 [] H)(hl:∀i ys H,i<=kvs.length->Pv i ys H->H d=some (.frz o (.dT kvs))/\ys.length<=sizeLine)(z:∀i f ys H,kvs[i]?=some f->Pv i ys H->∀p b,H p=none->H b=some (.tup (f.1.map kV))->g (.ref p) (bS k cap σ) (upd H p (.tup [.ref b,f.2])) λa H2=>tc a H2 λb j=>if b=true then te a j λy u=>Pv (i+1) (ys++[y]) u else Pv (i+1) ys j)
  (t:∀ys H,Pv kvs.length ys H->∀p,H p=none->Q (.ref p) (upd H p (.lst ys))):bZ (rg d o kvs) g tc te k cap σ H Q:=by
 refine⟨λi m ys H=>m=kvs.length-i/\i<=kvs.length/\Pv i ys H,⟨kvs.length,by simp,bj _,h0⟩,?_⟩;rintro i m ys H ⟨rfl,s,p⟩;obtain⟨q,h⟩:=hl i ys H s p;by_cases c:i<kvs.length;refine .inr ⟨⟨q,c⟩,h,Pv (i+1),λl v n=>⟨kvs.length-(i+1),by omega,J,c,n⟩,λx v y=>?_⟩;obtain⟨w,b,f,rfl,r,hk,A,rfl⟩:=y
 grind
 have e:i=kvs.length:=by omega
 subst e;exact .inl ⟨⟨q,ag _⟩,h,t ys H p⟩
end
noncomputable def pC(d:Addr)(o:Obj)(kvs:List (List aM×V)):It:=⟨λi H=>H d=some (.frz o (.dT kvs))/\i<kvs.length,λi H v H'=>H'=H/\∃b B,v=.ref b/\kvs[i]?=some B/\H b=some (.tup (B.1.map kV)),λi H=>H d=some (.frz o (.dT kvs))/\kvs.length<=i⟩
theorem JW{K:Frag}(d j:Y)(o:Obj)(kvs:O (O aM×V))(es:Array DictEntry)(ep:Nat)(f:o.data=.dict es ep):dI P w K tg (pC d o kvs) [j] j (λi h=>h.IsKeyIter j d i es.size ep) where
 mem:=by simp
 obj:=λi h st b g=>by
  have e:b=j:=by simpa using g
  subst e;obtain⟨o,e,c,dd⟩:=st;exact⟨o,e,λv z=>by rw[dd]at z;cases z⟩
 keep:=λi h W st k=>st.at λo e=>k j (by simp) o e
 item:=by intro X B t C U i n s Z H E I r st A;subst B t C;obtain⟨D,y⟩:=A;obtain⟨hd,F,l,R,S,a,u,p⟩:=X6 I.hok D;rw[f]at a;cases a;obtain⟨x,b,q,g,rv⟩:=p i kvs[i] (bo y);obtain⟨Q,N,f2,M,L,G⟩:=r j (by simp);refine Am st ⟨o,F,l,f⟩ x λW m sb=>?_;have I1:=I.turned (t':=s.toks) (λb o g e=>(sb.2 b g).trans e) Q N M L G;obtain⟨o1,e1,c1,d1⟩:=id m;exact⟨es[i].key,J,dS e1 c1 d1 (by decide) ⟨.ref b,H,I1,q,⟨J,b,_,J,bo y,g⟩,m,λb g=>(r b g).1⟩⟩
 done:=by intro X B t C U i n s Z H E I r st A;subst B t C;obtain⟨D,y⟩:=A;obtain⟨hd,F,l,R,S,a,u,_⟩:=X6 I.hok D;rw[f]at a;cases a;obtain⟨Q,N,f2,M,L,G⟩:=r j (by simp);exact yP (I.ok.hd U) st ⟨o,F,l,f⟩ (by omega) λW eb=>⟨J,I.turned (λb o g e=>eb b o g e) Q N M L G⟩
 self:=λ_ _ _ _ _ st h=>wpAny_pyIter_keyiter st h
section
inductive fD(R:It->Hp->Prop)(v:V)(H1:Hp):Prop|mk:∀d o kvs,v=.ref d->H1 d=some (.frz o (.dT kvs))->R (pC d o kvs) H1->fD R v H1
def DE(B:TE):TI:=λσ H R=>B σ H λv H1=>fD R v H1
theorem Vw{l:Expr}{k:TE}(hl:PE X l k):PI X tg l (DE k):=by
 intro c s m H R I h;refine aF (hl c s m H _ I h) λv g ⟨x,B,f,n,d,o,i,y,t,q⟩=>?_;subst y;cases n;obtain⟨r,w,j,z,A,a,p,_⟩:=X6 f.hok t;refine Al r ⟨o,w,j,a⟩ ?_;refine⟨g.heap.objs.size,[g.heap.objs.size],_,_,B,J,f.kept λb o e=>au _ e,JW d _ o i z A a,⟨_,bq _ J,J,J⟩,λb u=>?_,q⟩;have e:b=g.heap.objs.size:=by simpa using u
 subst e;exact f.fpOk (ag _) (f.hok.fresh (ag _))
end
theorem Hs{d:Y}{kvs:O (O aM×V)}(Pv:Nat->St->Hp->Prop)(h0:Pv 0 σ H)(hl:∀i σ H,i<=kvs.length->Pv i σ H->H d=some (.frz o (.dT kvs)))(k:∀i c σ H b,kvs[i]?=some c->Pv i σ H->H b=some (.tup (c.1.map kV))->g (.ref b) σ H λf H2=>tb (D.lp (Pv (i+1))) f H2) (n:∀σ H,Pv kvs.length σ H->D.nx σ H):
  cG g tb D σ (pC d o kvs) H:=by
 refine⟨λi m σ H=>m=kvs.length-i/\i<=kvs.length/\Pv i σ H,⟨kvs.length,by simp,bj _,h0⟩,?_⟩;rintro i m σ H ⟨rfl,l,p⟩;have q:=hl i σ H l p;by_cases a:i<kvs.length;refine .inr ⟨⟨q,a⟩,Pv (i+1),λh t j=>⟨kvs.length-(i+1),by omega,J,a,j⟩,λx t y=>?_⟩;obtain⟨e,b,c,s,hk,r⟩:=y;subst e s;exact k i c σ _ b hk p r;have e:i=kvs.length:=by omega
 subst e;exact .inl ⟨⟨q,ag _⟩,n σ H p⟩
section
variable{d:Addr}{kvs:List (List aM×V)}{k:Nat}{Q:VK}
theorem uq(Pv:Nat->O V->Hp->Prop)(h0:Pv 0 [] H)(hl:∀i ys H,i<=kvs.length->Pv i ys H->H d=some (.frz o (.dT kvs))/\ys.length<=sizeLine)(r:∀i f ys H b,kvs[i]?=some f->H b=some (.tup (f.1.map kV))->Pv i ys H->g (.ref b) (bS k cap σ) H λa H2=>tc a H2 λb j=>if b=true then te a j λy w=>Pv (i+1) (ys++[y]) w else Pv (i+1) ys j)
  (t:∀ys H,Pv kvs.length ys H->∀p,H p=none->Q (.ref p) (upd H p (.lst ys))):bZ (pC d o kvs) g tc te k cap σ H Q:=by
 refine⟨λi m ys H=>m=kvs.length-i/\i<=kvs.length/\Pv i ys H,⟨kvs.length,by simp,bj _,h0⟩,?_⟩;rintro i m ys H ⟨rfl,s,p⟩;obtain⟨q,h⟩:=hl i ys H s p;by_cases c:i<kvs.length;refine .inr ⟨⟨q,c⟩,h,Pv (i+1),λl z n=>⟨kvs.length-(i+1),by omega,J,c,n⟩,λx z y=>?_⟩;obtain⟨e,b,f,v,hk,u⟩:=y;subst e v;exact r i f ys _ b hk u p;have e:i=kvs.length:=by omega
 subst e;exact .inl ⟨⟨q,ag _⟩,h,t ys H p⟩
end
end L2
namespace L2
open PySem PySem.Spec PyProof.Rows
variable{a b:Addr}{A:Around}{its:Array Value}{X:Cx}{e:Expr}{OK:Heap->Prop}{H:Hp}{eR es:List Expr}{cap:List Nat}{xs zs:List V}{i:Nat}{Q:Option Value->Shared->Prop}{aD:Pos}{P prog:Program}{s:Shared}{σ:St}{te:TE}{g:TG}{tc:TT}{cI:Value}{E:Value->Shared->Prop}{w:World}
section
theorem II{e a t:Y}{v:I}(he:IsEnum s.heap e a i cI)(d:s.heap.IsListIter a t i)(h:s.heap.IsList t its)(f:its[i]?=some v)(c:e≠a)(k:∀g,IsEnumOut g e a ((i:Int)+1) v s.heap.objs.size->g.IsListIter a t (i+1)->g.get? s.heap.objs.size=some {cls:=.type "tuple",data:=.seq #[.int i s.toks,v]}->g.objs.size=s.heap.objs.size+1-> (∀b o,b≠e->b≠a->s.heap.get? b=some o->g.get? b=some o)->Q (some (.ref s.heap.objs.size)) {s with heap:=g,toks:=s.toks+1}):wpAny (model prog w) A (pyNext (.ref e)) Q E s:=by
 have hT:s.TypeIs (.ref e) "enumerate":=⟨_,he,J⟩
 unfold pyNext;refine a4 (wpAny_attempt (wpAny_callSpecial?_slot hT PySem.F.slot_enumerate_next (cr PySem.F.slot_enumerate_next hT PySem.F.entry_enumerate_next ?_ (PySem.F.args_enumerate_next_1 _))));exact enumerate_next_item he d h f c λg p n m l j=>a9 (k g p n m l j)
theorem Hn{e a t:Y}(hh:A.handled=none)(he:IsEnum s.heap e a i cI)(b:s.heap.IsListIter a t i)(f:s.heap.IsList t its)(d:its[i]?=none)(k:∀g,Heap.ExtBut a s.heap g->Q none {s with heap:=g}):wpAny (model prog w) A (pyNext (.ref e)) Q E s:=by
 have hT:s.TypeIs (.ref e) "enumerate":=⟨_,he,J⟩
 unfold pyNext;refine a4 (wpAny_attempt (wpAny_callSpecial?_slot hT PySem.F.slot_enumerate_next (cr PySem.F.slot_enumerate_next hT PySem.F.entry_enumerate_next ?_ (PySem.F.args_enumerate_next_1 _))));show wpAny _ _ (field (.ref e) 2>>=_) _ _ _;refine a4 (wpAny_field he J J ?_);refine a4 (wpAny_nextOf_list_end hh b f d λg x c ⟨o,h,j⟩=>?_);exact a4 (de ⟨o,h,j⟩ isSubtype_stop (a9 (k _ c)))
end
noncomputable def pB(a:Addr):It:=⟨λi H=>∃xs x,H a=some (.lst xs)/\xs[i]?=some x,λi H x H'=>∃p y,x=.ref p/\H p=none/\H'=upd H p (.tup [.int i,y])/\∀xs,H a=some (.lst xs)->xs[i]?=some y,λi H=>∃xs,H a=some (.lst xs)/\xs.length<=i⟩
theorem JU{K:W.Frag}{k1}(a e f:Y)(G:e≠f)(l:sizeLine≥2):dI P w K (.Tuple eR k1 aD) (pB a) [e,f] e (λi h=>(∃cI,IsEnum h e f i cI)/\h.IsListIter f a i) where
 mem:=by simp
 obj:=λi h st b l=>by
  obtain⟨⟨cI,A⟩,D⟩:=st;rcases az.mp l with z|z
  simp_all
  have z:b=f:=by simp_all
  rw[z];obtain⟨o,F,c,d⟩:=D
  simp_all
 keep:=λi h h' st k=>by obtain⟨⟨cI,A⟩,o,F,r⟩:=st;exact⟨⟨cI,k e (by simp) _ A⟩,o,k f (by simp) o F,r⟩
 item:=by
  intro X hP hw hK hc i B s σ H E I Q st hg;subst hP hw hK;obtain⟨xs,x,N,hx⟩:=hg;obtain⟨Z,S,p,hz⟩:=I.list (.inl (.inl N));obtain⟨u,hu,ru⟩:=S.get hx;obtain⟨⟨cI,A⟩,D⟩:=st;obtain⟨f0,f1,f2,f3,f4,f5⟩:=Q e (by simp);obtain⟨g0,g1,g2,g3,g4,g5⟩:=Q f (by simp);refine II A D p.isList (by simpa using hu) G λg ho ah hT aw hk=>?_;refine⟨.ref s.heap.objs.size,J,wpAny_letOwnedTupleGo_enum ho λg' ay C=>?_⟩;have L:=dc (ax A);have ap:s.heap.objs.size≠f:=by obtain⟨o,F,_⟩:=D;exact dc (ax F)
  have y:=λb o M U z=>(C.2 b M).trans (hk b o M U z);have aq:=(C.2 _ L).trans hT;have j:=I.hok.fresh (ag _);have av:∀b o,H b=some o->b≠e/\b≠f:=λb o z=>⟨(λq=>by simp_all),(λq=>by simp_all)⟩
  have I1:Inv X B σ (upd H s.heap.objs.size (.tup [.int i,x])) {s with heap:=g',toks:=s.toks+1}:=by
   refine I.step (ch:=[e,f]) (λb l=>?_) (λb o M U t z _=>y b o (λq=>t (by grind)) (λq=>t (by grind)) z)
    (λb o M U t z _=>⟨o.slots,y b o (λq=>t (by grind)) (λq=>t (by grind)) z⟩) (λb o t z n=>?_) (λb o t z=>⟨o,y b o (λq=>t (by grind)) (λq=>t (by grind)) z⟩)
    (λb R z=>by rw[upd_ne (zm z j)];exact z) (λb o R z=>by rw[upd_ne (zm z j)];exact z) (λb ps z=>⟨#[],by rw[upd_ne (zm z j),z];simp⟩) (λm hm=>?_) (λb ob z=>?_) I.bare
   grind
   rw[upd_ne (bf (ax z))];exact n;obtain⟨o,es,ep,aa,r⟩:=hm;exact⟨o,es,ep,y _ o (ak f1) (ak g1) aa,r⟩;by_cases l:b=s.heap.objs.size;subst l;rw[zd]at z;cases z;exact⟨by omega,[.int i s.toks,u],.cons ⟨_,J⟩ (.cons ru .nil),⟨_,aq,J,_,J⟩,λq N=>by simp_all⟩
   rw[upd_ne l]at z;refine(I.hok b ob z).stay (λc v hc q=>?_) (λc q=>by rw[upd_ne (zm q j)];exact q) λc R q=>by rw[upd_ne (zm q j)];exact q
   grind
  refine⟨.ref s.heap.objs.size,_,I1,J,⟨_,x,J,j,J,λR hy=>by simp_all⟩,⟨⟨u,by grind⟩,?_⟩,λb l=>?_⟩;obtain⟨o,F,r⟩:=ah;exact⟨o,(C.2 f (ak G)).trans F,r⟩;rcases az.mp l with q|q;rw[q,upd_ne (ak L)];omega;have q:b=f:=by simp_all
  rw[q,upd_ne (ak ap)];omega
 done:=by intro X hP hw hK hc i B s σ H E I Q st hg;subst hP hw hK;obtain⟨xs,N,hx⟩:=hg;obtain⟨Z,S,p,hz⟩:=I.list (.inl (.inl N));obtain⟨⟨cI,A⟩,D⟩:=st;obtain⟨g0,g1,g2,g3,g4,g5⟩:=Q f (by simp);have hl:=S.length;exact Hn (I.ok.hd hc) A D p.isList (by simp_all) λg eb=>⟨J,I.turned (λb o l z=>eb b o l z) g0 g1 g3 g4 g5⟩
 self:=λ_ _ _ _ _ st h=>by obtain⟨⟨cI,A⟩,_⟩:=st;exact wpAny_pyIter_enum A h
section
inductive fF(R:It->Hp->Prop)(vs:List V)(H1:Hp):Prop|mk:∀a xs,vs=[.ref a]->H1 a=some (.lst xs)->R (pB a) H1->fF R vs H1
def DC(ta:TA):TI:=λσ H R=>ta σ H λvs H1=>fF R vs H1
theorem Au{o}{E:Pos}{a:Expr}{ta:TA}{p:Pos}(B:Gl X "enumerate")(y:X.mg "enumerate"=none)(D:PA X [a] ta)(w:starEach [a] X.env=[(false,eval a X.env)]:=by rfl):PI X (.Tuple eR o E) (.Call (.Name "enumerate" p) [a] [] aD) (DC ta):=by
 intro f s j H R I h;refine Call_ (Yz I B y boot_enumerate (PyProof.Rows.callWith_type1 (aF (D aD f s j H _ I h) λL c ⟨K,F,d,l,m⟩=>?_) w J));obtain⟨t,G,e,x,q⟩:=m;subst e;obtain⟨u,rfl,k⟩:=jz l;cases k;obtain⟨r,M,n,N⟩:=d.list (.inl (.inl x));refine call_enumerate_list n.isList λg i A v hk=>?_;refine wpAny_pyIter_enum i ?_;refine⟨c.heap.objs.size+1,[c.heap.objs.size+1,c.heap.objs.size],_,_,F,J,d.kept hk,JU t (c.heap.objs.size+1) c.heap.objs.size (Nat.succ_ne_self _) (by rw[sizeLine_eq];omega),⟨⟨_,i⟩,A⟩,λb C=>?_,q⟩;rcases az.mp C with z|z;rw[z];exact d.fpOk (Nat.le_succ _) (d.hok.fresh (Nat.le_succ _));have z:b=c.heap.objs.size:=by simp_all
 rw[z];exact d.fpOk (ag _) (d.hok.fresh (ag _))
end
theorem Hr{tb:TS}{D:Ends}(Pv:Nat->St->Hp->Prop)(h0:Pv 0 σ H)(hl:∀i σ H,i<=xs.length->Pv i σ H->H a=some (.lst xs))(k:∀i x σ H p,xs[i]?=some x->Pv i σ H->H p=none->g (.ref p) σ (upd H p (.tup [.int i,x])) λc H2=>tb (D.lp (Pv (i+1))) c H2) (o:∀σ H,Pv xs.length σ H->D.nx σ H):
  cG g tb D σ (pB a) H:=by
 refine⟨λi m σ H=>m=xs.length-i/\i<=xs.length/\Pv i σ H,⟨xs.length,by simp,bj _,h0⟩,?_⟩;rintro i m σ H ⟨rfl,n,p⟩;have q:=hl i σ H n p;by_cases b:i<xs.length;refine .inr ⟨⟨xs,xs[i],q,by simp[b]⟩,Pv (i+1),λf r d=>⟨xs.length-(i+1),by omega,J,b,d⟩,λx r y=>?_⟩;obtain⟨d,h,rfl,l,rfl,j⟩:=y;exact k i h σ H d (j xs q) p l;have e:i=xs.length:=by omega
 subst e;exact .inl ⟨⟨xs,q,ag _⟩,o σ H p⟩
section
variable{k:Nat}{Q:VK}
theorem FR(Pv:Nat->O V->Hp->Prop)(h0:Pv 0 [] H)(hl:∀i ys H,i<=xs.length->Pv i ys H->H a=some (.lst xs)/\ys.length<=sizeLine)(v:∀i x ys H p,xs[i]?=some x->Pv i ys H->H p=none->g (.ref p) (bS k cap σ) (upd H p (.tup [.int i,x])) λc H2=>tc c H2 λb j=>if b=true then te c j λy r=>Pv (i+1) (ys++[y]) r else Pv (i+1) ys j)
  (o:∀ys H,Pv xs.length ys H->∀p,H p=none->Q (.ref p) (upd H p (.lst ys))):bZ (pB a) g tc te k cap σ H Q:=by
 refine⟨λi m ys H=>m=xs.length-i/\i<=xs.length/\Pv i ys H,⟨xs.length,by simp,bj _,h0⟩,?_⟩;rintro i m ys H ⟨rfl,n,p⟩;obtain⟨q,h⟩:=hl i ys H n p;by_cases d:i<xs.length;refine .inr ⟨⟨xs,xs[i],q,by simp⟩,h,Pv (i+1),λl s f=>⟨xs.length-(i+1),by omega,J,d,f⟩,λx s y=>?_⟩;obtain⟨f,t,rfl,w,rfl,u⟩:=y
 simp_all
 have e:i=xs.length:=by omega
 subst e;exact .inl ⟨⟨xs,q,ag _⟩,h,o ys H p⟩
end
section
variable{K:W.Frag}{k:Nat}{Q:VK}
theorem Fd(Pv:Nat->O V->Hp->Prop)(h0:Pv 0 [] H)(hl:∀i ys H,i<=xs.length->Pv i ys H->aE K H a xs/\ys.length<=sizeLine)(v:∀i x ys H p,xs[i]?=some x->Pv i ys H->H p=none->g (.ref p) (bS k cap σ) (upd H p (.tup [.int i,x])) λc H2=>tc c H2 λb j=>if b=true then te c j λy r=>Pv (i+1) (ys++[y]) r else Pv (i+1) ys j)
  (o:∀ys H,Pv xs.length ys H->∀p,H p=none->Q (.ref p) (upd H p (.lst ys))):bZ (rj K a) g tc te k cap σ H Q:=by
 refine⟨λi m ys H=>m=xs.length-i/\i<=xs.length/\Pv i ys H,⟨xs.length,by simp,bj _,h0⟩,?_⟩;rintro i m ys H ⟨rfl,n,p⟩;obtain⟨q,h⟩:=hl i ys H n p;by_cases d:i<xs.length;refine .inr ⟨⟨xs,xs[i],q,by simp⟩,h,Pv (i+1),λl s f=>⟨xs.length-(i+1),by omega,J,d,f⟩,λx s y=>?_⟩;obtain⟨f,t,rfl,w,rfl,u⟩:=y
 grind
 have e:i=xs.length:=by omega
 subst e;exact .inl ⟨⟨xs,q,ag _⟩,h,o ys H p⟩
end
section
end
section
end
section
end
section
variable{k:Nat}{Q:VK}
end
section
end
abbrev TJ:=Str->TE
section
variable{e1 e2:Expr}{t:TJ}
end
section
variable{j k:Nat}{p0 p1 p2:Pos}
end
section
end
section
end
section
variable{K:W.Frag}{k:Nat}{Q:VK}
end
section
variable{o f:Expr}{apos cpos:Pos}{td ty tx:TE}
end
section
variable{T:String}{r d:Addr}{n:Nat}{P:Nat->Value->Prop}
theorem Ej{R:List Value->Shared->Prop}(S:W.KdlSrc prog w T r d n P OK)(hh:A.handled=none)(k:OK s.heap)(F:n<=sizeLine)(h:∀(h':Heap)(g:Nat)(l:List Value),(∀b o,s.heap.get? b=some o->h'.get? b=some o)->s.heap.objs.size<h'.objs.size->l.length=n->(∀(j:Nat)(v:Value),l[j]?=some v->P j v)->R l {s with heap:=h',toks:=g}):
  wpAny (model prog w) A (collect (.ref r)) R E s:=by
 obtain⟨D,C⟩:=S.there _ k;have G:(s.heap.push {cls:=.type "list",data:=.seq [].toArray}).get? s.heap.objs.size=some {cls:=.type "list",data:=.seq #[]}:=bq _ J;have t:=S.keep _ (s.heap.push {cls:=.type "list",data:=.seq [].toArray}) k λb _ o e=>au _ e;have fin:∀(h':Heap)(g:Nat)(a:Array Value)(c:Nat),(∀b o,b≠s.heap.objs.size->(s.heap.push {cls:=.type "list",data:=.seq [].toArray}).get? b=some o->h'.get? b=some o)->h'.get? s.heap.objs.size=some {cls:=.type "list",dict:=none,data:=.seq a c,slots:=#[]}->ItemsOf P a n->R a.toList {s with heap:=h',toks:=g}:=λh' g a c hk i p=>h h' g a.toList (λb o e=>hk b o (bf (ax e)) (au _ e)) (ax i) (by rw[Array.length_toList];exact p.1) λj v e=>p.2 j v (by rw[<-Array.getElem?_toList];exact e)
 unfold collect;refine a4 (wpAny_runValue (codeAny_builtin entry_proto_collect' ?_));rw[Around.under_plainId PySem.F.plain_proto_collect _];refine a4 (d8 (a9 ⟨plainId_quiet PySem.F.plain_list_iadd _,codeAny_builtin entry_list_iadd' ?_⟩));rw[Around.under_plainId PySem.F.plain_list_iadd _];refine db (W.kdl_extend (R:=λq m=>q=.ok (.ret (.ref s.heap.objs.size))/\∃(h':Heap)(g:Nat)(a:Array Value)(c:Nat),m={s with heap:=h',toks:=g}/\h'.get? s.heap.objs.size=some {cls:=.type "list",dict:=none,data:=.seq a c,slots:=#[]}/\R a.toList m)
  S hh t s.heap.objs.size (dc D) (dc C) (.ref s.heap.objs.size) 0 G (λh' g a c hk i p=>⟨J,h',g,a,c,J,i,fin h' g a c hk i p⟩) F) (λf m x=>?_) λe m x=>?_
 cases f with| done f=>obtain⟨e,h',g,a,c,rfl,i,u⟩:=x;cases e;exact a4 (wpAny_load i (a9 u))| again B=>refine⟨x.1,codeAny_mono x.2 λq z y=>?_⟩;obtain⟨rfl,h',g,a,c,rfl,i,u⟩:=y;exact a4 (wpAny_load i (a9 u))
 exact nomatch x.1
end
section
end
end L2
namespace L2
open PySem PySem.Spec PyProof.Rows PySem.W
variable{gs:List (List Int)}{its:List Value}
noncomputable def ox(B:List (List Int))(i j:Nat):Bool:=nC (decide ((B.getD i []).length<(B.getD j []).length)) (B.getD i []) (B.getD j [])
noncomputable def Kn(B:List (List Int)):List Nat:=if B.length<2 then List.range B.length else(yh (ox B) (kas_sort B.length)).toList
noncomputable def Jr(B:List (List Int)):List (List Int):=(Kn B).map λi=>B.getD i []
theorem Qn(a:O (O Int)):(Kn a).Perm (List.range a.length):=by unfold Kn;split;exact List.Perm.refl _;exact(ug (n:=a.length) (lt:=ox a) (by omega)).2
theorem Km(a:O (O Int)):(Jr a).Perm a:=((Qn a).map _).trans (.of_eq (Zx a []))
theorem zS(e:its.length=gs.length):jr (ox gs) its=(Kn gs).map λi=>its.getD i Value.none:=by unfold jr Kn;rw[e];split;rw[<-e];exact(Zx its Value.none).symm;rfl
theorem xU{H:Hp}{xs:O V}(d:IsL H (gs.map tI) xs)(e:yu xs its)(hl:xs.length=gs.length):∃b,yu b ((Kn gs).map λi=>its.getD i Value.none)/\IsL H ((Jr gs).map tI) b/\b.length=gs.length:=by
 have f:=e.length;have a:∀i∈Kn gs,i<gs.length:=λi h=>da.mp ((Qn gs).mem_iff.mp h);have c:=zB d (dt:=T.non) (dx:=V.non) (Kn gs) λi h=>by have:=a i h;omega
 have g:((Kn gs).map λi=>(gs.map tI).getD i T.non)=(Jr gs).map tI:=by unfold Jr;rw[bp];refine List.map_congr_left λi d=>?_;have:=a i d;show(gs.map tI).getD i T.non=tI (gs.getD i []);rw[c8,c8,aj,bo this];rfl
 rw[g]at c;exact⟨_,JE (γ:=Unit) e (Kn gs) λi h=>by have:=a i h;omega,c,by rw[ae,(Qn gs).length_eq,cz]⟩
section
variable{X:Cx}
inductive hE(K:W.Frag)(as:List V)(H:Hp)(Q:VK):Prop|mk:∀(p:Addr)(gs:List (List Int))(xs:List V),as=[.ref p]->aI K H p xs->IsL H (gs.map tI) xs->(∀g∈gs,g≠[])->gs.length<64->(∀(xs':List V)(l:Addr),IsL H ((Jr gs).map tI) xs'->H l=none->Q (.ref l) (upd H l (.lst xs')))->hE K as H Q
theorem Bw:jp X (.builtin "sorted") (hE X.K):=by intro k s D H as F Q I r h;obtain⟨p,l,E,rfl,x,j,g,A,q⟩:=h;obtain⟨u,rfl,v⟩:=jz r;cases(v);obtain⟨c,f,w,G⟩:=I.list x;have K:=f.length;have d:=j.length;rw[ae]at d;have C:=IsL.tupI I j f;refine Iz (lt:=ox l) w.isList (by omega) (λB=>Bo C g B) ?_;rw[zS (by omega)];obtain⟨a,t,n,m⟩:=xU j f d;obtain⟨e,z⟩:=sortedAll_at s.heap c ((Kn l).map λi=>c.getD i Value.none).toArray;exact⟨.ref (s.heap.objs.size+1),upd H (s.heap.objs.size+1) (.lst a),I.laid (λb o y=>sortedAll_old y) (Nat.le_succ _) (⟨by rw[m];exact xj (by omega),_,e,t,z⟩),J,q a _ n (I.hok.fresh (Nat.le_succ _))⟩
inductive gZ(as:List V)(H:Hp)(Q:VK):Prop|mk:∀(d:Addr)(gs:List (List Int)),as=[.ref d]->pA H d gs->(∀g∈gs,g≠[])->gs.length<64->(∀(xs':List V)(l:Addr),IsL H ((Jr gs).map tI) xs'->H l=none->Q (.ref l) (upd H l (.lst xs')))->gZ as H Q
theorem Bx(hc:X.calm=true):jp X (.builtin "sorted") gZ:=by
 intro G s σ H as us Q I r h;obtain⟨d,N,rfl,⟨W,e,k⟩,y,ah,q⟩:=h;obtain⟨u,rfl,U⟩:=jz r;cases(U);have L:=pA.len e k;obtain⟨z,hd,F,f,⟨o,es,ep,w,B,m,p,_,_⟩⟩:=rN I.hok e;have Z:=Paired.length f;have aa:=size_of_entries p;refine Calls.call_function_entry kind_sorted plain_sorted entry_sorted (args_sorted1 _) ?_;unfold Builtin.«sorted»;refine a4 (a9 ?_);refine a4 (Ej (yQ hd) (I.ok.hd hc) ⟨o,w,B,m⟩ (by omega) λt tk l hk g hl hP=>?_);refine a4 (wpAny_newList ?_ (by omega));have K:yu (F.map λx=>V.ref x.2.1) l:=Jy (by simp_all) λj x v E e2=>by obtain⟨en,D,C⟩:=hP j v e2;rw[entry_at p j]at D;rw[aj]at E;cases e3:F[j]? with|none=>simp_all| some x'=>rw[e3]at E D;cases E;cases D;rw[C];rfl
 have M:=wB f k;have PP:=IsL.tupI I M K;have A:l.length=N.length:=by rw[hl];omega
 have a:(t.push (seqObj "list" l.toArray 0)).get? t.objs.size=some (seqObj "list" l.toArray 0):=bq _ J;refine a4 (wpAny_holding (cr slot_list_sort ⟨_,a,J⟩ entry_list_sort (V5 (R:=λ_=>True) (h0:=s.heap) (lt:=ox N) trivial a (by omega) (λC=>Bo PP y C) (λb o e=>?_) ⟨_,J,a9 ⟨_,J,?_⟩⟩) (args_list_sort _)))
 . have n:=hk b o e;exact⟨bf (ax n),au _ n⟩
 rw[zS A];obtain⟨c,S,R,P⟩:=xU M K (by rw[ae];omega);obtain⟨e,p⟩:=sortedHeap_at a;refine⟨.ref t.objs.size,upd H t.objs.size (.lst c),I.laid (λb o w=>?_) (Nat.le_of_lt g) (⟨by rw[P];exact xj (by omega),_,e,S,?_⟩),J,q c _ R (I.hok.fresh (Nat.le_of_lt g))⟩
 . have n:=hk b o w;have i:=ax n;rw[sortedHeap_old (bf i) (by rw[size_push'];exact Nat.lt_succ_of_lt i)];exact au _ n
 . simpa[seqObj]using p
end
end L2
namespace L2
open PySem PySem.Spec PyProof.Rows
inductive jX(i:Nat)(σ:St)(H:Hp)(Q:VK):Prop|mk:∀v,σ[i]?=some (some v)->Q v H->jX i σ H Q
theorem aW{X:Cx}(i:Nat){x:Str}{h:Pos}(g:X.N[i]?=some x:=by rfl)(d:autoParam (m9 X.env.scope x) B6._auto_1)(f:(x==("__debug__":Str))=false:=by decide)
 (b:(x==("__classdict__":Str))=false:=by decide):PE X (.Name x h) (jX i):=λa s c H Q I ⟨_,e,q⟩=>pv i g d f b a s c H Q I (Dn e q)
end L2
namespace L2
open PySem PySem.Spec PyProof.Rows PySem.W
variable{it:Addr}{A:Around}{es:Array DictEntry}{X:Cx}{h h':Heap}{H:Hp}{ns sn:List Int}{its:List Value}{P prog:Program}{R:Result->Shared->Prop}{s:Shared}{v:Value}{E Q Q₁:Value->Shared->Prop}{w:World}
section
variable{d v:Addr}{ep i:Nat}
theorem ED(b:(d==sysModules)=false)(x:qz s.heap d es ep)(a:Q (.ref s.heap.objs.size) {s with heap:=s.heap.push {cls:=.type "dict_values",data:=.fields #[.ref d]}}):wpAny (model prog w) A (call (.builtin "dict.values") [.ref d]) Q E s:=by have hT:=x.ty;refine cr F.slot_dict_values hT F.entry_dict_values ?_ (F.args_dict_values_1 _);unfold Builtin.«dict.values»;refine a4 ?_;unfold Builtin.Dict.noArgs;refine a4 (wpAny_notOrdered_dict hT (a9 ?_));unfold Builtin.Dict.showsAll;rw[if_neg (by simp_all)];exact a4 (a9 (a4 (d8 (a9 ⟨_,J,a⟩))))
theorem EB(b:s.heap.IsValuesView v d)(x:qz s.heap d es ep)(h:Q (.ref s.heap.objs.size) {s with heap:=s.heap.push {cls:=.type "dict_valueiterator",data:=.fields #[.ref d,.int 0 0,.int es.size 0,.int ep 0]}}):wpAny (model prog w) A (pyIter (.ref v)) Q E s:=by obtain⟨i,c,g,e⟩:=id b;obtain⟨o,f,j,a⟩:=id x;refine wpAny_pyIter_slot b.typeIs F.slot_dict_values_iter (cr F.slot_dict_values_iter b.typeIs F.entry_dict_values_iter ?_ (F.args_dict_values_iter_1 _));unfold Builtin.«dict_values.__iter__»;refine a4 (a9 (a4 ?_));unfold Builtin.Dict_items.dictOf;refine a4 (wpAny_field c e J (a9 (a4 ?_)));unfold Builtin.Dict_items.newIterator;refine a4 (wpAny_dictEntries f a (a4 (wpAny_dictEpoch f a ?_)));simp only[show Builtin.Dict_items.ownsTuple "dict_valueiterator"=false by rfl,Bool.false_eq_true,if_false];refine d8 (a9 ⟨_,J,"dict_valueiterator",_,⟨_,bq _ J,J⟩,F.slot_dict_valueiterator_next.lookup,?_⟩);simpa[rawInt]using h
theorem EC{Q:Option I->Shared->Prop}(a:s.heap.IsValIter it d i es.size ep)(x:qz s.heap d es ep)(h:i<es.size)(l:∀h',h'.IsValIter it d (i+1) es.size ep->Heap.SameBut it s.heap h'->Q (some es[i].val) {s with heap:=h'}):wpAny (model prog w) A (pyNext (.ref it)) Q E s:=by
 obtain⟨m,f,k,e⟩:=id a;obtain⟨n,b,j,c⟩:=id x;unfold pyNext;refine a4 (wpAny_attempt (wpAny_callSpecial?_slot a.typeIs F.slot_dict_valueiterator_next (cr F.slot_dict_valueiterator_next a.typeIs F.entry_dict_valueiterator_next (a4 (a9 (a4 (a4 ?_)))) (F.args_dict_valueiterator_next_1 _))))
 first|refine a4 (wpAny_typeNameOfWhole_valiter a.typeIs (a9 ?_))|refine a4 (wpAny_typeNameOf_valiter a.typeIs (a9 ?_))
 refine a4 (wpAny_fieldsOf f e ?_);simp only[show Builtin.Dict_items.ownsTuple "dict_valueiterator"=false from by decide,Bool.false_eq_true,if_false];show wpAny _ _ (if(Value.ref d==Value.none)=true then _ else _) _ _ s;rw[if_neg (show¬((Value.ref d==Value.none)=true)from bu)];refine a4 (a9 (a4 (wpAny_dictEntries b c ?_)));rw[if_neg (by simp)];refine a4 (a9 (a4 (wpAny_dictEpoch b c ?_)));rw[if_neg (by simp)];refine a9 ?_;simp only[(by omega),if_false,ci,ee h];refine a4 ?_;first|refine a4 (wpAny_typeNameOfWhole_valiter a.typeIs (a9 ?_))|refine a4 (wpAny_typeNameOf_valiter a.typeIs (a9 ?_))
 refine a4 (wpAny_isOneOf_valiter a.typeIs ?_);show wpAny _ _ (setField (.ref it) 1 (rawInt (i+1))>>=_) _ _ s;refine a4 (wpAny_setField f e (by simp) ?_);have g:(s.heap.update it (Obj.mapFields (·.setIfInBounds 1 (rawInt (i+1))))).IsValIter it d (i+1) es.size ep:=
  ⟨_,Heap.get?_update_self _ f (Obj.isFreed_of_fields (Obj.data_mapFields e _)),(Obj.cls_mapFields ..).trans k,by rw[Obj.data_mapFields e];simp[rawInt]⟩
 refine a4 (wpAny_holding (a4 (wpAny_isOneOf_valiter g.typeIs ?_)));refine a4 (wpAny_isOneOf_valiter g.typeIs ?_);exact a9 (a9 ⟨_,J,a9 (l _ g (Heap.SameBut.update ..))⟩)
theorem Dz{Q:Option I->Shared->Prop}(hh:A.handled=none)(a:s.heap.IsValIter it d i es.size ep)(x:qz s.heap d es ep)(g:es.size<=i)(j:∀h',Heap.ExtBut it s.heap h'->Q none {s with heap:=h'}):wpAny (model prog w) A (pyNext (.ref it)) Q E s:=by
 obtain⟨k,e,m,f⟩:=id a;obtain⟨l,b,h,c⟩:=id x;unfold pyNext;refine a4 (wpAny_attempt (wpAny_callSpecial?_slot a.typeIs F.slot_dict_valueiterator_next (cr F.slot_dict_valueiterator_next a.typeIs F.entry_dict_valueiterator_next (a4 (a9 (a4 (a4 ?_)))) (F.args_dict_valueiterator_next_1 _))))
 first|refine a4 (wpAny_typeNameOfWhole_valiter a.typeIs (a9 ?_))|refine a4 (wpAny_typeNameOf_valiter a.typeIs (a9 ?_))
 refine a4 (wpAny_fieldsOf e f ?_);simp only[show Builtin.Dict_items.ownsTuple "dict_valueiterator"=false from by decide,Bool.false_eq_true,if_false];show wpAny _ _ (if(Value.ref d==Value.none)=true then _ else _) _ _ s;rw[if_neg (show¬((Value.ref d==Value.none)=true)from bu)];refine a4 (a9 (a4 (wpAny_dictEntries b c ?_)));rw[if_neg (by simp)];refine a4 (a9 (a4 (wpAny_dictEpoch b c ?_)));rw[if_neg (by simp)];refine a9 ?_;simp only[(by omega),if_false,ci,Array.getElem?_eq_none g];refine a4 ?_;first|refine a4 (wpAny_typeNameOfWhole_valiter a.typeIs (a9 ?_))|refine a4 (wpAny_typeNameOf_valiter a.typeIs (a9 ?_))
 show wpAny _ _ (setField (.ref it) 0 .none>>=_) _ _ s;refine a4 (wpAny_setField e f (by simp) ?_);refine a4 ?_;simp only[newExc,newTuple];refine a4 (d8 (a4 (wpAny_of_eq (by first|rfl|(simp only[firstArgMember];rfl)) (d8 ?_ (by size_fits)))) (by size_fits));simp only[raiseNew];refine a4 (wpAny_handled ?_);rw[(hh)];refine a4 (a9 (wpAny_throw ?_));refine a4 (de ⟨_,bq _ J,J⟩ isSubtype_stop ?_);exact a9 (j _ (((Heap.SameBut.update ..).extBut.push _).push _))
theorem FI(hh:A.handled=none)(I:Y)(j:d≠I):Walks prog w A I [I,d] [I] es.size (λi v=>∃e,es[i]?=some e/\v=e.val) (λi h=>h.IsValIter I d i es.size ep/\qz h d es ep) where
 sub:=λb a=>by simp at a;simp[a]
 frame:=λ_ _ _ st hk=>⟨st.1.at λo e=>hk I (by simp) o e,st.2.at λo e=>hk d (by simp) o e⟩
 item:=λi s Q E m st g=>EC st.1 st.2 m λl f c=>g _ l s.toks ⟨_,ee m,J⟩ ⟨f,st.2.at λo e=>c.extBut d o j e⟩ λb o a e=>c.extBut b o (λh=>a (by simp[h])) e
 done:=λs Q E st g=>Dz hh st.1 st.2 (ag _) λl k=>g l s.toks λb o a e=>k b o (λh=>a (by simp[h])) e
 self:=λ_ _ _ _ st g=>wpAny_pyIter_valiter st.1 g
theorem DA:KdlSrc prog w "dict_values" v d es.size (λi x=>∃e,es[i]?=some e/\x=e.val) (λh=>h.IsValuesView v d/\qz h d es ep) where
 type:=λ_ x=>x.1.typeIs
 there:=λ_ x=>⟨let⟨_,b,_⟩:=x.1;ax b,x.2.lt⟩
 keep:=λ_ _ x hk=>⟨let⟨o,b,r⟩:=x.1;⟨o,hk v (.inl J) o b,r⟩,x.2.at λo e=>hk d (.inr J) o e⟩
 notList:=by decide
 notTuple:=by decide
 hint:=λ_ _ _ _ x a=>kdl_hint_values x.1.typeIs a
 iter:=λ_ _ c x=>⟨_,_,(λ_ _ a=>EB x.1 x.2 a),FI c _ (bf x.2.lt),⟨⟨_,bq _ J,J,J⟩,x.2.at λo e=>au _ e⟩⟩
end
theorem CZ{a b:Type}{R:a->b->Prop}{xs:List a}{c:List b}(p:Paired R xs c):∀{j:Nat}{x:a},xs[j]?=some x->∃y,c[j]?=some y/\R x y:=by induction p with|nil=>exact λh=>nomatch h| cons f _ d=>intro j x e;cases j with|zero=>cases e;exact⟨_,J,f⟩|succ j=>exact d e
inductive dY(v d:Addr)(h:Heap):Prop|mk:h.IsValuesView v d->dY v d h
theorem dY.ok{v d:Y}(x:dY v d h):qf P w H h v (.ext (dY v d)):=by
 refine⟨x,?_,λc b y k=>?_⟩
 . obtain⟨o,a,_⟩:=x;exact⟨o,a⟩
 . obtain⟨o,a,r⟩:=y;exact⟨o,k o a,r⟩
section
variable{κ:Type}[DecidableEq κ]{τ:aU κ}
inductive gj(τ:aU κ)(P:Program)(w:World)(Q:VK)(x:V)(H1:Hp):Prop|mk:∀d kvs,x=.ref d->bP τ P w H1 d kvs->(∀v H2,zg H1 H2->H1 v=none->H2 v=some (.ext (dY v d))->Q (.ref v) H2)->gj τ P w Q x H1
def DN(τ:aU κ)(P:Program)(w:World)(B:TE):TE:=λσ H Q=>B σ H λx H1=>gj τ P w Q x H1
inductive hJ(τ:aU κ)(P:Program)(w:World)(as:List V)(H:Hp)(Q:VK):Prop|mk:∀v d kvs,as=[.ref v]->H v=some (.ext (dY v d))->bP τ P w H d kvs->(∀l H',zg H H'->H l=none->H' l=some (.lst (kvs.map (·.2)))->Q (.ref l) H')->hJ τ P w as H Q
variable{o:Expr}{apos cpos:Pos}{td:TE}
theorem E5(A:PE X o td)(c:attributeBase o "values" X.env (eval o X.env)=eval o X.env:=by rfl)(b:(apos.endLine==cpos.line)=true:=by rfl):PE X (.Call (.Attribute o "values" apos) [] [] cpos) (DN τ X.prog X.w td):=by
 intro g s t H Q I h;refine wpAny_Call_method0_late c b (aF (A g s t H _ I h) λu f ⟨x,K,k,w,d,y,C,n,q⟩=>?_);subst C;obtain rfl:u=Value.ref d:=w;obtain⟨B,F,v,z,⟨l,D,E,p,j,i,G,_,_⟩⟩:=n.dict k.hok;have r:qz f.heap d D E:=⟨l,p,j,i⟩
 refine⟨"dict","dict.values",PySem.F.plainAttrs_dict,PySem.F.slot_dict_values,PySem.F.type_dict_values,r.ty,λa e=>?_,Calls.callWith_builtin J (PySem.evalArgs_none (ED B r ?_))⟩
 . cases e;exact⟨l,p,j.2.1⟩
 have m:=k.hok.fresh (ag f.heap.objs.size);exact⟨.ref f.heap.objs.size,_,k.laid (a:=f.heap.objs.size) (o:=.ext (dY f.heap.objs.size d)) (t':=f.toks) (λ_ _ q=>au _ q) (ag _) (dY.ok ⟨_,bq _ J,J,J⟩),J,q _ _ (zg.new m _) m zd⟩
theorem IX(P:X.calm=true):jp X (.type "list") (hJ τ X.prog X.w):=by
 intro w s σ H as us Q I r h;obtain⟨v,d,b,rfl,K,n,q⟩:=h;obtain⟨u,rfl,F⟩:=jz r;cases(show u=Value.ref v from F);obtain⟨hd,xs,f,z,⟨o,S,U,L,p,g,B,_,_⟩⟩:=n.dict I.hok;have N:=size_of_entries B;obtain⟨⟨e⟩,_⟩:=(show qf X.prog X.w H s.heap v (.ext (dY v d))from I.hok v _ K)
 refine kdl_call (DA (es:=S) (ep:=U)) (I.ok.hd P) ⟨e,⟨o,L,p,g⟩⟩ (by omega) λh' D a Z hk R c=>?_;have M:=Paired.length f;have m:yu (b.map (·.2)) a.toList:=Jy (by have k:=c.1;have C:a.toList.length=a.size:=Array.length_toList;rw[ae];omega) λj x y i W=>by obtain⟨en,k,C⟩:=c.2 j y (by rw[<-Array.getElem?_toList];exact W);rw[entry_at B j]at k;rw[aj]at i;cases t:b[j]? with|none=>rw[t]at i;cases i| some kv=>rw[t]at i;cases i;obtain⟨x',l,_,_,G⟩:=CZ f t;rw[l]at k;cases k;rw[C];exact G
 have A:=I.hok.fresh (ag s.heap.objs.size);have E:=zg.new A (.lst (b.map (·.2)));exact⟨.ref s.heap.objs.size,_,I.laid (t':=D) (o:=.lst (b.map (·.2))) hk (ag _) ⟨by rw[ae];omega,a.toList,Z,m,by simpa using R⟩,J,q _ _ E A zd⟩
end
section
variable{κ:Type}[DecidableEq κ]{τ:aU κ}
noncomputable def nN(xs rows:List (Z2 κ)):List (Z2 κ):=rows.foldl (λB r=>storedH B r.1 r.2.1 r.2.2) xs
theorem Ld(xs:O (Z2 κ))(k:κ)(a:Y)(v:I):(storedH xs k a v).length<=xs.length+1:=by unfold storedH;split;rw[ae];omega;rw[c7,List.length_singleton];exact ag _
section
theorem dZ.keep{x:cO aM}{u:Value}(d:dZ (ya prog w) h x u)(k:ll h h'):dZ (ya prog w) h' x u:=by cases x with| inl a=>obtain⟨c,e,o,b,n,g,f,r⟩:=d;exact⟨c,e,o,b,n,k _ _ f g,f,r⟩|inr a=>exact d
theorem cB.keep{b:List (cO aM)}{a:List Value}(x:cB (ya prog w) h b a)(k:ll h h'):cB (ya prog w) h' b a:=by induction x with|nil=>exact .nil|cons d _ c=>exact .cons (d.keep k) c
theorem tZ{c:κ}{a:Y}(x:(qw (ya prog w) τ.S).is h c a)(k:ll h h'):(qw (ya prog w) τ.S).is h' c a:=by obtain⟨o,b,n,e,d,g,f⟩:=x;exact⟨o,b,n,k _ _ d e,d,g,f.keep k⟩
def pO(τ:aU κ)(prog:Program)(w:World)(h:Heap)(v:Value)(r:Z2 κ):Prop:=∃b,v=.ref b/\h.IsTuple b #[.ref r.2.1,r.2.2]/\(qw (ya prog w) τ.S).is h r.1 r.2.1
theorem pO.keep{r:Z2 κ}(p:pO τ prog w h v r)(k:ll h h'):pO τ prog w h' v r:=by obtain⟨b,e,⟨o,d,a,n,f⟩,c⟩:=p;exact⟨b,e,⟨o,k _ _ a d,a,n,f⟩,tZ c k⟩
theorem Qd{d:Y}{xs:O (Z2 κ)}(x:h.DictOfH (qw (ya prog w) τ.S) d xs)(kd:∀o,h.get? d=some o->h'.get? d=some o)(k:ll h h'):h'.DictOfH (qw (ya prog w) τ.S) d xs:=by obtain⟨o,j,l,f,i,c,g,b,a⟩:=x;exact⟨o,j,l,kd o f,i,c,g,λy e=>tZ (b y e) k,a⟩
theorem Hk{d t:Addr}{its:Array Value}{rows:List (Z2 κ)}(hu:A.units+3<cLine)(hh:A.handled=none)(q:d≠it)(S:t≠it)(Q:t≠d)(hl:its.size=rows.length)(U:rows.length<=sizeLine):
  ∀ (k i:Nat) (s:Shared) (xs:List (Z2 κ)),rows.length-i=k->i<=rows.length->xs.length<=i->s.heap.IsListIter it t i->s.heap.IsList t its->s.heap.DictOfH (qw (ya prog w) τ.S) d xs->
    (∀(j:Nat) v r,its[j]?=some v->rows[j]?=some r->pO τ prog w s.heap v r)->
    (∀h' tk,h'.DictOfH (qw (ya prog w) τ.S) d (nN xs (rows.drop i))->(∀b o,b≠d->b≠it->s.heap.get? b=some o->h'.get? b=some o)->R (.ok (.ret .none)) {s with heap:=h',toks:=tk})->
    codeAny (model prog w) A (.builtin "dict.update.loop" ⟨[.ref d,.ref it,rawInt i,.none],[]⟩) R s:=by
 intro k;induction k with| zero=>
   intro i s xs hk hi hz l G K M hR;have e:i=rows.length:=by omega
   have tk:∀h',Heap.ExtBut it s.heap h'->ll s.heap h':=λh' F c o a z=>F c o (λy=>by obtain⟨oi,h,m,_⟩:=l;rw[y,h]at z;cases z;rw[m]at a;exact absurd a (by decide)) z
   refine codeAny_builtin Ym ?_;rw[Around.under_plainId qu _];show wpAny _ A.in1 (pyNext (.ref it)>>=_) _ _ s;refine a4 (wpAny_pyNext_list_end (show A.in1.handled=none from hh) l G (Array.getElem?_eq_none (by omega)) λh' F=>?_);show wpAny _ A.in1 (Builtin.Dict.addKeywords d []>>=_) _ _ _;refine a4 (a9 (a9 ?_));refine hR h' s.toks ?_ λb o B u z=>F b o u z;rw[e,List.drop_length];exact Qd K (λo P=>F d o q P) (tk h' F)| succ k ih=>
   intro i s xs hk hi hz l G K M hR;have n:i<rows.length:=by omega
   have hx:its[i]?=some its[i]:=ee (by omega);have hr:rows[i]?=some rows[i]:=bo n;have P0:=M i _ _ hx hr;have f:∀c o,o.cls=.type "tuple"->s.heap.get? c=some o->c≠it:=λc o a z y=>by obtain⟨oi,h,m,_⟩:=l;rw[y,h]at z;cases z;rw[m]at a;exact absurd a (by decide)
   have x:∀c o,o.cls=.type "tuple"->s.heap.get? c=some o->c≠d:=λc o a z y=>by obtain⟨oi,es,ep,h,m,_⟩:=K;rw[y,h]at z;cases z;rw[m.1]at a;exact absurd a (by decide)
   refine codeAny_builtin Ym ?_;rw[Around.under_plainId qu _];show wpAny _ A.in1 (pyNext (.ref it)>>=_) _ _ s;refine a4 (wpAny_pyNext_list_item l G hx λg D H=>?_);have kg:ll s.heap g:=λc o a z=>H.extBut c o (f c o a z) z;obtain⟨b,hb,E,C⟩:=P0.keep kg;have aa:g.DictOfH (qw (ya prog w) τ.S) d xs:=Qd K (λo P=>H.extBut d o q P) kg;rw[hb];show wpAny _ A.in1 (holding [Value.ref b] _>>=_) _ _ _;refine a4 (wpAny_holding (a4 (wpAny_tryCatch ?_)));unfold Builtin.Dict.pairItems;refine a4 (wpAny_typeOf (T:="tuple") (Heap.IsTuple.typeIs (s:={s with heap:=g}) E) ?_);rw[if_pos (by rfl)];obtain⟨ob,N,_,nb,X⟩:=E;refine a4 (wpAny_seqItems (s:={s with heap:=g}) N X (a9 ?_));show wpAny _ A.in1 (holding [Value.ref rows[i].2.1,rows[i].2.2] (dictSet d (Value.ref rows[i].2.1) rows[i].2.2)) _ _ _;refine wpAny_holding (wpAny_dictSet_heap (knd:=qw (ya prog w) τ.S) (Ws hu) C aa (λg2 Z p=>?_) (cj (Nat.le_of_lt (dz hz n)) U));refine a9 ⟨plainId_quiet qu _,?_⟩;have e1:rawInt ((i:Int)+1)=rawInt ((i+1:Nat):Int):=by simp
   have keep:∀c o,c≠d->c≠it->s.heap.get? c=some o->g2.get? c=some o:=λc o B u z=>p.extBut c o B (H.extBut c o u z);show codeAny (model prog w) A (.builtin "dict.update.loop" ⟨[.ref d,.ref it,rawInt ((i:Int)+1),.none],[]⟩) R _;rw[e1];have lz:=Ld xs rows[i].1 rows[i].2.1 rows[i].2.2;refine ih (i+1) _ _ (by omega) n (by omega) (D.extBut p.extBut (ak q)) (G.extBut H.extBut S |>.extBut p.extBut Q) Z (λj v r hv L=>(M j v r hv L).keep λc o a z=>keep c o (x c o a z) (f c o a z) z) λh' tk hD W=>?_;refine hR h' tk ?_ λc o B u z=>W c o B u (keep c o B u z);have e2:rows.drop i=rows[i]::rows.drop (i+1):=List.drop_eq_getElem_cons n;rw[e2];exact hD
end
inductive fh(τ:aU κ)(H:Hp)(b:Addr)(r:κ×V):Prop|mk:∀kb,H b=some (.tup [.ref kb,r.2])->Is H (τ.tr r.1) (.ref kb)->fh τ H b r
theorem fh.same{a:Hp}{b:Y}{r:κ×V}(p:fh τ H b r)(s:zg H a):fh τ a b r:=let⟨c,e,d⟩:=p;⟨c,s _ _ e,d.mono s⟩
noncomputable def Z5(rows:List (κ×V))(kvs:List (κ×V)):List (κ×V):=rows.foldl (λB r=>vi B r.1 r.2) kvs
inductive hW(τ:aU κ)(P:Program)(w:World)(as:List V)(H:Hp)(Q:VK):Prop|mk:∀(p:Addr)(bs:List Addr)(rows:List (κ×V)),as=[.ref p]->H p=some (.lst (bs.map V.ref))->Paired (fh τ H) bs rows->(∀d H',zg H H'->H d=none->bP τ P w H' d (Z5 rows [])->Q (.ref d) H')->hW τ P w as H Q
theorem wE{X:Cx}{c:List (Addr×Obj)}{k:St}{H:Hp}{s:Shared}(I:Inv X c k H s):∀{d:List Addr}{rows:List (κ×V)},Paired (fh τ H) d rows->∃a:List (Z2 κ),a.length=d.length/\KG τ H rows a/\
  ∀(j:Nat) b q,d[j]?=some b->a[j]?=some q->s.heap.IsTuple b #[.ref q.2.1,q.2.2]/\(qw (ya X.prog X.w) τ.S).is s.heap q.1 q.2.1
 |_,_,.nil=>⟨[],J,.nil,λj b q f=>by simp at f⟩
 | b ::d,r::rows,.cons h t=>by
   obtain⟨a,A,z,y⟩:=wE I t;obtain⟨e,f,hk⟩:=h;obtain⟨_,w,m,x,_⟩:=(show qf X.prog X.w H s.heap b (.tup [.ref e,r.2])from I.hok b _ f)
   cases m with
   | @cons _ v _ _ u p=>
     cases p with
     | @cons _ l _ _ o n=>
       cases n;cases(show v=Value.ref e from u);refine⟨(r.1,e,l)::a,by simp[A],.cons ⟨J,hk,o⟩ z,λj B q i g=>?_⟩;cases j with
       | zero=>simp at i g;subst i g;exact⟨x,τ.of I.hok hk⟩
       |succ j=>exact y j B q (by simpa using i) (by simpa using g)
theorem AD{H:Hp}:∀{rows:List (κ×V)}{d:List (Z2 κ)}{kvs:List (κ×V)}{xs:List (Z2 κ)},KG τ H rows d->KG τ H kvs xs->KG τ H (Z5 rows kvs) (nN xs d)/\(Z5 rows kvs).length<=kvs.length+rows.length|_,_,kvs,_,.nil,r=>⟨r,ag _⟩| r::rows,q::d,kvs,xs,.cons h t,e=>by obtain⟨f,i,g⟩:=h;have c:=e.put r.1 i g;obtain⟨a,b⟩:=AD t c;rw[f]at a;refine⟨by show KG τ H (Z5 rows (vi kvs r.1 r.2)) (nN (storedH xs q.1 q.2.1 q.2.2) d);rw[f];exact a,?_⟩;have:=xy kvs r.1 r.2;have b:(Z5 (r::rows) kvs).length<=(vi kvs r.1 r.2).length+rows.length:=b;rw[df];omega
section
theorem IV(hc:X.calm=true)(hu:X.A.units+8<cLine):jp X (.type "dict") (hW τ X.prog X.w):=by
 intro av s σ H as us Q I r h;obtain⟨p,k,w,rfl,hp,aq,q⟩:=h;obtain⟨u,rfl,rx⟩:=jz r;cases(show u=Value.ref p from rx);obtain⟨hz,a,n,rv,h1⟩:=(show qf X.prog X.w H s.heap p (.lst (k.map V.ref))from I.hok p _ hp)
 have hh:X.A.handled=none:=I.ok.hd hc;obtain⟨G,aK,C,l⟩:=wE I aq;have ah:a.length=k.length:=by have:=rv.length;rw[ae]at this;omega
 have ay:k.length<=sizeLine:=by rw[ae]at hz;exact hz
 refine callType_codes (Q₁:=λy i=>y=.ref s.heap.objs.size/\i={s with heap:=s.heap.push {cls:=.type "dict",data:=.dict #[]}}) PySem.F.kt_called_dict (PySem.F.kt_typeCall_dict_1 _) PySem.F.entry_dict_init (kt_code_dict_new _ ⟨J,J⟩) ?_;rintro y i ⟨rfl,rfl⟩;have f:(s.heap.push {cls:=.type "dict",data:=.dict #[]}).DictOfH (qw (ya X.prog X.w) τ.S) s.heap.objs.size []:=Heap.DictOfH.new s.heap;have F:({s with heap:=s.heap.push {cls:=.type "dict",data:=.dict #[]}}:Shared).TypeIs (.ref s.heap.objs.size) "dict":=f.typeIs (s:={s with heap:=s.heap.push {cls:=.type "dict",data:=.dict #[]}});have m:(s.heap.push {cls:=.type "dict",data:=.dict #[]}).get? p=some {cls:=.type "list",dict:=none,data:=.seq a.toArray n,slots:=#[]}:=au _ h1;have E:p<s.heap.objs.size:=ax h1;refine⟨F,PySem.F.args_dict_init_2 _ _,?_⟩;unfold Builtin.«dict.__init__»;refine a4 ?_;unfold Builtin.Dict.selfAndRest;refine a4 (wpAny_notOrdered_dict F (show wpAny _ _ (pure (s.heap.objs.size,[Value.ref p])) _ _ _ from a9 ?_));show wpAny _ _ (Builtin.Dict.updateFrom "dict.__init__" s.heap.objs.size (.ref p) [] .none) _ _ _;unfold Builtin.Dict.updateFrom;refine a4 (wpAny_typeOf (T:="list") ⟨_,m,J⟩ ?_);rw[if_pos (by decide)];refine a4 (BL (s:={s with heap:=s.heap.push {cls:=.type "dict",data:=.dict #[]}}) m hh λg tk hk=>?_);simp only[Option.isNone_none,if_true];refine a4 (wpAny_rule ?_);have B:g.IsList p a.toArray:=⟨_,hk _ _ m,J,n,J⟩
 refine a4 (wpAny_pyIter_list (s:={s with heap:=g,toks:=tk}) B (a9 ⟨plainId_quiet qu _,?_⟩));have t:s.heap.objs.size+1<=g.objs.size:=by obtain⟨o,K,L,D,_⟩:=f;exact ax (hk _ _ D)
 have ap:(g.push {cls:=.type "list_iterator",data:=.fields #[.ref p,.int 0 0]}).DictOfH (qw (ya X.prog X.w) τ.S) s.heap.objs.size []:=by obtain⟨o,K,L,D,a1,a2,N,_,M⟩:=f;exact⟨o,K,L,au _ (hk _ _ D),a1,a2,N,(λx hx=>by cases hx),M⟩
 have P:∀b o,s.heap.get? b=some o->(g.push {cls:=.type "list_iterator",data:=.fields #[.ref p,.int 0 0]}).get? b=some o:=λb o e=>au _ (hk _ _ (au _ e));refine Hk (A:=X.A.in1) (rows:=G) (its:=a.toArray) (t:=p) (by have:X.A.in1.units=X.A.units+1:=rfl;omega) hh (bf (Nat.lt_of_succ_le t)) (bf (Nat.lt_trans E (Nat.lt_of_succ_le t))) (bf E) (by rw[d5];omega) (by omega) G.length 0 _ [] (by omega) (bj _) (ag _)
  ⟨_,bq _ J,J,J⟩ (B.push _) ap (λj v r A hr=>?_) λh' R hD hK=>?_
 have A:a[j]?=some v:=by simpa using A
 have hj:j<k.length:=by have:=(cp.mp A).1;omega
 obtain⟨u,W,ru⟩:=rv.get (i:=j) (x:=V.ref k[j]) (by rw[aj,bo hj];rfl);rw[W]at A;cases A;cases(show v=Value.ref k[j]from ru);obtain⟨⟨ob,Z,rr⟩,aa⟩:=l j k[j] r (bo hj) hr;exact⟨k[j],J,⟨ob,P _ _ Z,rr⟩,tZ aa λc o _ e=>P c o e⟩;refine⟨J,?_⟩;have keep:∀b o,s.heap.get? b=some o->h'.get? b=some o:=λb o e=>hK b o (bf (ax e)) (bf (Nat.lt_trans (ax e) (Nat.lt_of_succ_le t))) (P b o e);obtain⟨S,aw⟩:=AD (kvs:=[]) (xs:=[]) C .nil;have aS:=Paired.length C;have d:=I.hok.fresh (ag s.heap.objs.size);have zz:(s.heap.objs.size==sysModules)=false:=beq_eq_false_iff_ne.mpr (ak (bf I.big));obtain⟨o,K,L,D,a1,a2,N,_,M⟩:=hD;rw[List.drop_zero]at N M;have sm:=zg.new d (.ext (Jt τ X.prog X.w s.heap.objs.size (nN [] G)));have U:(Z5 w []).length<=sizeLine:=by have:([]:O (κ×V)).length=0:=rfl;omega
 exact⟨.ref s.heap.objs.size,_,I.laid (a:=s.heap.objs.size) (t':=R) keep (ag _) (Jt.ok (xs:=nN [] G) ⟨o,K,L,D,a1,a2,N⟩),J,q _ _ sm d ⟨_,zd,zz,U,M,Paired.mapP S λ_ _ z=>⟨z.1,z.2.1.mono sm,z.2.2⟩⟩⟩
end
end
noncomputable def eP:Option Int->List Int->Option Int|b,[]=>b|none,k::r=>eP (some k) r|some m,k::r=>eP (some (if k>m then k else m)) r
noncomputable def rH:Option (Int×Tok)->Array Value|none=>#[]|some (n,t)=>#[.int n t,.int n t]
theorem Gu(A:Around)(s:Shared)(a:Int)(t:Tok)(c:Int)(u:Tok)(prog:Program)(w:World)(E:I->Shared->Prop)(Q:I->Shared->Prop)(h:Q (.bool (decide (a>c))) s):wpAny (model prog w) A (richCompare .Gt (.int a t) (.int c u)) Q E s:=
 (PyProof.Rows.gt_int h:wpAny (model prog w) A (compareOp .Gt (.int a t) (.int c u)) Q E s)
section
theorem Fg{t S:Addr}{G:Value}(hh:A.handled=none)(Z:t≠it)(E:S≠it)(h3:t≠S)(hv:IntsAre its ns):
  ∀ (m i:Nat) (s:Shared) (b:Option (Int×Tok)) (c:Nat),its.length-i=m->i<=its.length->s.heap.IsListIter it t i->s.heap.IsList t its.toArray->s.heap.get? S=some {cls:=.type "list",data:=.seq (rH b) c}->
    (∀h' tk v,(match eP (b.map (·.1)) (ns.drop i)with|none=>v=G|some n=>∃u,v=.int n u)->(∀c o,c≠it->c≠S->s.heap.get? c=some o->h'.get? c=some o)->R (.ok (.ret v)) {s with heap:=h',toks:=tk})->
    codeAny (model P w) A (.builtin "max.loop" ⟨[.ref it,.none,.ref S],[("default",G)]⟩) R s:=by
 have hl:=hv.length;intro m;induction m with
 | zero=>
   intro i s b c hk hi r K D B;have e:i=its.length:=by omega
   refine codeAny_builtin F.entry_max_loop ?_;rw[Around.under_plainId F.plain_max_loop _];show wpAny _ A.in1 ((load S>>=_)>>=_) _ _ s;refine a4 (a4 (wpAny_load D (a9 ?_)));refine a4 (wpAny_tryCatch (wpAny_pyNext_list_end (show A.in1.handled=none from hh) r K (Array.getElem?_eq_none (by simp;omega)) λh' eb=>?_));rw[List.drop_of_length_le (by omega)]at B;cases b with
   | none=>show wpAny _ _ (rule _>>=λ_=>ret G) _ _ _;exact a4 (wpAny_rule (a9 (B h' s.toks G J λc o y _ z=>eb c o y z)))
   | some q=>show wpAny _ _ (updateSeq S _>>=λ_=>letGo _ _>>=λ_=>ret (Value.int q.1 q.2)) _ _ _;exact a4 (wpAny_updateSeq (s:={s with heap:=h'}) (eb S _ E D) J (a4 (wpAny_letGo (a9 (B _ s.toks (.int q.1 q.2) ⟨q.2,J⟩ λc o y H z=>by show(h'.update S _).get? c=some o;rw[Heap.get?_update_ne _ _ _ _ H];exact eb c o y z)))) bO)
 | succ m ih=>
   intro i s b c hk hi r K D B;have p:i<its.length:=by omega
   have hx:its.toArray[i]?=some its[i]:=by simp[p]
   obtain⟨a,d,Q,W⟩:=hv.at i (its[i]) (bo p);have ed:ns.drop i=a::ns.drop (i+1):=by obtain⟨Z,E⟩:=cp.mp W;rw[List.drop_eq_getElem_cons Z,E]
   rw[ed]at B;refine codeAny_builtin F.entry_max_loop ?_;rw[Around.under_plainId F.plain_max_loop _];show wpAny _ A.in1 ((load S>>=_)>>=_) _ _ s;refine a4 (a4 (wpAny_load D (a9 ?_)));refine a4 (wpAny_tryCatch (wpAny_pyNext_list_item r K hx λg C U=>?_));rw[Q];have f:=U.extBut S _ E D;have N:∀(l:Shared)(L:Option (Int×Tok))(k:Nat),Heap.SameBut S g l.heap->l={s with heap:=l.heap,toks:=l.toks}->l.heap.get? S=some {cls:=.type "list",data:=.seq (rH L) k}->eP (L.map (·.1)) (ns.drop (i+1))=eP (b.map (·.1)) (a::ns.drop (i+1))->codeAny (model P w) A (.builtin "max.loop" ⟨[.ref it,.none,.ref S],[("default",G)]⟩) R l:=λl L k M es X em=>by refine ih (i+1) l L k (by omega) p (C.extBut M.extBut (ak E)) (K.extBut U.extBut Z |>.extBut M.extBut h3) X λh' tk v hm k'=>?_;rw[es];exact B h' tk v (by rw[<-em];exact hm) λc o y H z=>k' c o y H (M.extBut c o H (U.extBut c o y z))
   have up:∀{xs:Array Value}{c0:Nat}{g0:Heap},g0.get? S=some {cls:=.type "list",data:=.seq xs c0}->∃k,(g0.update S (Obj.mapSeq λ_=>#[Value.int a d,.int a d])).get? S=some {cls:=.type "list",data:=.seq (rH (some (a,d))) k}:=λh=>⟨_,get?_update_seq h _⟩
   cases b with
   | none=>show wpAny _ _ (updateSeq S _>>=λ_=>again _) _ _ _;obtain⟨k,x⟩:=up f;exact a4 (wpAny_updateSeq (s:={s with heap:=g}) f J (a9 ⟨plainId_quiet F.plain_max_loop _,N {s with heap:=_} (some (a,d)) k (Heap.SameBut.update ..) J x J⟩))
   | some q=>
     refine a4 (a9 (a4 (wpAny_tryCatch (wpAny_holding (a4 (Gu _ _ _ _ _ _ _ _ _ _ (a4 (wpAny_holding (wpAny_truthy_bool (a4 (wpAny_letGo (a9 ?_))))))))))));by_cases j:a>q.1
     . rw[bn j];show wpAny _ _ (updateSeq S _>>=λ_=>letGo _ _>>=λ_=>again _) _ _ _;obtain⟨k,x⟩:=up f;exact a4 (wpAny_updateSeq (s:={s with heap:=g}) f J (a4 (wpAny_letGo (a9 ⟨plainId_quiet F.plain_max_loop _,N {s with heap:=_} (some (a,d)) k (Heap.SameBut.update ..) J x (by show _=eP (some (if a>q.1 then a else q.1)) _;rw[if_pos j];rfl)⟩))) bO)
     . rw[c6 j];show wpAny _ _ (letGo _ _>>=λ_=>again _) _ _ _;exact a4 (wpAny_letGo (a9 ⟨plainId_quiet F.plain_max_loop _,N {s with heap:=g} (some q) c (Heap.SameBut.refl ..) J f (by show _=eP (some (if a>q.1 then a else q.1)) _;rw[if_neg j];rfl)⟩))
end
theorem Fs:bootBuiltins "max"=some (.builtin "max"):=by decide+kernel
section
inductive gy(K:W.Frag)(d:Int)(Q:VK)(vs:List V)(H1:Hp):Prop|mk:∀a ns,vs=[.ref a]->aI K H1 a (ns.map V.int)->Q (.int ((eP none ns).getD d)) H1->gy K d Q vs H1
def Dc(K:W.Frag)(d:Int)(ta:TA):TE:=λσ H Q=>ta σ H λvs H1=>gy K d Q vs H1
theorem E3{kc}{kp oz:Pos}{a:Expr}{ta:TA}{p t:Pos}{d:Int}(hg:Gl X "max")(hm:X.mg "max"=none)(hc:X.calm=true)(ha:PA X [a] ta)(hs:starEach [a] X.env=(false,eval a X.env)::starEach [] X.env:=by rfl)(z:((backTo t (starEach [a] X.env)).any (·.1))=false:=by rfl):PE X (.Call (.Name "max" p) [a] [⟨some "default",.Constant (.int d) kc kp,oz⟩] t) (Dc X.K d ta):=by
 intro f s G H Q I h;refine wpAny_Call_Name_kw (Yz I hg hm Fs ?_);refine W.callWith_of (P:=λ_=>True) (by rw[z];rfl) (λh _=>⟨.machine,.inr (.inl J),?_⟩) ?_;exact λA Q E s _ q=>(show wpAny _ A (pure Keeper.machine) Q E s from a9 q)
 have K:backTo t (starEach [a] X.env)=(false,eval a X.env)::backTo t (starEach [] X.env):=by rw[hs];rfl
 rw[K];refine evalArgs_kwB J ?_;rw[<-K];refine aF (ha t f s G H _ I h) λus P ⟨vs,M,I1,Z,q1⟩=>?_;obtain⟨b,g,rfl,hq,q⟩:=q1;refine kws_cons (aF (zh (X:=X) (i:=d) f P G M (λv L=>v=.int d/\L=M) I1 ⟨J,J⟩) λdv k ⟨x,L,D,U,e1,e2⟩=>kws_nil ⟨trivial,?_⟩);subst e1 e2;obtain⟨r,rfl⟩:=U;obtain⟨u,rfl,R⟩:=jz Z;cases(show u=Value.ref b from R);obtain⟨l,S,w,hz⟩:=D.list hq;have m:b<k.heap.objs.size:=by obtain⟨_,e,_⟩:=w.isList;exact ax e
 have B:checkBuiltinCall "max" ⟨[.ref b],[("default",.int d r)]⟩=pure ():=by kernel_rfl
 refine wpAny_call (codeAny_call_builtin F.plain_max F.entry_max (wpAny_of_eq B ?_));have C:Builtin.Builtins.bindParams "max" ["key","default"] 0 {kw:=[("default",.int d r)]}=pure [none,some (.int d r)]:=by kernel_rfl
 show wpAny _ _ (Builtin.Builtins.bindParams "max" ["key","default"] 0 {kw:=[("default",.int d r)]}>>=_) _ _ k;refine a4 (wpAny_of_eq C ?_);show wpAny _ _ (pyIter (.ref b)>>=_) _ _ k;refine a4 (wpAny_pyIter_list w.isList ?_);refine a4 (wpAny_newList (a9 ⟨plainId_quiet F.plain_max_loop _,?_⟩) (bj _));have j:(k.heap.push {cls:=.type "list_iterator",data:=.fields #[.ref b,.int 0 0]}).objs.size=k.heap.objs.size+1:=Array.size_push ..;refine Fg (t:=b) (its:=l) (ns:=g) (D.ok.hd hc) (bf m) (by rw[j];exact dc (eq _)) (by rw[j];exact bf (Nat.lt_succ_of_lt m)) (BI S) l.length 0 _ none 0 (by omega) (bj _) ⟨_,au _ (bq _ J),J,J⟩ ((w.isList.push _).push _) (bq _ J) λh' N v i y=>?_;have keep:∀c o,k.heap.get? c=some o->h'.get? c=some o:=λc o e=>by have:=ax e;exact y c o (bf this) (by rw[j];exact bf (Nat.lt_succ_of_lt this)) (au _ (au _ e))
 have i:∃u,v=.int ((eP none g).getD d) u:=by rw[List.drop_zero]at i;cases e:eP none g with|none=>rw[show eP (Option.map (·.1) (none:Option (Int×Tok))) g=eP none g from rfl,e]at i;exact⟨r,i⟩|some n=>rw[show eP (Option.map (·.1) (none:Option (Int×Tok))) g=eP none g from rfl,e]at i;exact i
 obtain⟨u,rfl⟩:=i;exact⟨.int ((eP none g).getD d),_,D.kept (t':=N) keep,⟨_,J⟩,q⟩
end
theorem Ki(v:I):checkTypeCall "set" ⟨[v],[]⟩=pure ():=by kernel_rfl
theorem LB(v:I):checkBuiltinCall "set.__new__" ⟨[.type "set",v],[]⟩=pure ():=by kernel_rfl
section
theorem LQ(v:I)(h:∀a:Bool,Q₁ (.ref s.heap.objs.size) {s with heap:=s.heap.push {cls:=.type "set",dict:=none,data:=.set #[] 0 (.fresh 0 0 a)}}):
  codeAny (model prog w) A (.call (.builtin "set.__new__") ⟨[.type "set",v],[]⟩) (wants Q₁ E) s:=by
 refine codeAny_of_tree ?_;show wpAny _ A.in1 (do checkBuiltinCall "set.__new__" ⟨[.type "set",v],[]⟩;again (.builtin "set.__new__" ⟨[.type "set",v],[]⟩)) _ _ s;refine a4 (wpAny_of_eq (LB v) (a9 ⟨plainId_quiet F.plain_set_new _,codeAny_builtin F.entry_set_new ?_⟩));rw[Around.under_plainId F.plain_set_new _];unfold Builtin.«set.__new__» Builtin.Frozenset.newClass;have b:=sub_set_self;obtain⟨e,g,d,c,os⟩:=s;dsimp only
 wp_walk
 refine wpAny_askSetting (a9 ?_);dsimp only;simp only[newObj];refine a4 (wpAny_alloc (a9 ?_));exact a9 (h _)
theorem Jv{M:Model}{self:I}{Q:Unit->Shared->Prop}(hT:s.TypeIs self "set")(e:Q () s):wpAny M A (checkBuiltinCall "set.__init__" ⟨[self,v],[]⟩) Q E s:=by
 simp only[checkBuiltinCall,kind_set_init,split_set_init,sig_set_init];refine a4 (de hT sub_set_self ?_);simp only[Bool.not_true,Bool.false_eq_true,if_false];unfold Bind.checkArgs;dsimp only;refine a4 (m:=Bind.printed "set" true _ _) (PyProof.Rows.printed_name (by decide) ?_);refine a4 (m:=Bind.printed "*" false _ _) (PyProof.Rows.printed_star (self:=self) J hT λa=>?_);have b:(Manifest.Receiver.self==Manifest.Receiver.none)=false:=by decide
 have c:(if(Manifest.Receiver.self==Manifest.Receiver.none)=true then[self,v].length else[self,v].length-1)=1:=by simp[b]
 rw[c];simp only[List.map_nil];have d:Bind.check ⟨.positional,"set","*",.self,[⟨"iterable",.posOnly,false⟩]⟩ "set" a 1 []=pure ():=by simp[Bind.check,Bind.checkCount,Bind.isPositional];exact λz=>absurd z (by decide)
 rw[d];exact a9 e
set_option maxHeartbeats 1000000 in
theorem IF(h:∀led:Bool,wpAny (model prog w) A.in1.in1 (Builtin.Frozenset.updateFrom "set.__init__" s.heap.objs.size v) (λ_ s₂=>Q (.ref s.heap.objs.size) s₂) E {s with heap:=s.heap.push {cls:=.type "set",dict:=none,data:=.set #[] 0 (.fresh 0 0 led)}}):
  wpAny (model prog w) A (call (.type "set") [v]) Q E s:=by
 obtain⟨c,tl,hmro⟩:=F.called_set.mro;have hmade:=F.called_set.made;have hsub:=F.called_set.sub;refine wpAny_call (codeAny_of_tree ?_);show wpAny _ _ (callAny (.type "set") _) _ _ _;refine a9 ⟨Code.quiet_builtin _ (by decide+kernel),codeAny_builtin F.entry_type_call ?_⟩;rw[Around.under_plain (weight_type_call_type "set" [v] []) rfl];have h1:=F.called_set.notType;have h2:=F.called_set.canCreate;have hct:=Ki v
 repeat(any_goals (first|assumption|wp_step))
 refine codeAny_mono (LQ v (E:=E) (Q₁:=λobj s₁=>∃led:Bool,obj=.ref s.heap.objs.size/\s₁={s with heap:=s.heap.push {cls:=.type "set",dict:=none,data:=.set #[] 0 (.fresh 0 0 led)}}) λled=>⟨led,rfl,rfl⟩) λr s₁ hr=>?_;rcases r with e|fl
 . exact hr
 cases fl<;>first|exact(hr:False).elim|skip
 obtain⟨led,rfl,rfl⟩:=hr;have hS:(s.heap.push {cls:=.type "set",dict:=none,data:=.set #[] 0 (.fresh 0 0 led)}).get? s.heap.objs.size=some {cls:=.type "set",dict:=none,data:=.set #[] 0 (.fresh 0 0 led)}:=bq _ rfl;have hT:Shared.TypeIs {s with heap:=s.heap.push {cls:=.type "set",dict:=none,data:=.set #[] 0 (.fresh 0 0 led)}} (.ref s.heap.objs.size) "set":=⟨_,hS,rfl⟩
 have hli:=F.called_set.init.lookup;have hbi:=F.called_set.init.bind (.ref s.heap.objs.size)
 repeat(any_goals (first|assumption|wp_step))
 refine codeAny_mono (codeAny_call_builtin (R:=wants (λr s₂=>r=.none/\Q (.ref s.heap.objs.size) s₂) E) F.called_set.init.plain F.entry_set_init (Jv hT ?_)) λr₂ s₂ hr₂=>?_
 . unfold Builtin.«set.__init__» noKeywords;generalize Builtin.Frozenset.updateFrom "set.__init__"=U at h⊢
   wp_walk
   exact aF (h led) λ_ s2 q=>a9 ⟨rfl,q⟩
 . rcases r₂ with e|fl₂
   . exact hr₂
   cases fl₂<;>first|exact(hr₂:False).elim|skip
   obtain⟨rfl,hq⟩:=hr₂
   repeat(any_goals (first|assumption|wp_step))
end
theorem Bg:entryFor table "set.update.loop"=some Builtin.«set.update.loop»:=entryFor_of_tree (by kernel_rfl)
theorem Qz:plainId "set.update.loop"=true:=by decide+kernel
theorem Lx:isSubtype (.type "list") (.type "set")=pure false:=by rw[isSubtype_type];kernel_rfl
theorem LM:isSubtype (.type "list") (.type "frozenset")=pure false:=by rw[isSubtype_type];kernel_rfl
noncomputable def Wa:List Int->List Int->List Int|sn,[]=>sn|sn,k::r=>if k∈sn then Wa sn r else Wa (k::sn) r
section
def SI(P:Program)(w:World)(h:Heap)(d:Addr)(sn:List Int):Prop:=h.SetOf (intKind P w) d (λk=>decide (k∈sn)) sn.length
theorem SI.keep{d:Y}(x:SI P w h d sn)(k:∀o,h.get? d=some o->h'.get? d=some o):SI P w h' d sn:=by obtain⟨o,b,c,t,a,r⟩:=x;exact⟨o,b,c,t,k o a,r⟩
theorem GG{d t:Addr}(hh:A.handled=none)(f:d≠it)(D:t≠it)(C:t≠d)(H:IntsAre its ns)(hf:its.length<1000):
  ∀ (m i:Nat) (s:Shared) (sn:List Int),its.length-i=m->i<=its.length->sn.length<=i->s.heap.IsListIter it t i->s.heap.IsList t its.toArray->SI P w s.heap d sn->
    (∀h' tk,SI P w h' d (Wa sn (ns.drop i))->(∀b o,b≠d->b≠it->s.heap.get? b=some o->h'.get? b=some o)->R (.ok (.ret .none)) {s with heap:=h',toks:=tk})->
    codeAny (model P w) A (.builtin "set.update.loop" ⟨[.ref d,.ref it],[]⟩) R s:=by
 have hl:=H.length;intro m;induction m with| zero=>
   intro i s sn hk S N j r F G;have e:i=its.length:=by omega
   refine codeAny_builtin Bg ?_;rw[Around.under_plainId Qz _];show wpAny _ A.in1 (pyNext (.ref it)>>=_) _ _ s;refine a4 (wpAny_pyNext_list_end (show A.in1.handled=none from hh) j r (Array.getElem?_eq_none (by simp;omega)) λh' K=>?_);refine a9 (G h' s.toks ?_ λb o x p z=>K b o p z);rw[List.drop_of_length_le (by omega)];exact F.keep λo e=>K d o f e| succ m M=>
   intro i s sn hk S N j r F G;have h:i<its.length:=by omega
   have Q:its.toArray[i]?=some its[i]:=by simp[h]
   obtain⟨a,l,y,E⟩:=H.at i (its[i]) (bo h);refine codeAny_builtin Bg ?_;rw[Around.under_plainId Qz _];show wpAny _ A.in1 (pyNext (.ref it)>>=_) _ _ s;refine a4 (wpAny_pyNext_list_item j r Q λg n B=>?_);rw[y];show wpAny _ A.in1 (holding [Value.int _ l] (setAdd d (.int _ l))>>=_) _ _ _;refine a4 (wpAny_holding ?_);unfold setAdd;refine wpAny_holding (a4 (wpAny_pyHash_int ?_));have e1:(λq=>decide (q∈sn) ||decide (q=a))=λk=>decide (k∈if a∈sn then sn else a::sn):=funext λk=>by
    by_cases c:a∈sn
    . rw[if_pos c];by_cases e:k=a
      . simp[e,c]
      . simp[e]
    . rw[if_neg c];simp[Bool.or_comm]
   have Z:(if decide (a∈sn)=true then sn.length else sn.length+1)=(if a∈sn then sn else a::sn).length:=by by_cases c:a∈sn<;>simp[c]
   refine wpAny_setAddHashed_of (knd:=intKind P w) (k:=a) (S:=λk=>decide (k∈sn)) (n:=sn.length) (by simp[intKind,Value.isInt]) J (F.keep λo e=>B.extBut d o f e) (by show sn.length+1<scanBound;unfold scanBound;omega) λg2 v L=>?_;rw[e1,Z]at L;refine a9 ⟨plainId_quiet Qz _,?_⟩;refine M (i+1) _ (if a∈sn then sn else a::sn) (by omega) h (by
    split
    . omega
    . rw[df];omega) (n.extBut v.extBut (ak f)) (r.extBut B.extBut D |>.extBut v.extBut C) L λh' tk u q=>G h' tk ?_ λc o x p z=>q c o x p (v.extBut c o x (B.extBut c o p z))
   have X:ns.drop i=a::ns.drop (i+1):=by obtain⟨W,U⟩:=cp.mp E;rw[List.drop_eq_getElem_cons W,U]
   rw[X];unfold Wa;by_cases c:a∈sn
   . rw[if_pos c]at u⊢;exact u
   . rw[if_neg c]at u⊢;exact u
theorem IY{p:Y}(hh:A.handled=none)(hp:s.heap.IsList p its.toArray)(n:IntsAre its ns)(r:its.length<1000)(h:∀h' tk,(∀b o,s.heap.get? b=some o->h'.get? b=some o)->SI P w h' s.heap.objs.size (Wa [] ns)->Q (.ref s.heap.objs.size) {s with heap:=h',toks:=tk}):wpAny (model P w) A (call (.type "set") [.ref p]) Q E s:=by
 refine IF λa=>?_;have j:∀b o,s.heap.get? b=some o->(s.heap.push {cls:=.type "set",dict:=none,data:=.set #[] 0 (.fresh 0 0 a)}).get? b=some o:=λb o e=>au _ e;have l:SI P w (s.heap.push {cls:=.type "set",dict:=none,data:=.set #[] 0 (.fresh 0 0 a)}) s.heap.objs.size []:=by
  refine⟨_,#[],0,.fresh 0 0 a,bq _ J,⟨J,J,J⟩,J,?_,λk=>by simp,?_,J,J⟩
  . first|exact .nil|(unfold ElemsOf;simp)|trivial
  . show 0<scanBound;decide
 have c:(s.heap.push {cls:=.type "set",dict:=none,data:=.set #[] 0 (.fresh 0 0 a)}).IsList p its.toArray:=hp.push _;have f:(s.heap.push {cls:=.type "set",dict:=none,data:=.set #[] 0 (.fresh 0 0 a)}).objs.size=s.heap.objs.size+1:=Array.size_push ..;have d:p<s.heap.objs.size:=by obtain⟨o,q,_⟩:=hp;exact ax q
 generalize s.heap.push {cls:=.type "set",dict:=none,data:=.set #[] 0 (.fresh 0 0 a)}=g at j l c f⊢;have hT:({s with heap:=g}:Shared).TypeIs (.ref p) "list":=Heap.IsList.typeIs (s:={s with heap:=g}) c;unfold Builtin.Frozenset.updateFrom Builtin.Frozenset.isAnySet;refine a4 ?_;refine a4 (de hT Lx ?_);show wpAny _ _ (isInstance (.ref p) (.type "frozenset")) _ _ _;refine de hT LM ?_;simp only[Bool.false_eq_true,if_false];refine a4 (wpAny_typeOf hT ?_);rw[if_neg (by decide)];refine a4 (wpAny_pyIter_list (s:={s with heap:=g}) c ?_);refine a4 (wpAny_runValue ?_);have i:s.heap.objs.size<g.objs.size:=by omega
 refine GG (A:=A.in1.in1) (t:=p) (its:=its) (ns:=ns) hh (bf i) (bf (Nat.lt_trans d i)) (bf d) n r its.length 0 _ [] (by omega) (bj _) (bj _)
  ⟨_,bq _ J,J,J⟩ (c.push _) (l.keep λo e=>au _ e) λh' tk t m=>?_
 refine a9 (h h' tk (λb o e=>?_) t);have:=ax e;exact m b o (bf this) (bf (Nat.lt_trans this i)) (au _ (j b o e))
end
inductive eO(d:Addr)(n:Nat)(h:Heap):Prop|mk:∀(o:Obj)(es:Array (Int×Value))(ep:Nat)(t:SetTable),h.get? d=some o->o.ExactSet->o.data=.set es ep t->t.fits es.size=true->es.size=n->eO d n h
theorem eO.ok{d:Y}{n:Nat}(x:eO d n h):qf P w H h d (.ext (eO d n)):=by
 refine⟨x,?_,λj i y k=>?_⟩
 . obtain⟨o,_,_,_,a,_⟩:=x;exact⟨o,a⟩
 . obtain⟨o,f,g,t,a,r,e,c,b⟩:=y;exact⟨o,f,g,t,k o a,r,e,c,b⟩
def Ce(H:Hp)(d:Addr)(n:Nat):Prop:=H d=some (.ext (eO d n))
section
inductive kL(as:List V)(H:Hp)(Q:VK):Prop|mk:∀d n,as=[.ref d]->Ce H d n->n<1000->Q (.int (n:Int)) H->kL as H Q
theorem GT:jp X (.builtin "len") kL:=by
 intro a s k H as l Q I r h;obtain⟨d,n,rfl,j,f,q⟩:=h;obtain⟨u,rfl,b⟩:=jz r;cases(show u=Value.ref d from b);obtain⟨⟨o,m,p,t,e,c,i,hT,g⟩,_⟩:=(show qf X.prog X.w H s.heap d (.ext (eO d n))from I.hok d _ j)
 refine call_len_set e c i hT (by omega) ?_;rw[g];exact⟨.int (n:Int),H,(I.tok _).tok _,⟨_,J⟩,q⟩
inductive kK(as:List V)(H:Hp)(Q:VK):Prop|mk:∀(p:Addr)(ns:List Int),as=[.ref p]->H p=some (.lst (ns.map V.int))->ns.length<1000->(∀d H',zg H H'->H d=none->Ce H' d (Wa [] ns).length->Q (.ref d) H')->kK as H Q
theorem GV(y:X.calm=true):jp X (.type "set") kK:=by
 intro e s C H as D Q I r h;obtain⟨p,f,rfl,w,F,q⟩:=h;obtain⟨u,rfl,i⟩:=jz r;cases(show u=Value.ref p from i);obtain⟨E,b,n,d,z⟩:=(show qf X.prog X.w H s.heap p (.lst (f.map V.int))from I.hok p _ w)
 have c:=d.length;rw[ae]at c;refine IY (its:=b) (I.ok.hd y) ⟨_,z,J,n,J⟩ (BI d) (by omega) λG g keep v=>?_;have a:=I.hok.fresh (ag s.heap.objs.size);obtain⟨o,A,B,t,x,m,l,_,_,_,k,j⟩:=v;exact⟨.ref s.heap.objs.size,_,I.laid (a:=s.heap.objs.size) (o:=.ext (eO s.heap.objs.size (Wa [] f).length)) (t':=g) keep (ag _) (eO.ok ⟨o,A,B,t,x,m,l,k,j⟩),J,q _ _ (zg.new a _) a zd⟩
end
end L2
namespace L2
open PySem PySem.Spec PyProof.Rows
variable{X:Cx}{e:Expr}
inductive fo(Q:VK)(a:Addr)(y z:V)(H3:Hp):Prop|mk:∀kvs k,y=kV k->H3 a=some (.dK kvs)->kvs.length<sizeLine->(∀v,yz kvs k=some v->Q v H3)->(yz kvs k=none->Q z (upd H3 a (.dK (vi kvs k z))))->fo Q a y z H3
inductive eF(ty tx:TE)(σ:St)(Q:VK)(x:V)(H1:Hp):Prop|mk:∀a,x=.ref a->rn H1 a->(ty σ H1 λy H2=>tx σ H2 λz H3=>fo Q a y z H3)->eF ty tx σ Q x H1
def Ec(Z B U:TE):TE:=λσ H Q=>Z σ H λx H1=>eF B U σ Q x H1
variable{o f:Expr}{apos cpos:Pos}{td ty tx:TE}
theorem Gi(ho:PE X o td)(he:PE X e ty)(hf:PE X f tx)(m:M2 X o "setdefault" apos e f cpos):PE X (.Call (.Attribute o "setdefault" apos) [e,f] [] cpos) (Ec td ty tx):=by
 intro b s n H Q I h;refine wpAny_Call_method m.base m.few m.line PySem.F.plainAttrs_dict PySem.F.slot_dict_setdefault PySem.F.type_dict_setdefault (aF (ho b s n H _ I h) λu L ⟨x,H1,D,N,a,ex,d,U⟩=>?_);subst ex;obtain rfl:u=Value.ref a:=N;obtain⟨G,F,_⟩:=so D d;refine⟨G,F,?_⟩;rw[m.trees];refine Calls.callWith_builtin J (Calls.evalArgs_plain (Calls.spliced_cons (aF (he b L n H1 _ D U) λiv K ⟨y,H2,I2,M,S⟩=>Calls.spliced_cons (aF (hf b K n H2 _ I2 S) λfv s3 ⟨z,H3,r,w,g,k,ey,B,hl,R,P⟩=>Calls.spliced_nil ?_))))
 subst ey;obtain⟨E,A,t,j,C⟩:=rM r.hok B;have W:t.length<=sizeLine:=by rw[<-j.length];exact E
 have i:=j.val k;refine call_meetsIn PySem.F.slot_dict_setdefault C.typeIs PySem.F.entry_dict_setdefault (PySem.F.args_dict_setdefault_3 _ _ _) (kt_meets_setdefault (ya X.prog X.w) a (Xm M) A fv) ⟨t,C,W,λv Z=>?_,λhn h' l hs=>?_⟩
 . rw[Z]at i;cases c:yz g k with|none=>rw[c]at i;exact i.elim|some p=>rw[c]at i;exact⟨p,H3,r.tok _,i,R p c⟩
 . rw[hn]at i;cases c:yz g k with|some p=>rw[c]at i;exact i.elim| none=>
     have hp:(vi g k z).length<=sizeLine:=by have:=xy g k z;omega
     have he:∃q,h'.get? a=some q:=let⟨q,_,_,hq,_⟩:=l;⟨q,hq⟩;exact⟨z,_,Z8 r (by rw[B];exact True.intro) hs he (p9 hp A (j.put k w) l),w,P c⟩
inductive ft(X:Cx)(Q:VK)(v:V)(H1:Hp):Prop|mk:∀d u,H1 d=some u->lu u->(∀o,(∀o' v',X.H₀ d≠some (.frz o' v'))->Q v (upd H1 d (.frz o u)))->ft X Q v H1
def D9(X:Cx)(B:TE):TE:=λσ H Q=>B σ H λv H1=>ft X Q v H1
inductive nT(X:Cx)(te:TE)(σ:St)(H:Hp)(Q:VK):Prop|mk:∀d o u,H d=some (.frz o u)->(∀o' v',X.H₀ d≠some (.frz o' v'))->te σ (upd H d u) Q->nT X te σ H Q
section
variable{te:TE}
theorem Gf(h:PE X e te):PE X e (D9 X te):=by intro a s c H Q I g;refine aF (h a s c _ _ I g) λv l i=>?_;obtain⟨x,m,J,r,d,u,e,b,k⟩:=i;have f:=J.nofrz e b;obtain⟨o,j⟩:=J.freeze e b;exact⟨x,_,j,r,k o f⟩
theorem xW(h:PE X e te):PE X e (nT X te):=by intro a s b H Q I f;obtain⟨d,o,u,e,c,q⟩:=f;exact h a s b _ Q (I.thaw e c) q
end
end L2
namespace My
open PySem PySem.Spec PyProof.Rows L2
variable{af:Addr}{X:Cx}{e:Expr}{base:Heap}{H:Hp}{σ:L2.St}{r:List (Str×V)}{es:List Expr}{cap:List Nat}{own ps:List Str}{xs:List V}{us:List Value}{i:Nat}{aD:Pos}{P:Program}{sp:Sp}{f x:Str}{mg:Str->Option Value}{te:TE}{v:V}{Q:VK}{w:World}
noncomputable def bA(i:Nat):Stmt:=Challenge.pw_meetwall_k35_whole_kinds_hold_and_cost.main.body.getD i (.Pass ⟨0,0,0,0⟩)
noncomputable abbrev Wq:Stmt:=bA 23
noncomputable abbrev Xa:Stmt:=bA 24
noncomputable abbrev j1:Stmt:=bA 25
noncomputable abbrev Zj:Stmt:=bA 26
noncomputable abbrev Qp:Stmt:=bA 27
noncomputable abbrev K2:Stmt:=bA 28
noncomputable abbrev Z9:Stmt:=bA 31
noncomputable abbrev Ys:Stmt:=bA 32
noncomputable abbrev Qq:Stmt:=bA 33
noncomputable abbrev Z3:Stmt:=bA 34
noncomputable abbrev Wr:Stmt:=bA 35
noncomputable abbrev jf:Stmt:=bA 36
noncomputable abbrev Qw:Stmt:=bA 37
noncomputable abbrev Zr:Stmt:=bA 38
noncomputable abbrev Yt:Stmt:=bA 39
noncomputable abbrev sU:Stmt:=bA 40
noncomputable abbrev Yr:Stmt:=bA 42
theorem Do:bootBuiltins "isinstance"=some (.builtin "isinstance"):=by decide+kernel
theorem qd:bootBuiltins "len"=some (.builtin "len"):=by decide+kernel
theorem Z0:bootBuiltins "all"=some (.builtin "all"):=by decide+kernel
theorem wT:bootBuiltins "sum"=some (.builtin "sum"):=by decide+kernel
theorem wQ:bootBuiltins "int"=some (.type "int"):=by decide+kernel
theorem Es:bootBuiltins "bool"=some (.type "bool"):=by decide+kernel
theorem wS:bootBuiltins "str"=some (.type "str"):=by decide+kernel
theorem Yn:bootBuiltins "tuple"=some (.type "tuple"):=by decide+kernel
theorem Qi:bootBuiltins "dict"=some (.type "dict"):=by decide+kernel
theorem Qh:bootBuiltins "list"=some (.type "list"):=by decide+kernel
def Ok(P:Program)(w:World)(K:W.Frag)(mg:Str->Option Value)(base:Heap)(x:Str)(k:Nat)(B:List Str)(sp:Sp):Prop:=∃f fd,cF P w K mg base fJ k f fd B sp/\Y6 K fd B []/\W.keepIn K (.ref f)=true/\mg x=some (.ref f)
theorem BT(h:us.length=1):∃a,us=[a]:=by match us,h with|[a],_=>exact⟨a,J⟩
theorem Ma(h:us.length=2):∃a b,us=[a,b]:=by match us,h with|[a,b],_=>exact⟨a,b,J⟩
theorem L9(h:us.length=3):∃a b c,us=[a,b,c]:=by match us,h with|[a,b,c],_=>exact⟨a,b,c,J⟩
theorem BS(h:us.length=4):∃a b c d,us=[a,b,c,d]:=by match us,h with|[a,b,c,d],_=>exact⟨a,b,c,d,J⟩
theorem L8(h:us.length=5):∃a b c d e,us=[a,b,c,d,e]:=by match us,h with|[a,b,c,d,e],_=>exact⟨a,b,c,d,e,J⟩
@[elab_as_elim] theorem Mh{P:O I->Prop}(h:us.length=1)(k:∀a,P [a]):P us:=by obtain⟨a,rfl⟩:=BT h;exact k a
@[elab_as_elim] theorem Mg{P:O I->Prop}(h:us.length=2)(k:∀a b,P [a,b]):P us:=by obtain⟨a,b,rfl⟩:=Ma h;exact k a b
@[elab_as_elim] theorem Mf{P:O I->Prop}(h:us.length=3)(k:∀a b c,P [a,b,c]):P us:=by obtain⟨a,b,c,rfl⟩:=L9 h;exact k a b c
@[elab_as_elim] theorem Me{P:O I->Prop}(h:us.length=4)(k:∀a b c d,P [a,b,c,d]):P us:=by obtain⟨a,b,c,d,rfl⟩:=BS h;exact k a b c d
@[elab_as_elim] theorem Md{P:O I->Prop}(h:us.length=5)(k:∀a b c d e,P [a,b,c,d,e]):P us:=by obtain⟨a,b,c,d,e,rfl⟩:=L8 h;exact k a b c d e
theorem yc{k:Nat}{p:Pos}{t:TA}(h:Ok X.prog X.w X.K X.mg X.base x k ps sp)(c:aQ k X.A)(j:PA X (e::es) t)(g:Gl X x:=by rfl)
  (b:(x==("__debug__":Str))=false:=by decide) (he:starEach (e::es) X.env=(false,eval e X.env)::starEach es X.env:=by rfl) (a:(backTo aD (starEach es X.env)).any (·.1)=false:=by rfl):
  PE X (.Call (.Name x p) (e::es) [] aD) (rW sp [] E0 t):=by obtain⟨f,l,F,i,hk,d⟩:=h;exact EZ F c g d hk i .nil pY j b he a
def bH(K:W.Frag)(mg:Str->Option Value)(x:Str)(st:Stmt):Prop:=∃f fd,iI K x x st f fd/\mg x=some (.ref f)
theorem xl{i:Int}(h:∃t,X.mg x=some (.int i t))(a:Gl X x:=by rfl)(b:(x==("__debug__":Str))=false:=by decide):PE X (.Name x aD) (tC (.int i)):=by obtain⟨t,h⟩:=h;exact zH a h ⟨t,J⟩ b
structure Txt(K:W.Frag)(mg:Str->Option Value):Prop where
 BOXES:∃t,mg "BOXES"=some (.int 0 t)
 WALLS:∃t,mg "WALLS"=some (.int 1 t)
 FIRSTS:∃t,mg "FIRSTS"=some (.int 2 t)
 SCRIPTS:∃t,mg "SCRIPTS"=some (.int 3 t)
 MOST_BOXES:∃t,mg "MOST_BOXES"=some (.int 99 t)
 MOST_WALLS:∃t,mg "MOST_WALLS"=some (.int 6 t)
 MOST_FIRSTS:∃t,mg "MOST_FIRSTS"=some (.int 40 t)
 MOST_SCRIPTS:∃t,mg "MOST_SCRIPTS"=some (.int 20 t)
 MOST_DEEDS_OF_SCRIPT:∃t,mg "MOST_DEEDS_OF_SCRIPT"=some (.int 80 t)
 MOST_HANDS:∃t,mg "MOST_HANDS"=some (.int 60 t)
 MOST_DEEDS:∃t,mg "MOST_DEEDS"=some (.int 1200 t)
 MOST_RAISED:∃t,mg "MOST_RAISED"=some (.int 99 t)
 MOST_AWAITED:∃t,mg "MOST_AWAITED"=some (.int 9999 t)
 MOST_WORKED:∃t,mg "MOST_WORKED"=some (.int 999 t)
 MOST_LETTERS:∃t,mg "MOST_LETTERS"=some (.int 8 t)
 MODES:∃a,mg "MODES"=some (.ref a)/\∀H,aE K H a [.str "both",.str "come",.str "go"]
 isi:mg "isinstance"=none
 int:mg "int"=none
 bool:mg "bool"=none
 str:mg "str"=none
 tuple:mg "tuple"=none
 dict:mg "dict"=none
 list:mg "list"=none
 len:mg "len"=none
 all:mg "all"=none
 sum:mg "sum"=none
 range:mg "range"=none
 enumerate:mg "enumerate"=none
 sorted:mg "sorted"=none
 zip:mg "zip"=none
inductive jL(A:T->Prop)(f:T->Bool)(vs:List V)(H:Hp)(Q:VK)(e0:XK):Prop|mk:∀t v,vs=[v]->Is H t v->A t->(∀H',zg H H'->Q (.bl (f t)) H')->jL A f vs H Q e0
section
variable{p1 p2:Pos}
theorem Yx{n:Str}{T:String}(h:X.mg "isinstance"=none)(g:X.mg n=none)(f:bootBuiltins n=some (.type T))(he:PE X e te)(j:Gl X "isinstance":=by rfl)(i:Gl X n:=by rfl)(c:n≠"__name__":=by decide)(d:(n==("__debug__":Str))=false:=by decide)
  (b:starEach [e,.Name n p2] X.env=(false,eval e X.env)::starEach [.Name n p2] X.env:=by rfl) (hp:(backTo aD (starEach [.Name n p2] X.env)).any (·.1)=false:=by rfl) (a:starEach [.Name n p2] X.env=(false,eval (.Name n p2) X.env)::starEach [] X.env:=by rfl):
  PE X (.Call (.Name "isinstance" p1) [e,.Name n p2] [] aD) (qK (my X.K) (Kk te (Kk (tC (.ty T)) lr))):=
 yd Ft j h Do (za he (za (EY i g f J c d) zc a) b) (he:=b)
end
noncomputable def nM:T->Bool|.int _=>true|_=>false
section
variable{K:W.Frag}
theorem L3:aA ["thing"] ["thing"] (ze Wq):=.of
theorem KU(D:bH K mg "is_whole" Wq)(T:Txt K mg):Ok P w K mg base "is_whole" 1 ["thing"] (jL (λ_=>True) nM):=by
 obtain⟨f,j,F,g⟩:=D;refine⟨f,j,?_,F.binds λ_ _ _ _ _ _ m i=>(by obtain⟨_,rfl⟩:=BT i;rfl),F.kp,g⟩;refine F.ok L3 (λd H Q E h=>?_) (λl A a s H d Q E n h=>?_);obtain⟨t,v,rfl,_⟩:=h;rfl;obtain⟨t,v,rfl,b,_,k⟩:=h;refine⟨_,zf (zj (ku (Yx T.isi T.int wQ (pv 0)) (j6 (xK (Yx T.isi T.bool Es (pv 0)))))),?_⟩;refine⟨v,"int",_,_,J,b.ty,Fa K t,_,J,?_⟩;refine ki (λc=>?_) (λc=>?_);refine⟨v,"bool",_,_,J,b.ty,FP K t,_,J,?_⟩;have e:(!BW t)=nM t:=by cases t<;>first|rfl|(exact absurd c (by simp[vT]))
 rw[e];exact k H (zg.refl H);have e:false=nM t:=by cases t<;>first|rfl|(exact absurd J c)
 rw[e];exact k H (zg.refl H)
end
abbrev fY:=Int×Str
inductive aH where|rai (b k:Int)|awa (b m:Int)|com (w:Int)|goo (w:Int)|lea (w:Int)|beg (s:Nat) (ms:List fY)|wor (d:Int)|say (x:Str)
abbrev yx:=List aH
abbrev Kd:=Nat×List fY
structure aB where
 b:Int
 w:Int
 fs:List Kd
 ss:List yx
noncomputable def pE(m:fY):T:=.tup [.int m.1,.str m.2]
noncomputable def mW(B:List fY):T:=.tup (B.map pE)
noncomputable def eD:aH->T|.rai b k=>.tup [.str "raise",.int b,.int k]|.awa b m=>.tup [.str "await",.int b,.int m]|.com w=>.tup [.str "come",.int w]|.goo w=>.tup [.str "go",.int w]|.lea w=>.tup [.str "leave",.int w]|.beg s B=>.tup [.str "begin",.int s,mW B]|.wor d=>.tup [.str "work",.int d]|.say x=>.tup [.str "say",.str x]
noncomputable def eS(s:yx):T:=.tup (s.map eD)
noncomputable def eC(c:Kd):T:=.tup [.int c.1,mW c.2]
noncomputable def eH(h:aB):T:=.tup [.int h.b,.int h.w,.tup (h.fs.map eC),.tup (h.ss.map eS)]
noncomputable def dw:aH->Str|.rai _ _=>"raise"|.awa _ _=>"await"|.com _=>"come"|.goo _=>"go"|.lea _=>"leave"|.beg _ _=>"begin"|.wor _=>"work"|.say _=>"say"
theorem Zy(d:aH):∃r,eD d=.tup (.str (dw d)::r):=by cases d<;>exact⟨_,J⟩
inductive px(K:W.Frag)(H:Hp)(v:V)(i:Nat)(t:T):Prop|mk:∀a xs u,v=.ref a->aE K H a xs->cZ xs ((i:Nat):Int)=some u->Is H t u->px K H v i t
theorem Is.at{K:W.Frag}{b:O T}{t:T}(h:Is H (.tup b) v)(e:b[i]?=some t):px K H v i t:=by obtain⟨a,c,rfl,f,d⟩:=h;obtain⟨u,j,g⟩:=d.get e;exact⟨a,c,u,J,aE.of f,xt j,g⟩
theorem yv{a:Scope}(b:Scope)(c:X.env.scope=b)(h:a.kind=.function)(g:∀x∈a.names,x.2=.free->b.names.lookup x.1=some .cell\/b.names.lookup x.1=some .free)(f:∀x∈a.names,x.2≠ .cell) (e:∀x∈a.names,x.2=.local->a.names.lookup x.1=some .local) (d:mS X a cap):bG X own cap a:=by subst c;exact⟨h,g,f,e,d⟩
theorem W4{A B:L2.St->Hp->Prop}(h:A (σ.set i (some v)) H):km i v σ H (λa H2=>nF a H2 λb c=>if b=true then A a c else B a c):=by
 show if true=true then A (σ.set i (some v)) H else B (σ.set i (some v)) H
 exact ww h
theorem BV{A B:Hp->Prop}(h:A H):nF σ H (λb a=>if b=true then A a else B a):=by
 show if true=true then A H else B H
 exact ww h
theorem vm{o:Option NameKind}(h:o=some .cell):o≠some .local:=λz=>by simp_all
theorem Jz{n:Nat}(h:n<=1000):n<=sizeLine:=Nat.le_of_lt (wc h)
theorem Xg:PE X e (λ_ _ _=>False):=λ_ _ _ _ _ _ h=>h.elim
theorem uc{K:W.Frag}{k:Nat}(h:H af=some (.tup xs))(r:xs.length<=1000)(p:∀(i:Nat)(x:V)(c:Hp)(R:VK),xs[i]?=some x->zg H c->(∀j,zg c j->R (.bl true) j)->te ((bS k cap σ).set 0 (some x)) c R)(n:∀c,zg H c->Q (.bl true) c):bZ (nj K af) (km 0) nF te k cap σ H (λv H1=>∃(a:Y)(bs:O Bool),[v]=[V.ref a]/\aI K H1 a (bs.map V.bl)/\Q (.bl (bs.all id)) H1):=by
 refine nL (xs:=xs) (λi f d=>zg H d/\f=List.replicate i (V.bl true)) ⟨zg.refl H,J⟩ (λi f d s ⟨b,q⟩=>⟨aE.of (b _ _ h),by rw[q,dk];exact Jz (by omega)⟩) ?_ ?_
 . rintro i x f d o ⟨b,rfl⟩;exact W4 (p i x d _ o b λj l=>⟨b.trans l,f6.symm⟩)
 . rintro f d ⟨b,rfl⟩ m g;refine⟨m,List.replicate xs.length true,J,aI.of (by rw[zd,List.map_replicate]),?_⟩;have e:(List.replicate xs.length true).all id=true:=by simp
   rw[e];exact n _ (b.trans (zg.new g _))
inductive spT(A:List V->Hp->Prop)(vs:List V)(H:Hp)(Q:VK)(e0:XK):Prop|mk:A vs H->(∀H',zg H H'->Q (.bl true) H')->spT A vs H Q e0
def mB(vs:List V)(_:Hp):Prop:=∃i lo hi,vs=[.int i,.int lo,.int hi]/\lo<=i/\i<=hi
def pe(vs:List V)(H:Hp):Prop:=∃ts v lo hi,vs=[v,.int lo,.int hi]/\Is H (.tup ts) v/\lo<=(ts.length:Int)/\(ts.length:Int)<=hi
def Cb(vs:List V)(H:Hp):Prop:=∃x v h,vs=[.int x,v]/\Is H (eH h) v/\0<=x/\x<h.b
noncomputable def vV(c:Nat):Bool:= !decide ((⟨#[c]⟩:Str).cps.toList<("a":Str).cps.toList) && !decide (("z":Str).cps.toList<(⟨#[c]⟩:Str).cps.toList)
noncomputable def qG(x:Str):Bool:=decide (1<=x.length/\x.length<=8) && x.cps.toList.all vV
def qT(vs:List V)(_:Hp):Prop:=∃x,vs=[.str x]/\qG x=true
section
variable{K:W.Frag}
theorem wj{st:Stmt}{N:O Str}{k:Nat}(D:bH K mg x st)(S:aA N ps (ze st))(a:∀(f:Y)(cdv:I)(A:Around)(outer:O Env)(s:Shared)(H:Hp)(vs:O V)(Q:VK)(E:XK),aQ k (A.deeper (envOfC x (ze st) s.heap.objs.size f cdv))->sp vs H Q E-> let X:=(iK fJ P w K mg base N x (ze st) f cdv A outer s H E).nox;∃t,eE X (wy st) t/\t (.of Q) (start N vs) H) (c:autoParam (∀vs H Q E,sp vs H Q E->vs.length=ps.length) uM._auto_1) (j:autoParam (∀(kV d e:I)(n:Option Y)(cdv m:I)(b:O I),b.length=ps.length->bindArgs (W.fnOf x x (ju st) (wy st) (ze st) .none kV d e n cdv m) ⟨b,[]⟩=pure (ps.zip b)) uL._auto_1):Ok P w K mg base x (k+1) ps sp:=by obtain⟨f,l,F,i⟩:=D;exact⟨f,l,F.ok S c (λcdv A outer s H vs Q E g h=>a f cdv A outer s H vs Q E g h),F.binds j,F.kp,i⟩
theorem Ik:aA ["thing","least","most"] ["thing","least","most"] (ze Xa):=.of
theorem Lo(D:bH K mg "is_within" Xa)(c:Ok P w K mg base "is_whole" 1 ["thing"] (jL (λ_=>True) nM)):Ok P w K mg base "is_within" 2 ["thing","least","most"] (spT mB):=by refine wj D Ik ?_;rintro f j A a s H m Q E d ⟨⟨i,lo,e,rfl,h,g⟩,k⟩ X;refine⟨_,zf (zj (ku (yc c d (za (pv 0) zc)) (j6 (uw ly ly (pv 1) (pv 0) (pv 2))))),?_⟩;refine⟨.int i,_,J,J,trivial,λl b=>⟨_,J,ww ⟨lo,i,J,J,_,J,?_⟩⟩⟩;rw[bn h];refine ww ⟨i,e,J,J,?_⟩;rw[bn g];exact k l b
theorem C3:aA ["thing","least","most"] ["thing","least","most"] (ze j1):=.of
theorem Ww(D:bH K mg "is_tuple_within" j1)(T:Txt K mg):Ok P w K mg base "is_tuple_within" 1 ["thing","least","most"] (spT pe):=by refine wj D C3 ?_;rintro f m A b s H n Q E o ⟨⟨h,v,lo,j,rfl,c,e,d⟩,k⟩ X;refine⟨_,zf (zj (ku (Yx T.isi T.tuple Yn (pv 0)) (j6 (uw ly ly (pv 1) (yd yp J T.len qd (za (pv 0) zc)) (pv 2))))),?_⟩;refine⟨v,"tuple",_,_,J,c.ty,Bk K (.tup h),_,J,ww ?_⟩;obtain⟨a,g,rfl,l,i⟩:=c;rw[<-i.length]at e d;refine⟨a,g,J,.inr (aE.of l),lo,_,J,J,_,J,?_⟩;rw[bn e];refine ww ⟨_,j,J,J,?_⟩;rw[bn d];exact k H (zg.refl H)
theorem D3:aA ["thing","house"] ["thing","house"] (ze K2):=.of
theorem HA(D:bH K mg "is_box" K2)(T:Txt K mg)(e:Ok P w K mg base "is_within" 2 ["thing","least","most"] (spT mB)):Ok P w K mg base "is_box" 3 ["thing","house"] (spT Cb):=by refine wj D D3 ?_;rintro f n A b s H o Q E j ⟨⟨x,v,h,rfl,g,l,p⟩,k⟩ X;obtain⟨a,c,u,rfl,d,m,i⟩:=Is.at (i:=0) g J;cases(i);exact⟨_,zf (zj (yc e j (za (pv 0) (za zh (za (yk Wu (zt zp (pv 1) (xl T.BOXES)) zh) zc))))),a,c,_,_,J,J,d,m,_,_,J,J,⟨x,0,h.b-1,J,l,by omega⟩,k⟩
theorem KI:aA ["thing"] ["thing"] (ze Zj):=.of
theorem LG(D:bH K mg "is_letters" Zj)(T:Txt K mg):Ok P w K mg base "is_letters" 1 ["thing"] (spT qT):=by
 refine wj D KI ?_;rintro f q A j s H u Q E v ⟨⟨x,rfl,a⟩,k⟩ X;refine⟨_,zb (yg (PW.pt (Zt (xb (y6 (Yx T.isi T.str wS (pv 0)))) (j3 (zo xz (yd Qg (by rfl) T.len qd (za (pv 0) zc)) zh (zx _))))) (zf (zj wn)) zn) (zf (zj (yd (je J) J T.all Z0 (za (qj (own:=["letter"]) (cap:=[]) J (yv (ze Zj) J J (by decide+kernel) (by decide+kernel) (by decide+kernel) trivial) (D1 (pv 0)) (λ_ _ _ _=>zk (i:=0) (by show(["letter"]:O Str).Nodup;decide+kernel)) (λ_ _ _ _=>wb) (λ_ _ _ _=>uw Bn Bn zy (pv 0) zy)) zc)))),?_⟩
 unfold qG at a;rw[cg,decide_eq_true_eq,cy]at a;obtain⟨⟨t,r⟩,a⟩:=a;have l:x.length<=sizeLine:=Jz (by omega);refine⟨.str x,"str",_,_,J,(show Is H (.str x) (.str x)from rfl).ty,zZ K (.str x),_,J,yi ⟨x,J,l,J,_,J,?_⟩⟩;rw[tF];refine ki (λc=>absurd (show x.length=0 by simpa using c) (by omega)) (λ_=>⟨x,J,?_⟩);have m:x.cps.size<=sizeLine:=l;refine Eh (λi b h=>h=H/\b=List.replicate i (V.bl true)) ⟨J,J⟩ (λi b h y ⟨_,e⟩=>by rw[e,dk];omega) ?_ ?_
 . rintro i c b h o ⟨rfl,rfl⟩;refine W4 ?_;have g:=a c (br (by rw[Array.getElem?_toList];exact o));unfold vV at g;rw[cg]at g;refine⟨"a",_,J,J,_,J,ki (λ_=>⟨_,"z",J,J,J,?_⟩) (λd=>absurd g.1 d)⟩;rw[g.2];exact f6.symm
 . rintro b h ⟨rfl,rfl⟩ p n;refine⟨p,List.replicate x.cps.size true,J,aI.of (by rw[zd,List.map_replicate]),?_⟩;have e:(List.replicate x.cps.size true).all id=true:=by simp
   rw[e];exact k _ (zg.new n _)
theorem FA:aA ["thing"] ["thing"] (ze Qp):=.of
theorem I0(D:bH K mg "is_word" Qp)(T:Txt K mg)(e:Ok P w K mg base "is_letters" 1 ["thing"] (spT qT)):Ok P w K mg base "is_word" 2 ["thing"] (spT qT):=by refine wj D FA ?_;rintro f h A b s H j Q E g ⟨⟨x,rfl,c⟩,k⟩ X;refine⟨_,zf (zj (ku (yc e g (za (pv 0) zc)) (j6 (qg ly (yd Qg (by rfl) T.len qd (za (pv 0) zc)) (xl T.MOST_LETTERS) (zx _))))),?_⟩;have a:=c;unfold qG at a;rw[cg,decide_eq_true_eq]at a;refine⟨⟨x,J,c⟩,λi d=>⟨_,J,ww ⟨x,J,Jz (by omega),_,8,J,J,?_⟩⟩⟩;rw[bn (by omega)];exact k i d
end
def jP(b:Int):aH->Prop|.rai x k=>0<=x/\x<b/\1<=k/\k<=99|.awa x m=>0<=x/\x<b/\1<=m/\m<=9999|.say x=>x="come"\/x="go"|_=>False
def f9:aH->Prop|.com _=>False|.goo _=>False|.lea _=>False|.beg _ _=>False|_=>True
theorem jP.no{b:Int}{d:aH}(h:jP b d):f9 d:=by cases d<;>first|trivial|exact h.elim
structure pz(h:aB):Prop where
 b0:0<=h.b
 b99:h.b<=99
 w0:h.w=0
 n1:1<=h.ss.length
 n20:h.ss.length<=20
 f1:1<=h.fs.length
 f17:h.fs.length<=17
 call:∀c∈h.fs,c.1<h.ss.length/\c.2=[]
 len:∀s∈h.ss,s.length<=30
 pl:∀s∈h.ss,∀d∈s,jP h.b d
def B7(vs:List V)(H:Hp):Prop:=∃v B,vs=[v,B]/\Is H (mW []) v
def Ca(vs:List V)(H:Hp):Prop:=∃(i:Nat)(v:V)(B:Int)(h:aB)(U:V),vs=[v,.int B,U]/\Is H (eC (i,[])) v/\Is H (eH h) U/\B<=(i:Int)/\i<h.ss.length
def B9(vs:List V)(H:Hp):Prop:=∃d v B h U,vs=[v,.int B,U]/\Is H (eD d) v/\Is H (eH h) U/\jP h.b d
def B5(vs:List V)(H:Hp):Prop:=∃s v B h U,vs=[v,.int B,U]/\Is H (eS s) v/\Is H (eH h) U/\s.length<=80/\∀d∈s,jP h.b d
def jO(vs:List V)(H:Hp):Prop:=∃h v,vs=[v]/\Is H (eH h) v/\pz h
def Cc(vs:List V)(H:Hp):Prop:=∃d B u,vs=[B,u]/\Is H (eD d) B/\f9 d
def B8(vs:List V)(H:Hp):Prop:=∃(ss:List yx)(B:V)(j:Nat)(U:V),vs=[B,U]/\Is H (.tup (ss.map eS)) B/\Is H (eC (j,[])) U/\j<ss.length/\∀s∈ss,∀d∈s,f9 d
def Ch(B:List yx)(lo:Nat)(H:Hp)(d:Addr):Prop:=∃kvs:List (aM×V),H d=some (.dK kvs)/\kvs.length<=B.length-lo/\∀j,lo<=j->j<B.length->∃p,yz kvs (Sum.inl (j:Int):aM)=some (.ref p)/\H p=some (.tup [.int 1,.int ((B.getD j []).length:Int)])
inductive mr(vs:List V)(H:Hp)(Q:VK)(e0:XK):Prop|mk:∀(ss:List yx)(v:V),vs=[v]->Is H (.tup (ss.map eS)) v->ss.length<=20->(∀s∈ss,∀d∈s,f9 d)->(∀d H',zg H H'->Ch ss 0 H' d->Q (.ref d) H')->mr vs H Q e0
section
variable{K:W.Frag}
theorem Wk:aA ["thing","house","last","member"] ["thing","house"] (ze Z9):=.of
theorem LR(D:bH K mg "are_members" Z9)(T:Txt K mg):Ok P w K mg base "are_members" 1 ["thing","house"] (spT B7):=by
 refine wj (k:=0) D Wk ?_;rintro f n A d s H o Q E q ⟨⟨v,p,rfl,g⟩,k⟩ X;refine⟨_,zb (yg (xb (y6 (Yx T.isi T.tuple Yn (pv 0)))) (zf (zj wn)) zn) (zb (zr (i:=2) Wk.nd (rX tz zh)) (zb (wa PassesOwn.never J (j5 (pv 0)) (zk (i:=3) Wk.nd) yy) (zf (zj wn)))),?_⟩
 refine⟨v,"tuple",_,_,J,Is.ty (t:=.tup []) g,Bk K (.tup []),_,J,yi ?_⟩;obtain⟨a,j,rfl,h,m⟩:=g;cases(show j=[]from m);refine⟨_,J,a,J,⟨[],aE.of h⟩,X5 (xs:=[]) (λi c b=>b=H) J (λi c b _ e=>by rw[e];exact aE.of h) (λi x c b l _=>by cases l) λc b e=>by rw[e];exact k H (zg.refl H)⟩
theorem KD:aA ["thing","least","house"] ["thing","least","house"] (ze Ys):=.of
theorem LF(D:bH K mg "is_calling" Ys)(T:Txt K mg)(U:Ok P w K mg base "is_tuple_within" 1 ["thing","least","most"] (spT pe))(S:Ok P w K mg base "is_within" 2 ["thing","least","most"] (spT mB))(R:Ok P w K mg base "are_members" 1 ["thing","house"] (spT B7)):Ok P w K mg base "is_calling" 6 ["thing","least","house"] (spT Ca):=by
 refine wj (k:=5) D KD ?_;rintro f aa A n s H vs Q E r ⟨⟨i,v,o,h,hv,rfl,C,W,Z,h2⟩,k⟩ X;refine⟨_,zb (yg (xb (y6 (yc U (r.mono (by decide)) (za (pv 0) (za zh (za zh zc)))))) (zf (zj wn)) zn) (zf (zj (ku (yc S (r.mono (by decide)) (za (zt zp (pv 0) zh) (za (pv 1) (za (yk Wu (yd yp J T.len qd (za (zt zp (pv 2) (xl T.SCRIPTS)) zc)) zh) zc)))) (j6 (yc R (r.mono (by decide)) (za (zt zp (pv 0) zh) (za (pv 2) zc))))))),?_⟩
 refine⟨⟨_,v,2,2,J,C,ef _,ef _⟩,λH1 m=>⟨_,J,yi ?_⟩⟩;have d:=C.mono m;obtain⟨a,F,L,rfl,M,ea,p⟩:=Is.at (i:=0) d J;cases(show L=.int (i:Int)from p);obtain⟨ah,G,uh,rfl,j,y,q⟩:=Is.at (i:=3) (W.mono m) J;obtain⟨as,e,rfl,x,t⟩:=q;have u:=t.length;rw[ae]at u;refine⟨a,F,_,_,J,J,M,ea,ah,G,_,_,J,J,j,y,as,e,J,.inr (aE.of x),_,_,J,J,⟨_,_,_,J,Z,by omega⟩,λH2 B=>⟨_,J,ww ?_⟩⟩;obtain⟨a2,g,b,e2,l,z,c⟩:=Is.at (i:=1) (d.mono B) J;cases e2;exact⟨a,g,_,b,J,J,l,z,⟨b,_,J,c⟩,λH3 N=>k H3 (m.trans (B.trans N))⟩
theorem zK:aA ["thing","number","house","word"] ["thing","number","house"] (ze Qq):=.of
theorem JR(D:bH K mg "is_deed" Qq)(T:Txt K mg)(o1:Ok P w K mg base "is_tuple_within" 1 ["thing","least","most"] (spT pe))(o2:Ok P w K mg base "is_within" 2 ["thing","least","most"] (spT mB))(o4:Ok P w K mg base "is_box" 3 ["thing","house"] (spT Cb))(o6:Ok P w K mg base "is_word" 2 ["thing"] (spT qT)):Ok P w K mg base "is_deed" 7 ["thing","number","house"] (spT B9):=by
 refine wj (k:=6) D zK ?_;rintro f ah A G s H vs Q E S ⟨⟨d,v,aa,h,hv,rfl,ht,hH,i⟩,k⟩ X;have r1:=S.mono (show 1<=6 by decide);have F:=S.mono (show 2<=6 by decide);have r3:=S.mono (show 3<=6 by decide);refine⟨_,zb (yg (PW.pt (Zt (xb (y6 (yc o1 r1 (za (pv 0) (za zh (za zh zc)))))) (j3 (xb (y6 (Yx T.isi T.str wS (zt zp (pv 0) zh))))))) (zf (zj wn)) zn) (zb (zr (i:=3) zK.nd (zt zp (pv 0) zh)) (zb (yg (zo xz (pv 3) zy (zx _)) yy zn) (zb (yg (zo xz (pv 3) zy (zx _)) (zf (zj (ku (qg xz (yd yp (by rfl) T.len qd (za (pv 0) zc)) zh (zx _)) (ku (yc o4 r3 (za (zt zp (pv 0) zh) (za (pv 2) zc))) (j6 (yc o2 F (za (zt zp (pv 0) zh) (za zh (za (xl T.MOST_RAISED) zc))))))))) zn) (zb (yg (zo xz (pv 3) zy (zx _)) (zf (zj (ku (qg xz (yd yp (by rfl) T.len qd (za (pv 0) zc)) zh (zx _)) (ku (yc o4 r3 (za (zt zp (pv 0) zh) (za (pv 2) zc))) (j6 (yc o2 F (za (zt zp (pv 0) zh) (za zh (za (xl T.MOST_AWAITED) zc))))))))) zn) (zb (yg (zo Wd (yd yp (by rfl) T.len qd (za (pv 0) zc)) zh (zx _)) yy zn) (zb (yg (zo X2 (pv 3) (jx (za zy (za zy (za zy zc)))) J) yy zn) (zb (yg (zo xz (pv 3) zy (zx _)) yy zn) (zf (zj (ku (qg xz (pv 3) zy (zx _)) (j6 (yc o6 F (za (zt zp (pv 0) zh) zc))))))))))))),?_⟩
 obtain⟨r,o⟩:=Zy d;have hl:(r.length=1/\∃x,d=.say x)\/r.length=2:=by cases d<;>first|exact i.elim|(injection o with e;injection e with _ e;rw[<-e];simp)
 refine⟨⟨_,v,2,3,J,o▸ht,by rw[df];omega,by rw[df];omega⟩,λH1 q=>⟨_,J,yi ?_⟩⟩;have g:=ht.mono q;have u:=hH.mono q;obtain⟨a,xs,u0,rfl,sq,ea,R⟩:=Is.at (K:=K) (i:=0) (t:=.str (dw d)) (o▸g) J;cases(show u0=.str (dw d)from R);refine⟨a,xs,_,_,J,J,sq,ea,.str (dw d),"str",_,_,J,(show Is H1 (.str (dw d)) (.str (dw d))from rfl).ty,zZ K (.str (dw d)),_,J,yi ⟨a,xs,_,_,J,J,sq,ea,J,_,J,?_⟩⟩;cases d with
 | rai B m=>obtain⟨W,U,M,L⟩:=i;obtain⟨a',j,z,c,l⟩:=g;cases z;have b:j.length=3:=l.length;refine yi ⟨J,_,J,ww ⟨a,j,J,.inr (aE.of c),J,_,J,?_⟩⟩;rw[b];obtain⟨_,_,rfl,_,_,_,rfl,t,_,_,rfl,N,_⟩:=id l;cases(t);cases(N);refine ww ⟨a,_,1,.int B,J,J,aE.of c,(show cZ _ ((1:Nat):Int)=_ from xt J),⟨B,hv,h,J,u,W,U⟩,λH2 n=>⟨_,J,ww ⟨a,_,2,.int m,J,J,aE.of (n _ _ c),(show cZ _ ((2:Nat):Int)=_ from xt J),⟨m,1,99,J,M,L⟩,λZ C=>k Z (q.trans (n.trans C))⟩⟩⟩
 | awa B m=>obtain⟨W,U,M,L⟩:=i;obtain⟨a',j,z,c,l⟩:=g;cases z;have b:j.length=3:=l.length;refine yi ⟨J,_,J,yi ⟨J,_,J,ww ⟨a,j,J,.inr (aE.of c),J,_,J,?_⟩⟩⟩;rw[b];obtain⟨_,_,rfl,_,_,_,rfl,t,_,_,rfl,N,_⟩:=id l;cases(t);cases(N);refine ww ⟨a,_,1,.int B,J,J,aE.of c,(show cZ _ ((1:Nat):Int)=_ from xt J),⟨B,hv,h,J,u,W,U⟩,λH2 n=>⟨_,J,ww ⟨a,_,2,.int m,J,J,aE.of (n _ _ c),(show cZ _ ((2:Nat):Int)=_ from xt J),⟨m,1,9999,J,M,L⟩,λZ C=>k Z (q.trans (n.trans C))⟩⟩⟩
 | say x=>
   obtain⟨a',j,z,c,l⟩:=g;cases z;have b:j.length=2:=l.length;refine yi ⟨J,_,J,yi ⟨J,_,J,yi ⟨a,j,J,.inr (aE.of c),J,_,J,?_⟩⟩⟩;rw[b];obtain⟨_,_,rfl,_,_,_,rfl,t,_⟩:=id l;cases(t);refine yi ⟨by decide,λp hp=>⟨p,_,J,.inr (aE.of zd),J,J,_,J,yi ⟨J,_,J,yi ⟨J,_,J,ww ?_⟩⟩⟩⟩;have sp:=zg.new hp (.tup [.str "come",.str "go",.str "leave"]);have wx:qG x=true:=by rcases i with rfl|rfl<;>decide+kernel
   exact⟨a,_,1,.str x,J,J,aE.of (sp _ _ c),(show cZ _ ((1:Nat):Int)=_ from xt J),⟨x,J,wx⟩,λH2 n=>k H2 (q.trans (sp.trans n))⟩
 |com x=>exact i.elim
 |goo x=>exact i.elim
 |lea x=>exact i.elim
 |beg x y=>exact i.elim
 |wor x=>exact i.elim
theorem Ii:aA ["thing","number","house"] ["thing","number","house"] (ze Z3):=.of
theorem Ln(D:bH K mg "is_script" Z3)(T:Txt K mg)(z:Ok P w K mg base "is_tuple_within" 1 ["thing","least","most"] (spT pe))(y:Ok P w K mg base "is_deed" 7 ["thing","number","house"] (spT B9)):Ok P w K mg base "is_script" 8 ["thing","number","house"] (spT B5):=by
 refine wj (k:=7) D Ii ?_;rintro f W A e s H Z Q E o ⟨⟨l,v,g,h,G,rfl,n,N,U,S⟩,k⟩ X;refine⟨_,zb (yg (xb (y6 (yc z (o.mono (by decide)) (za (pv 0) (za zh (za (xl T.MOST_DEEDS_OF_SCRIPT) zc)))))) (zf (zj wn)) zn) (zf (zj (yd (je J) J T.all Z0 (za (qj (own:=["deed"]) (cap:=[1,2]) J (yv (ze Z3) J J (by decide+kernel) (by decide+kernel) (by decide+kernel) ⟨⟨_,J,.inl J,vm J⟩,⟨_,J,.inl J,vm J⟩,trivial⟩) (j5 (pv 0)) (λ_ _ _ _=>zk (i:=0) (by show(["deed","number","house"]:O Str).Nodup;decide+kernel)) (λ_ _ _ _=>wb)
   (λ_ _ _ _=>yc y o (za (pv 0) (za (pv 1) (za (pv 2) zc))))) zc)))),?_⟩
 have L:(l.map eD).length=l.length:=ae _;refine⟨⟨_,v,0,80,J,n,by omega,by omega⟩,λH1 c=>⟨_,J,yi ?_⟩⟩;obtain⟨a,t,rfl,q,p⟩:=n.mono c;have C:=p.length;refine⟨a,J,⟨t,aE.of q⟩,uc q (by omega) (λi x r R F m B=>?_) λr u=>k r (c.trans u)⟩;obtain⟨tt,b,j⟩:=p.get' F;rw[aj]at b;obtain⟨d,M,rfl⟩:=cm.mp b;exact⟨⟨d,x,g,h,G,J,j.mono m,N.mono (c.trans m),S d (br M)⟩,B⟩
theorem Gz:aA ["thing"] ["thing"] (ze Wr):=⟨J,J,J,by simp,J,by decide+kernel,by decide+kernel⟩
theorem KQ(D:bH K mg "is_frame" Wr)(T:Txt K mg)(i:Ok P w K mg base "is_tuple_within" 1 ["thing","least","most"] (spT pe))(x:Ok P w K mg base "is_within" 2 ["thing","least","most"] (spT mB)):Ok P w K mg base "is_frame" 3 ["thing"] (spT jO):=by
 refine wj (k:=2) D Gz ?_;rintro f ah A g s H vs Q E n ⟨⟨h,v,rfl,y,F⟩,k⟩ X;have c:=n.mono (show 1<=2 by decide);obtain⟨b0,t,w0,n1,U,f1,aa,_⟩:=F;refine⟨_,zb (yg (xb (y6 (yc i c (za (pv 0) (za zh (za zh zc)))))) (zf (zj wn)) zn) (zb (yg (PW.pt (Zt (xb (y6 (yc x n (za (zt zp (pv 0) (xl T.BOXES)) (za zh (za (xl T.MOST_BOXES) zc)))))) (j3 (xb (y6 (yc x n (za (zt zp (pv 0) (xl T.WALLS)) (za zh (za (xl T.MOST_WALLS) zc))))))))) (zf (zj wn)) zn)
  (zf (zj (ku (yc i c (za (zt zp (pv 0) (xl T.FIRSTS)) (za zh (za (xl T.MOST_FIRSTS) zc)))) (j6 (yc i c (za (zt zp (pv 0) (xl T.SCRIPTS)) (za zh (za (xl T.MOST_SCRIPTS) zc))))))))),?_⟩
 refine⟨⟨_,v,4,4,J,y,ef _,ef _⟩,λH1 b=>⟨_,J,yi ?_⟩⟩;have j:∀{G:Hp},zg H G->∃p q r,v=.ref p/\G p=some (.tup [.int h.b,.int h.w,q,r])/\Is G (.tup (h.fs.map eC)) q/\Is G (.tup (h.ss.map eS)) r:=λ{G} L=>by obtain⟨p,xs,rfl,hp,u1,c,rfl,i1,u2,r2,rfl,Z,C,N,rfl,m,B,e,rfl,l,W⟩:=y.mono L;cases(i1);cases(Z);cases(show e=[]from W);exact⟨p,C,B,J,hp,m,l⟩
 obtain⟨p,q,r,rfl,z,_,_⟩:=j b;have lf:(h.fs.map eC).length=h.fs.length:=ae _;have ls:(h.ss.map eS).length=h.ss.length:=ae _;refine⟨p,_,_,_,J,J,aE.of z,J,⟨_,0,99,J,b0,t⟩,λH2 a=>⟨_,J,yi ?_⟩⟩;refine⟨p,_,_,_,J,J,aE.of (a _ _ z),J,⟨_,0,6,J,by omega,by omega⟩,λH3 d=>⟨_,J,yi ?_⟩⟩;obtain⟨S,R,N,o,h3,m,_⟩:=j (b.trans (a.trans d));cases o;refine⟨p,_,_,_,J,J,aE.of h3,J,⟨_,R,1,40,J,m,by omega,by omega⟩,λH4 u=>⟨_,J,ww ?_⟩⟩;obtain⟨S,q4,e,o,h4,_,l⟩:=j (b.trans (a.trans (d.trans u)));cases o;exact⟨p,_,_,_,J,J,aE.of h4,J,⟨_,e,1,20,J,l,by omega,by omega⟩,λH5 M=>k H5 (b.trans (a.trans (d.trans (u.trans M))))⟩
end
section
variable{K:W.Frag}
theorem rV:aA ["thing","number","script"] ["thing"] (ze jf):=.of
theorem V3(D:bH K mg "is_well_formed" jf)(T:Txt K mg)(o1:Ok P w K mg base "is_frame" 3 ["thing"] (spT jO))(o2:Ok P w K mg base "is_script" 8 ["thing","number","house"] (spT B5))(o3:Ok P w K mg base "is_calling" 6 ["thing","least","house"] (spT Ca)):Ok P w K mg base "is_well_formed" 9 ["thing"] (spT jO):=by
 refine wj (k:=8) D rV ?_;rintro f av A B s H vs Q E Z ⟨⟨h,v,rfl,l,F⟩,k⟩ X;refine⟨_,zb (yg (xb (y6 (yc o1 (Z.mono (by decide)) (za (pv 0) zc)))) (zf (zj wn)) zn) (zb (wa PassesOwn.never J (J8 J T.enumerate (za (zt zp (pv 0) (xl T.SCRIPTS)) zc)) (jw J (yn (zk (i:=1) rV.nd) (yn (zk (i:=2) rV.nd) ql))) (zf (yg (xb (y6 (yc o2 Z (za (pv 2) (za (pv 1) (za (pv 0) zc)))))) (zf (zj wn)) zn)))
  (zf (zj (yd (je J) J T.all Z0 (za (qj (own:=["calling"]) (cap:=[0]) J (yv (ze jf) J J (by decide+kernel) (by decide+kernel) (by decide+kernel) ⟨⟨_,J,.inl J,vm J⟩,trivial⟩) (j5 (zt zp (pv 0) (xl T.FIRSTS))) (λ_ _ _ _=>zk (i:=0) (by show(["calling","thing"]:O Str).Nodup;decide+kernel)) (λ_ _ _ _=>wb)
   (λ_ _ _ _=>yc o3 (Z.mono (by decide)) (za (pv 0) (za zh (za (pv 1) zc))))) zc))))),?_⟩
 refine⟨⟨h,v,J,l,F⟩,λH1 z=>⟨_,J,yi ?_⟩⟩;obtain⟨a,xs,us,rfl,sq,ea,S⟩:=Is.at (K:=K) (i:=3) (l.mono z) J;obtain⟨as,r,rfl,n,aa⟩:=S;refine⟨a,xs,_,_,J,J,sq,ea,as,r,J,aE.of n,?_⟩;refine uD (K:=K) (λi q e=>∃C t,q=[some (.ref a),C,t]/\zg H1 e) ⟨none,none,J,zg.refl H1⟩ (λi q e _ ⟨_,_,_,j⟩=>aE.of (j _ _ n)) ?_ ?_
 . rintro i x q e p N ⟨C,t,rfl,j⟩ hp;obtain⟨tt,b,L⟩:=aa.get' N;rw[aj]at b;obtain⟨y,W,rfl⟩:=cm.mp b;have hm:=br W;have g:=j.trans (zg.new hp (.tup [.int i,x]));refine⟨p,_,J,aE.of zd,J,_,_,J,_,_,J,J,?_⟩;exact⟨⟨y,x,i,h,_,J,L.mono g,l.mono (z.trans g),by have:=F.len y hm;omega,F.pl y hm⟩,λH4 s4=>⟨_,J,yi ⟨_,_,J,g.trans s4⟩⟩⟩
 rintro q H2 ⟨C,t,rfl,j⟩;have d:=z.trans j;obtain⟨a',xf,uf,e',u,ap,U⟩:=Is.at (K:=K) (i:=2) (l.mono d) J;cases e';obtain⟨af,xf,rfl,o,m⟩:=U;have ah:=m.length;rw[ae]at ah;have aq:=F.f17;refine⟨a,_,_,_,J,J,u,ap,af,J,⟨xf,aE.of o⟩,uc o (by omega) (λi x e R N g kk=>?_) λe s'=>k e (d.trans s')⟩;obtain⟨tt,b,G⟩:=m.get' N;rw[aj]at b;obtain⟨c,hc,rfl⟩:=cm.mp b;obtain⟨c1,c2⟩:=F.call c (br hc);have M:Is e (eC (c.1,[])) x:=c2▸G.mono g;exact⟨⟨c.1,x,0,h,_,J,M,l.mono (d.trans g),by omega,c1⟩,kk⟩
theorem kr:aA ["scripts","brought","number","hands","deeds","deed"] ["scripts"] (ze Qw):=.of
theorem JM(D:bH K mg "brought_by_scripts" Qw)(T:Txt K mg):Ok P w K mg base "brought_by_scripts" 1 ["scripts"] mr:=by
 refine wj (k:=0) D kr ?_;rintro f bb A ap s H vs Q E hr ⟨c,v,rfl,ht,ba,hN,k⟩ X;have hu:=jk hr;refine⟨_,zb (zr (i:=1) kr.nd V0) (zb (wa PassesOwn.never J (E6 J T.range (za (yk Wu (yd yp (by rfl) T.len qd (za (pv 0) zc)) zh) (za (rX tz zh) (za (rX tz zh) zc)))) (zk (i:=2) kr.nd) (zb (zr (i:=3) kr.nd zh) (zb (zr (i:=4) kr.nd (yd yp (by rfl) T.len qd (za (zt zp (pv 0) (pv 2)) zc))) (zb (wa PassesOwn.never J (j5 (zt zp (pv 0) (pv 2))) (zk (i:=5) kr.nd) (zf (yg (zo xz (zt zp (pv 5) zh) zy (zx _)) yy zn)))
   (zf (Yw hu (pv 1) (pv 2) (jx (za (pv 3) (za (pv 4) zc))) J))))))
  (zf (zj (pv 1)))),?_⟩
 obtain⟨a,h,rfl,ha,hl⟩:=ht;have G:=hl.length;rw[ae]at G;intro d hd;have s0:=zg.new hd (.dK []);refine⟨a,h,J,.inr (aE.of (s0 _ _ ha)),_,_,J,J,_,J,_,J,h.length,J,(by omega),?_⟩;refine FK (lo:=(h.length:Int)-1) (n:=h.length) (λi σ B=>(∃x2 x3 x4 l,σ=[some (.ref a),some (.ref d),x2,x3,x4,l])/\zg H B/\Ch c (c.length-i) B d) ⟨⟨none,none,none,none,J⟩,s0,[],zd,bj _,λj h1 h2=>absurd h2 (by omega)⟩ ?_ ?_
 . rintro i σ B hi ⟨⟨x2,x3,x4,l,rfl⟩,y,av,n,a8,a2⟩;obtain⟨m,hm⟩:∃m:Nat,m+i+1=c.length:=⟨c.length-i-1,by omega⟩
   have em:(h.length:Int)-1-(i:Int)=((m:Nat):Int):=by omega
   rw[em];have R:m<c.length:=by omega
   have N:c[m]?=some c[m]:=bo R;have a3:c.getD m []=c[m]:=by rw[c8,N];rfl
   obtain⟨u,eu,aK⟩:=hl.get (i:=m) (t:=eS c[m]) (by rw[aj,N];rfl);have W:cZ h ((m:Nat):Int)=some u:=xt eu;obtain⟨as,C,rfl,t,S⟩:=aK.mono y;have F:=S.length;rw[ae]at F;refine⟨a,h,_,_,J,J,aE.of (y _ _ ha),W,as,C,J,.inr (aE.of t),?_⟩;refine⟨a,h,_,_,J,J,aE.of (y _ _ ha),W,as,J,⟨C,aE.of t⟩,?_⟩;refine X5 (K:=K) (a:=as) (xs:=C) (λj g H2=>H2=B/\∃l,g=[some (.ref a),some (.ref d),some (.int (m:Int)),some (.int 1),some (.int (C.length:Int)),l]) ⟨J,_,J⟩ (λj g H2 _ ⟨e,_⟩=>by rw[e];exact aE.of t) ?_ ?_
   . rintro j x g H2 hx ⟨rfl,l,rfl⟩;obtain⟨tt,L,aw⟩:=S.get' hx;rw[aj]at L;obtain⟨Z,a6,rfl⟩:=cm.mp L;have hn:=hN _ (List.getElem_mem R) Z (br a6);obtain⟨r,aS⟩:=Zy Z;obtain⟨a5,aa,u5,rfl,ah,a7,ay⟩:=Is.at (K:=K) (i:=0) (t:=.str (dw Z)) (aS▸aw) J;cases(show u5=.str (dw Z)from ay);refine⟨a5,aa,_,_,J,J,ah,a7,J,_,J,?_⟩;cases Z<;>first|exact hn.elim|exact yi ⟨J,_,J⟩
   rintro g H2 ⟨rfl,l,rfl⟩;refine⟨bO,λp hp=>?_⟩;have sp:=zg.new hp (.tup [.int 1,.int (C.length:Int)]);have U:=sp _ _ n;have aq:p≠d:=λz=>by rw[z,n]at hp;cases hp
   refine⟨d,_,J,Jc.k (k:=(Sum.inl (m:Int):aM)) U (wc (by omega)),⟨_,_,_,_,J⟩,(λb o e=>by rw[upd_ne (zm e hd)];exact sp _ _ (y _ _ e)),_,zd,?_,λj h1 h2=>?_⟩
   . have:=xy av (Sum.inl (m:Int):aM) (.ref p);omega
   rw[j0];by_cases ej:j=m
   . subst ej;exact⟨p,if_pos J,by rw[upd_ne aq,zd,a3,F]⟩
   . obtain⟨q,a1,M⟩:=a2 j (by omega) h2;exact⟨q,by rw[if_neg (λz=>ej (by have:=Sum.inl.inj z;omega))];exact a1,by rw[upd_ne (Xj M n (by intro z;cases z))];exact sp _ _ M⟩
 rintro σ B ⟨⟨x2,x3,x4,l,rfl⟩,y,hB⟩;rw[G,Nat.sub_self]at hB;exact k d B y hB
end
theorem zV{f:Nat->Nat}{M:Nat}(h:∀i,f i<=M):∀n,0<=((List.range n).map λj=>(f j:Int)).sum/\((List.range n).map λj=>(f j:Int)).sum<=((M*n:Nat):Int)|0=>⟨ef _,ef _⟩| n+1=>by have:=zV h n;have:=h n;rw[List.range_succ,be,List.sum_append,Nat.mul_succ];simp only[cb,List.map_nil,List.sum_cons,List.sum_nil];omega
theorem xC{K:W.Frag}{k:Nat}(c:H af=some (.tup xs))(d:xs.length<=100){f:Nat->Nat}{M:Nat}(m:∀i,f i<=M)(h:∀(i:Nat)(x:V)(R:VK),xs[i]?=some x->R (.int (f i:Int)) H->te ((bS k cap σ).set 0 (some x)) H R)(e:∀p (ns:O Int) H',zg H H'->aI K H' p (ns.map V.int)->(∀n∈ns,0<=n)->ns.sum<=((M*xs.length:Nat):Int)->Q (.ref p) H'):bZ (nj K af) (km 0) nF te k cap σ H Q:=by
 refine nL (xs:=xs) (λi a b=>b=H/\a=((List.range i).map λj=>(f j:Int)).map V.int) ⟨J,J⟩ (λi a b s ⟨r,o⟩=>⟨by rw[r];exact aE.of c,by rw[o,ae,ae,cz];exact Jz (by omega)⟩) ?_ ?_
 . rintro i x a b g ⟨rfl,rfl⟩;refine W4 (h i x _ g ⟨J,?_⟩);rw[List.range_succ,be,be];rfl
 . rintro a b ⟨rfl,rfl⟩ p l;have q:=zV m xs.length;refine e p _ _ (zg.new l _) (aI.of zd) (λn d=>?_) q.2;obtain⟨j,_,rfl⟩:=bz.mp d;exact Int.natCast_nonneg _
section
variable{K:W.Frag}
theorem Vk:aA ["house","brought","hands","deeds"] ["house"] (ze Zr):=.of
theorem KS(D:bH K mg "is_small_enough" Zr)(T:Txt K mg)(o1:Ok P w K mg base "brought_by_scripts" 1 ["scripts"] mr):Ok P w K mg base "is_small_enough" 2 ["house"] (spT jO):=by
 refine wj (k:=1) D Vk ?_;rintro f bi A ah s H vs Q E hr ⟨⟨h,v,rfl,ht,F⟩,k⟩ X;have hu:=jk hr;refine⟨_,zb (zr (i:=1) Vk.nd (yc o1 hr (za (zt zp (pv 0) (xl T.SCRIPTS)) zc))) (zb (zr (i:=2) Vk.nd (yd (Bd J) J T.sum wT (za (qj (own:=["calling"]) (cap:=[1]) J (yv (ze Zr) J J (by decide+kernel) (by decide+kernel) (by decide+kernel) ⟨⟨_,J,.inl J,vm J⟩,trivial⟩) (j5 (zt zp (pv 0) (xl T.FIRSTS))) (λ_ _ _ _=>zk (i:=0) (by show(["calling","brought"]:O Str).Nodup;decide+kernel)) (λ_ _ _ _=>wb)
   (λ_ _ _ _=>zt (r:=cL K) zp (wo hu (pv 1) (zt (r:=cL K) zp (pv 0) zh (λ_ _=>rfl))) zh (λ_ _=>rfl))) zc)))
  (zb (zr (i:=3) Vk.nd (yd (Bd J) J T.sum wT (za (qj (own:=["calling"]) (cap:=[1]) J (yv (ze Zr) J J (by decide+kernel) (by decide+kernel) (by decide+kernel) ⟨⟨_,J,.inl J,vm J⟩,trivial⟩) (j5 (zt zp (pv 0) (xl T.FIRSTS))) (λ_ _ _ _=>zk (i:=0) (by show(["calling","brought"]:O Str).Nodup;decide+kernel)) (λ_ _ _ _=>wb)
   (λ_ _ _ _=>zt (r:=cL K) zp (wo hu (pv 1) (zt (r:=cL K) zp (pv 0) zh (λ_ _=>rfl))) zh (λ_ _=>rfl))) zc)))
  (zf (zj (ku (qg ly (pv 2) (xl T.MOST_HANDS) (zx _)) (j6 (qg ly (pv 3) (xl T.MOST_DEEDS) (zx _)))))))),?_⟩
 obtain⟨a,xs,us,rfl,sq,ea,aK⟩:=Is.at (K:=K) (i:=3) ht J;refine⟨a,xs,_,_,J,J,sq,ea,h.ss,us,J,aK,F.n20,λs hs d hd=>(F.pl s hs d hd).no,λd H1 s1 ⟨bb,a2,bg,a1⟩=>?_⟩;have bh:=F.f17;have C:∀{G:Hp},zg H1 G->∃m n g,aE K G a m/\cZ m ((2:Nat):Int)=some (.ref n)/\G n=some (.tup g)/\g.length<=17/\∀(i:Nat) x,g[i]?=some x->∃b r j p,x=.ref b/\G b=some (.tup (.int ((j:Nat):Int)::r))/\DGet G d (.int (j:Int)) (some (.ref p))/\G p=some (.tup [.int 1,.int ((h.ss.getD ((h.fs.getD i (0,[])).1) []).length:Int)]):=λ{G} U=>by obtain⟨a',m,uf,e',S,a7,aS⟩:=Is.at (K:=K) (i:=2) (ht.mono (s1.trans U)) J;cases e';obtain⟨n,g,rfl,a5,z⟩:=aS;have a3:=z.length;rw[ae]at a3;refine⟨m,n,g,S,a7,a5,by omega,λi x q=>?_⟩;obtain⟨tt,u,ay⟩:=z.get' q;rw[aj]at u;obtain⟨c,hc,rfl⟩:=cm.mp u;obtain⟨p,t,y⟩:=a1 c.1 (bj _) (F.call c (br hc)).1;obtain⟨b,_,rfl,B,u6,r6,rfl,i6,_⟩:=ay;cases(show u6=.int (c.1:Int)from i6);exact⟨b,r6,c.1,p,J,B,t▸DGet.k (k:=(Sum.inl (c.1:Int):aM)) (U _ _ a2),by rw[show h.fs.getD i (0,[])=c from by rw[c8,hc];rfl];exact U _ _ y⟩
 have l:∀i,(h.ss.getD ((h.fs.getD i (0,[])).1) []).length<=30:=λi=>by rw[c8];cases e:h.ss[(h.fs.getD i (0,[])).1]? with|none=>simp|some s=>exact F.len s (br e)
 obtain⟨m,n,g,q1,q2,q3,q4,q5⟩:=C (zg.refl _);refine⟨a,m,_,_,J,J,q1,q2,n,J,⟨g,aE.of q3⟩,xC q3 (by omega) (f:=λ_=>1) (M:=1) (λ_=>ag _) (λi x R q kR=>?_) λp1 aq H2 s2 N aw bd=>⟨p1,aq,J,N,aw,by omega,?_⟩⟩
 . obtain⟨b,r,j,p,rfl,B,dg,y⟩:=q5 i x q;exact⟨b,_,0,_,J,J,aE.of B,(show cZ (_::r) ((0:Nat):Int)=_ from xt J),d,_,J,dg,p,_,_,_,J,J,aE.of y,J,kR⟩
 obtain⟨x3,a8,L,aa,Z,o,ba,W⟩:=C s2;refine⟨a,x3,_,_,J,J,aa,Z,a8,J,⟨L,aE.of o⟩,xC o (by omega) (M:=30) l (λi x R q kR=>?_) λp2 ap H3 s3 M av bc=>⟨p2,ap,J,M,av,by omega,?_⟩⟩
 . obtain⟨b,r,j,p,rfl,B,dg,y⟩:=W i x q;exact⟨b,_,0,_,J,J,aE.of B,(show cZ (_::r) ((0:Nat):Int)=_ from xt J),d,_,J,dg,p,_,_,_,J,J,aE.of y,J,kR⟩
 refine⟨_,_,J,J,_,J,?_⟩;rw[bn (by omega)];refine ww ⟨_,_,J,J,?_⟩;rw[bn (by omega)];exact k _ (s1.trans (s2.trans s3))
theorem Kw:aA ["deed","had","word"] ["deed","had"] (ze Yt):=.of
theorem LE(D:bH K mg "is_allowed" Yt):Ok P w K mg base "is_allowed" 1 ["deed","had"] (spT Cc):=by
 refine wj (k:=0) D Kw ?_;rintro f o A b s H q Q E v ⟨⟨d,x,u,rfl,m,l⟩,k⟩ X;refine⟨_,zb (zr (i:=2) Kw.nd (zt zp (pv 0) zh)) (zb (yg (zo X2 (pv 2) (jx (za zy (za zy zc))) J) yy zn) (zb (yg (zo xz (pv 2) zy (zx _)) yy zn) (zb (yg (zo xz (pv 2) zy (zx _)) yy zn) (zf (zj wn))))),?_⟩
 obtain⟨r,e⟩:=Zy d;obtain⟨a,g,t,rfl,h,n,c⟩:=Is.at (K:=K) (i:=0) (t:=.str (dw d)) (e▸m) J;cases(c);refine⟨a,g,_,_,J,J,h,n,(by decide),λp j=>⟨p,_,J,.inr (aE.of zd),J,J,_,J,?_⟩⟩;have i:=zg.new j (.tup [.str "come",.str "go"]);cases d<;>first|exact l.elim|exact yi ⟨J,_,J,yi ⟨J,_,J,yi (k _ i)⟩⟩
theorem tY:aA ["scripts","calling","had","deed"] ["scripts","calling"] (ze sU):=.of
theorem EN(D:bH K mg "fits" sU)(T:Txt K mg)(o1:Ok P w K mg base "is_allowed" 1 ["deed","had"] (spT Cc)):Ok P w K mg base "fits" 2 ["scripts","calling"] (spT B8):=by
 refine wj (k:=1) D tY ?_;rintro f ay A L s H vs Q E hr ⟨⟨C,sv,c,cv,rfl,hs,o,p,hN⟩,k⟩ X;refine⟨_,zb (zr (i:=2) tY.nd (w9 (IU J) J T.dict Qi (za (zt zp (pv 1) zh) zc))) (zb (wa PassesOwn.never J (j5 (zt zp (pv 0) (zt zp (pv 1) zh))) (zk (i:=3) tY.nd) (zb (yg (xb (y6 (yc o1 hr (za (pv 3) (za (pv 2) zc))))) yy zn) (zb (yg (zo xz (zt zp (pv 3) zh) zy (zx _)) yy zn) (zf (yg (PW.pt (Xe (zo xz (zt zp (pv 3) zh) zy (zx _)) (Vt (xb (y6 Xg))))) yy zn)))))
  (zf (zj wn))),?_⟩
 obtain⟨ac,xc,um,rfl,G,aw,R⟩:=Is.at (K:=K) (i:=1) (t:=mW []) o J;obtain⟨am,xm,rfl,aq,Z⟩:=R;cases(show xm=[]from Z);refine⟨ac,xc,_,_,J,J,G,aw,am,J,aq,λdh ah=>?_⟩;have v:=zg.new ah (.dK []);generalize upd H dh (.dK [])=H0 at v⊢;obtain⟨aK,z,un,e',h,q,N⟩:=Is.at (K:=K) (i:=0) (t:=.int (c:Int)) (o.mono v) J;cases e';cases(show un=.int (c:Int)from N);have U:C[c]?=some C[c]:=bo p;obtain⟨as,y,us,rfl,F,av,M⟩:=Is.at (K:=K) (i:=c) (t:=eS C[c]) (hs.mono v) (by rw[aj,U];rfl)
 obtain⟨ad,xd,rfl,a,aa⟩:=M;refine⟨ac,z,_,_,J,J,h,q,as,y,_,_,J,J,F,av,ad,J,⟨xd,aE.of a⟩,?_⟩;refine X5 (K:=K) (a:=ad) (xs:=xd) (λi u H'=>(∃B,u=[some (.ref as),some (.ref ac),some (.ref dh),B])/\zg H0 H')
  ⟨⟨none,J⟩,zg.refl H0⟩ (λi u H' _ ⟨_,b⟩=>aE.of (b _ _ a)) ?_ (λu H1 ⟨⟨B,e⟩,b⟩=>by subst e;exact k H1 (v.trans b))
 rintro i x u H1 hx ⟨⟨B,rfl⟩,b⟩;obtain⟨tt,n,m⟩:=aa.get' hx;rw[aj]at n;obtain⟨d,ap,rfl⟩:=cm.mp n;have hn:=hN _ (List.getElem_mem p) d (br ap);refine⟨⟨d,x,.ref dh,J,m.mono b,hn⟩,λH2 s2=>⟨_,J,yi ?_⟩⟩;have l:=b.trans s2;obtain⟨r,W⟩:=Zy d;obtain⟨a5,g,u5,rfl,j,t,S⟩:=Is.at (K:=K) (i:=0) (t:=.str (dw d)) (W▸m.mono l) J;cases(show u5=.str (dw d)from S);refine⟨a5,g,_,_,J,J,j,t,J,_,J,?_⟩;cases d<;>first|exact hn.elim|exact yi ⟨a5,g,_,_,J,J,j,t,J,_,J,yi (yi ⟨⟨_,J⟩,l⟩)⟩
theorem GC:aA ["thing"] ["thing"] (ze Yr):=.of
theorem KR(D:bH K mg "is_house" Yr)(T:Txt K mg)(o1:Ok P w K mg base "is_well_formed" 9 ["thing"] (spT jO))(o2:Ok P w K mg base "is_small_enough" 2 ["house"] (spT jO))(Z:Ok P w K mg base "fits" 2 ["scripts","calling"] (spT B8)):Ok P w K mg base "is_house" 22 ["thing"] (spT jO):=by
 refine wj (k:=21) D GC ?_;rintro f ah A o s H vs Q E u ⟨⟨h,v,rfl,l,F⟩,k⟩ X;refine⟨_,zb (yg (PW.pt (Zt (xb (y6 (yc o1 (u.mono (by decide)) (za (pv 0) zc)))) (j3 (xb (y6 (yc o2 (u.mono (by decide)) (za (pv 0) zc))))))) (zf (zj wn)) zn) (zf (zj (yd (je J) J T.all Z0 (za (qj (own:=["calling"]) (cap:=[0]) J (yv (ze Yr) J J (by decide+kernel) (by decide+kernel) (by decide+kernel) ⟨⟨_,J,.inl J,vm J⟩,trivial⟩) (j5 (zt zp (pv 0) (xl T.FIRSTS))) (λ_ _ _ _=>zk (i:=0) (by show(["calling","thing"]:O Str).Nodup;decide+kernel)) (λ_ _ _ _=>wb)
   (λ_ _ _ _=>yc Z (u.mono (by decide)) (za (zt (r:=cL K) zp (pv 1) (xl T.SCRIPTS) (λ_ _=>rfl)) (za (pv 0) zc)))) zc)))),?_⟩
 refine⟨⟨h,v,J,l,F⟩,λH1 G=>⟨_,J,yi ⟨⟨h,v,J,l.mono G,F⟩,λH2 U=>⟨_,J,yi ?_⟩⟩⟩⟩;have b:=G.trans U;obtain⟨a,L,uf,rfl,S,ea,t⟩:=Is.at (i:=2) (l.mono b) J;obtain⟨af,M,rfl,j,g⟩:=t;have y:=g.length;rw[ae]at y;have aa:=F.f17;refine⟨a,L,_,_,J,J,S,ea,af,J,⟨M,aE.of j⟩,uc j (by omega) (λi x B R hx C kk=>?_) λB W=>k B (b.trans W)⟩;obtain⟨tt,e,p⟩:=g.get' hx;rw[aj]at e;obtain⟨c,hc,rfl⟩:=cm.mp e;obtain⟨c1,c2⟩:=F.call c (br hc);obtain⟨a',m,N,e',n,z,r⟩:=Is.at (i:=3) (l.mono (b.trans C)) J;cases e';have q:Is B (eC (c.1,[])) x:=c2▸p.mono C;exact⟨a,m,_,_,J,J,n,z,⟨h.ss,N,c.1,x,J,r,q,c1,λs hs d hd=>(F.pl s hs d hd).no⟩,kk⟩
end
noncomputable def wf:Stmt->List Stmt|.ClassDef _ _ _ b _ _ _ _ _ _ _=>b|_=>[]
noncomputable def dF:Stmt:=.Pass ⟨0,0,0,0⟩
noncomputable def Dr:Stmt:=bA 46
noncomputable abbrev Wo:Stmt:=(wf Dr).getD 0 dF
noncomputable abbrev K0:Stmt:=bA 47
noncomputable def aR:List Str:=["calling","script","call","begins","needs","came"]
structure aG(K:W.Frag)(C:Addr)(fs:List Str):Prop where
 cls:fU K C
 no:∀f∈fs,Y4 K C f
theorem aG.n{K:W.Frag}{C:Y}{a:O Str}(c:aG K C a)(h:f∈a:=by decide+kernel):Y4 K C f:=c.no f h
def fT(P:Program)(w:World)(K:W.Frag)(mg:Str->Option Value)(base:Heap)(x:Str)(C:Addr)(k:Nat)(B:List Str)(sp:Sp):Prop:=∃f fd,cF P w K mg base fJ k f fd B sp/\Y6 K fd B []/\Mk K C f/\mg x=some (.ref C)
def bR(P:Program)(w:World)(K:W.Frag)(mg:Str->Option Value)(base:Heap)(C:Addr)(m:Str)(k:Nat)(B:List Str)(sp:Sp):Prop:=∃f fd,cF P w K mg base fJ k f fd B sp/\Y6 K fd B []/\iH K C m f
def le(K:W.Frag)(mg:Str->Option Value)(x q:Str)(C:Addr)(st:Stmt):Prop:=∃f fd,iI K "__init__" q st f fd/\Mk K C f/\mg x=some (.ref C)
def q8(K:W.Frag)(C:Addr)(m q:Str)(st:Stmt):Prop:=∃f fd,iI K m q st f fd/\iH K C m f
noncomputable def kO(U vs B:V)(ab Z ac:Addr):List (Str×V):=[("calling",U),("script",vs),("call",B),("begins",.ref ab),("needs",.ref Z),("came",.ref ac)]
inductive lQ(cR:Addr)(xs:List V)(H:Hp)(Q:VK)(e0:XK):Prop|mk:∀(x dx:Addr)(vc vs vl:V),xs=[.ref x,vc,vs,vl]->H x=some (.ins cR dx [])->(∀ab an ac H',ab≠ac->H ab=none->H an=none->H ac=none->(∀b o,b≠x->H b=some o->H' b=some o)->H' x=some (.ins cR dx (kO vc vs vl ab an ac))->H' ab=some (.dK [])->H' an=some (.lst [])->H' ac=some (.dT [])->Q .non H')->lQ cR xs H Q e0
theorem xa{g:Str}{x:V}(h:g≠f):qr f v ((g,x)::r)=(g,x)::qr f v r:=if_neg h
section
variable{K:W.Frag}
theorem Lj:aA ["self","calling","script","call"] ["self","calling","script","call"] (ze Wo):=.of
theorem KY{cR:Y}(D:le K mg "Role" "Role.__init__" cR Wo)(C:aG K cR aR):fT P w K mg base "Role" cR 1 ["self","calling","script","call"] (lQ cR):=by
 obtain⟨f,fd,F,M,hm⟩:=D;refine⟨f,fd,F.ok Lj (λc H Q E h=>by cases h;subst_vars;rfl) (λap A aa s H c Q E hr h=>?_),F.binds (λ_ _ _ _ _ _ us hl=>(by obtain⟨_,_,_,_,rfl⟩:=BS hl;rfl)),M,hm⟩;obtain⟨x,d,a,c,i,rfl,hx,kk⟩:=h;refine⟨_,zb (qb (pv 0) (pv 1) J) (zb (qb (pv 0) (pv 2) J) (zb (qb (pv 0) (pv 3) J) (zb (qb (pv 0) V0 J) (zb (qb (pv 0) (Xh zc) J) (zf (qb (pv 0) Xi J)))))),?_⟩;have n:=λg hg=>C.no g hg;refine⟨x,cR,d,[],J,hx,C.cls,n _ (by simp[aR]),(by simp),?_⟩;rw[show qr "calling" (a) []=[(("calling":Str),a)] by rfl];have g1:upd H x (.ins cR d [(("calling":Str),a)]) x=some (.ins cR d [(("calling":Str),a)]):=zd;have w1:∀b o,b≠x->H b=some o->upd H x (.ins cR d [(("calling":Str),a)]) b=some o:=λb o z e=>by rw[upd_ne z];exact e
 generalize upd H x (.ins cR d [(("calling":Str),a)])=H1 at g1 w1⊢;refine⟨x,cR,d,[(("calling":Str),a)],J,g1,C.cls,n _ (by simp[aR]),(by simp),?_⟩;rw[show qr "script" (c) [(("calling":Str),a)]=[(("calling":Str),a),("script",c)] by rfl];have g2:upd H1 x (.ins cR d [(("calling":Str),a),("script",c)]) x=some (.ins cR d [(("calling":Str),a),("script",c)]):=zd;have w2:∀b o,b≠x->H1 b=some o->upd H1 x (.ins cR d [(("calling":Str),a),("script",c)]) b=some o:=λb o z e=>by rw[upd_ne z];exact e
 generalize upd H1 x (.ins cR d [(("calling":Str),a),("script",c)])=Z at g2 w2⊢;refine⟨x,cR,d,[(("calling":Str),a),("script",c)],J,g2,C.cls,n _ (by simp[aR]),(by simp),?_⟩;rw[show qr "call" (i) [(("calling":Str),a),("script",c)]=[(("calling":Str),a),("script",c),("call",i)] by rfl];have g3:upd Z x (.ins cR d [(("calling":Str),a),("script",c),("call",i)]) x=some (.ins cR d [(("calling":Str),a),("script",c),("call",i)]):=zd;have w3:∀b o,b≠x->Z b=some o->upd Z x (.ins cR d [(("calling":Str),a),("script",c),("call",i)]) b=some o:=λb o z e=>by rw[upd_ne z];exact e
 generalize upd Z x (.ins cR d [(("calling":Str),a),("script",c),("call",i)])=X at g3 w3⊢;intro j B;have m:j≠x:=λz=>by simp_all
 have t3:∀b o,X b=some o->upd X j (.dK []) b=some o:=λb o e=>by rw[upd_ne (zm e B)];exact e
 have u3:upd X j (.dK []) j=some (.dK []):=zd;generalize upd X j (.dK [])=S at t3 u3⊢;refine⟨x,cR,d,[(("calling":Str),a),("script",c),("call",i)],J,t3 _ _ g3,C.cls,n _ (by simp[aR]),(by simp),?_⟩;rw[show qr "begins" (.ref j) [(("calling":Str),a),("script",c),("call",i)]=[(("calling":Str),a),("script",c),("call",i),("begins",.ref j)] by rfl];have g4:upd S x (.ins cR d [(("calling":Str),a),("script",c),("call",i),("begins",.ref j)]) x=some (.ins cR d [(("calling":Str),a),("script",c),("call",i),("begins",.ref j)]):=zd;have L:∀b o,b≠x->S b=some o->upd S x (.ins cR d [(("calling":Str),a),("script",c),("call",i),("begins",.ref j)]) b=some o:=λb o z e=>by rw[upd_ne z];exact e
 generalize upd S x (.ins cR d [(("calling":Str),a),("script",c),("call",i),("begins",.ref j)])=W at g4 L⊢;refine⟨(by simp),λl y=>?_⟩;have p:l≠x:=λz=>by simp_all
 have t4:∀b o,W b=some o->upd W l (.lst []) b=some o:=λb o e=>by rw[upd_ne (zm e y)];exact e
 have u4:upd W l (.lst []) l=some (.lst []):=zd;generalize upd W l (.lst [])=R at t4 u4⊢;refine⟨x,cR,d,[(("calling":Str),a),("script",c),("call",i),("begins",.ref j)],J,t4 _ _ g4,C.cls,n _ (by simp[aR]),(by simp),?_⟩;rw[show qr "needs" (.ref l) [(("calling":Str),a),("script",c),("call",i),("begins",.ref j)]=[(("calling":Str),a),("script",c),("call",i),("begins",.ref j),("needs",.ref l)] by rfl];have g5:upd R x (.ins cR d [(("calling":Str),a),("script",c),("call",i),("begins",.ref j),("needs",.ref l)]) x=some (.ins cR d [(("calling":Str),a),("script",c),("call",i),("begins",.ref j),("needs",.ref l)]):=zd;have w5:∀b o,b≠x->R b=some o->upd R x (.ins cR d [(("calling":Str),a),("script",c),("call",i),("begins",.ref j),("needs",.ref l)]) b=some o:=λb o z e=>by rw[upd_ne z];exact e
 generalize upd R x (.ins cR d [(("calling":Str),a),("script",c),("call",i),("begins",.ref j),("needs",.ref l)])=U at g5 w5⊢;intro ac r;have t:ac≠x:=λz=>by simp_all
 have t5:∀b o,U b=some o->upd U ac (.dT []) b=some o:=λb o e=>by rw[upd_ne (zm e r)];exact e
 have u5:upd U ac (.dT []) ac=some (.dT []):=zd;generalize upd U ac (.dT [])=N at t5 u5⊢;refine⟨x,cR,d,[(("calling":Str),a),("script",c),("call",i),("begins",.ref j),("needs",.ref l)],J,t5 _ _ g5,C.cls,n _ (by simp[aR]),(by simp),?_⟩;rw[show qr "came" (.ref ac) [(("calling":Str),a),("script",c),("call",i),("begins",.ref j),("needs",.ref l)]=[(("calling":Str),a),("script",c),("call",i),("begins",.ref j),("needs",.ref l),("came",.ref ac)] by rfl];have g6:upd N x (.ins cR d [(("calling":Str),a),("script",c),("call",i),("begins",.ref j),("needs",.ref l),("came",.ref ac)]) x=some (.ins cR d [(("calling":Str),a),("script",c),("call",i),("begins",.ref j),("needs",.ref l),("came",.ref ac)]):=zd;have w6:∀b o,b≠x->N b=some o->upd N x (.ins cR d [(("calling":Str),a),("script",c),("call",i),("begins",.ref j),("needs",.ref l),("came",.ref ac)]) b=some o:=λb o z e=>by rw[upd_ne z];exact e
 generalize upd N x (.ins cR d [(("calling":Str),a),("script",c),("call",i),("begins",.ref j),("needs",.ref l),("came",.ref ac)])=H6 at g6 w6⊢;have k3:=λb o z e=>w3 b o z (w2 b o z (w1 b o z e));have k4:=λb o z e=>L b o z (t3 b o e);have k5:=λb o z e=>w5 b o z (t4 b o e);have k6:=λb o z e=>w6 b o z (t5 b o e);have k:∀{b:Y}{G:Hp},b≠x->(∀b o,b≠x->H b=some o->G b=some o)->G b=none->H b=none:=λ{b G} z h e=>by cases q:H b with|none=>rfl|some o=>simp_all
 have ah:=k3;have v:=λb o z e=>k4 b o z (k3 b o z e);have u:=λb o z e=>k5 b o z (v b o z e);exact kk j l ac H6 (zm (k5 _ _ m (L _ _ m u3)) r) (k m ah B) (k p v y) (k t u r) (λb o z e=>k6 b o z (u b o z e)) g6 (k6 _ _ m (k5 _ _ m (L _ _ m u3))) (k6 _ _ p (w5 _ _ p u4)) (w6 _ _ t u5)
end
noncomputable def Yj:aH->V|.awa _ m=>.int m|_=>.non
inductive lV(vs:List V)(H:Hp)(Q:VK)(e0:XK):Prop|mk:∀(d:aH)(v tv:V),vs=[v,tv]->Is H (eD d) v->f9 d->Q (Yj d) H->lV vs H Q e0
section
variable{K:W.Frag}
theorem Ih:aA ["deed","tally"] ["deed","tally"] (ze K0):=.of
theorem HG(D:bH K mg "need_of" K0):Ok P w K mg base "need_of" 1 ["deed","tally"] lV:=by
 refine wj D Ih ?_;rintro f x A i s H y Q E F ⟨d,v,C,rfl,t,j,k⟩ X;refine⟨_,zb (yg (zo xz (zt zp (pv 0) zh) zy (zx _)) (zf (zj (zt zp (pv 0) zh))) zn) (zb (yg (zo xz (zt zp (pv 0) zh) zy (zx _)) yy zn) (zf (zj Wt))),?_⟩
 obtain⟨r,o⟩:=Zy d;obtain⟨q,a,B,rfl,c,e,n⟩:=Is.at (i:=0) (o▸t) J;cases(n);refine⟨q,a,_,_,J,J,c,e,J,_,J,?_⟩;cases d with| awa b m=>refine ww ?_;obtain⟨G,g,z,u,h,p,l⟩:=Is.at (i:=2) t J;cases u;cases(l);exact⟨q,g,_,_,J,J,h,p,k⟩|goo w=>exact j.elim|com w=>exact j.elim|lea w=>exact j.elim|_=>exact yi ⟨q,a,_,_,J,J,c,e,J,_,J,yi k⟩
end
theorem y7{a:Hp}(s:zg H a){l:Addr}(h:a l=none):H l=none:=by cases e:H l with|none=>rfl|some o=>rw[s l o e]at h;cases h
noncomputable abbrev Xx:Stmt:=bA 41
noncomputable abbrev K1:Stmt:=bA 51
noncomputable def pL:aH->Option Str|.say x=>some x|_=>none
noncomputable def Zh(s:yx):List Str:=s.filterMap pL
theorem JI{s:yx}{d:aH}(h:s[i]?=some d):Zh (s.take (i+1))=Zh (s.take i)++(pL d).toList:=by unfold Zh;rw[cu,h,List.filterMap_append];cases e:pL d with|none=>simp[e]|some x=>simp[e]
theorem Ie(s:yx):(Zh s).length<=s.length:=List.length_filterMap_le ..
inductive jA(vs:List V)(H:Hp)(Q:VK)(e0:XK):Prop|mk:∀(v:V)(ds:yx),vs=[v]->Is H (eS ds) v->ds.length<=1000->(∀l H',zg H H'->H l=none->H' l=some (.lst ((Zh ds).map V.str))->Q (.ref l) H')->jA vs H Q e0
inductive me(vs:List V)(H:Hp)(Q:VK)(e0:XK):Prop|mk:∀l n:Int,vs=[.int l,.int n]->Q (.bl (decide (n<=l))) H->me vs H Q e0
section
variable{K:W.Frag}
theorem KK:aA ["deeds"] ["deeds"] (ze Xx):=.of
theorem JB(D:bH K mg "said_in" Xx)(T:Txt K mg):Ok P w K mg base "said_in" 1 ["deeds"] jA:=by
 refine wj D KK ?_;rintro f aa A u s H vs Q E hr ⟨v,k,rfl,iv,hl,kk⟩ X;refine⟨_,zf (zj (qj (own:=["deed"]) (cap:=[]) J (yv (ze Xx) J J (by decide+kernel) (by decide+kernel) (by decide+kernel) trivial) (j5 (pv 0)) (λ_ _ _ _=>zk (i:=0) (by show(["deed"]:List Str).Nodup;decide+kernel)) (λ_ _ _ _=>js (zo xz (zt (r:=cL K) zp (pv 0) zh (λ_ _=>rfl)) zy (zx _))) (λ_ _ _ _=>zt (r:=cL K) zp (pv 0) zh (λ_ _=>rfl)))),?_⟩
 obtain⟨a,Z,rfl,R,M⟩:=iv;have c:=M.length;rw[ae]at c;refine⟨a,J,⟨Z,aE.of R⟩,?_⟩;refine nL (λi j m=>zg H m/\j=(Zh (k.take i)).map V.str) ⟨zg.refl H,J⟩ (λi j m N ⟨b,e⟩=>⟨aE.of (b _ _ R),?_⟩) ?_ ?_;rw[e,ae];refine cj (Ie _) ?_;have:=List.length_take_le i k;rw[sizeLine_eq];omega;rintro i z j m L ⟨b,rfl⟩;have N:i<k.length:=by rw[<-c];exact(cp.mp L).1
 have U:=bo N;obtain⟨t,S,g⟩:=M.get' L;rw[aj,U]at S;cases S;have g:=g.mono b;rw[JI U];generalize k[i]=d at g⊢;obtain⟨r,C⟩:=Zy d;obtain⟨W,o,u5,rfl,q,G,B⟩:=Is.at (i:=0) (C▸g) J;cases(B);refine⟨W,o,_,_,J,J,q,G,J,_,J,?_⟩;cases d with| say x=>refine ww ?_;obtain⟨a6,n,u6,e6,p,F,y⟩:=Is.at (i:=1) g J;cases e6;cases(y);exact⟨W,n,_,_,J,J,p,F,b,by rw[be];rfl⟩|_=>exact yi ⟨b,by rw[show(pL _).toList=[]from rfl,cq]⟩
 rintro j m ⟨b,rfl⟩ l h;rw[c,cw];exact kk l _ (b.trans (zg.new h _)) (y7 b h) zd
theorem Ig:aA ["level","need"] ["level","need"] (ze K1):=.of
end
section
variable{K:W.Frag}
theorem HF(D:bH K mg "is_met" K1):Ok P w K mg base "is_met" 1 ["level","need"] me:=by refine wj D Ig ?_;rintro f b A a s H c Q E d ⟨l,n,rfl,k⟩ X;refine⟨_,zf (zj (pR (sL (nO (pv 0))) (j6 (qg CY (pv 0) (pv 1) (zx _))))),?_⟩;exact⟨_,J,yi ⟨_,_,J,J,k⟩⟩
end
end My
namespace My
structure dB(A D:Type) where
 scr:A->List D
 bg:A->Nat->Option A
 ra:D->Option (Nat×Int)
 aw:D->Option (Nat×Int)
section
variable{A D:Type}[DecidableEq A]
noncomputable def yb(l:List (A×Nat))(h:A):Nat:=match l with|[]=>0|(g,n)::r=>if g=h then n else yb r h
noncomputable def v4(l:List (A×Nat))(h:A)(n:Nat):List (A×Nat):=match l with|[]=>[(h,n)]|(g,m)::r=>if g=h then(g,n)::r else(g,m)::v4 r h n
noncomputable def zi(l:List (A×Nat)):List A:=l.map (·.1)
noncomputable def W9(l:List (A×Nat)):Nat:=(l.map (·.2)).sum
theorem X9{h:A}:∀{l:List (A×Nat)},h ∉ zi l->yb l h=0|[],_=>rfl| (g,m)::r,a=>by have c:g≠h:=λe=>a (by rw[<-e];exact c5);unfold yb;rw[if_neg c];exact X9 λb=>a (bv _ b)
theorem Z7{h:A}{n:Nat}:∀{l:List (A×Nat)},h∈zi l->zi (v4 l h n)=zi l
 |[],a=>nomatch a
 | (g,m)::r,a=>by
   unfold v4;by_cases c:g=h;rw[if_pos c];rfl;rw[if_neg c];have:h∈zi r:=by
    rcases az.mp a with e|e
    simp_all
    exact e
   show g::zi (v4 r h n)=g::zi r;rw[Z7 this]
theorem Vu{h:A}{n:Nat}:∀{l:List (A×Nat)},h ∉ zi l->v4 l h n=l++[(h,n)]|[],_=>rfl| (g,m)::r,a=>by have c:g≠h:=λe=>a (by rw[<-e];exact c5);unfold v4;rw[if_neg c,Vu λb=>a (bv _ b)];rfl
theorem Zc{h:A}{n:Nat}(x:A):∀{l:List (A×Nat)},yb (v4 l h n) x=if h=x then n else yb l x
 |[]=>by rfl
 | (g,m)::r=>by
   unfold v4;by_cases c:g=h;rw[if_pos c];subst c;unfold yb
   simp_all
   rw[if_neg c];unfold yb;by_cases e:g=x;rw[if_pos e,if_pos e,if_neg (λz=>c (e.trans z.symm))];rw[if_neg e,if_neg e];exact Zc x
theorem zU{h:A}{n:Nat}:∀{l:List (A×Nat)},h∈zi l->W9 (v4 l h n)+yb l h=W9 l+n
 |[],a=>nomatch a
 | (g,m)::r,a=>by
   unfold v4 yb;by_cases c:g=h;rw[if_pos c,if_pos c];show(n+W9 r)+m=(m+W9 r)+n;omega;rw[if_neg c,if_neg c];have:h∈zi r:=by
    rcases az.mp a with e|e
    simp_all
    exact e
   have q:=zU (n:=n) this;show(m+W9 (v4 r h n))+yb r h=(m+W9 r)+n;omega
theorem GI{l:O (A×Nat)}{h:A}{n:Nat}:W9 (l++[(h,n)])=W9 l+n:=by unfold W9;simp
theorem Ip{l:O (A×Nat)}{h:A}{n:Nat}:zi (l++[(h,n)])=zi l++[h]:=by unfold zi;simp
theorem FN{h:A}{n:Nat}(x:A){l:O (A×Nat)}(a:h ∉ zi l):yb (l++[(h,n)]) x=if h=x then n else yb l x:=by rw[<-Vu a];exact Zc x
theorem xV{f:A->Nat}:∀{l:List (A×Nat)},(zi l).Nodup->(∀h∈zi l,yb l h<=f h)->W9 l<=((zi l).map f).sum
 |[],_,_=>ag _
 | (g,m)::r,d,c=>by
   have a:=c9.mp d;have i:yb ((g,m)::r) g=m:=by unfold yb;rw[if_pos J]
   have j:=c g c5;rw[i]at j;have k:=xV a.2 λh b=>by have e:g≠h:=λz=>a.1 (by rw[z];exact b);have q:=c h (bv _ b);unfold yb at q;rw[if_neg e]at q;exact q
   show m+W9 r<=f g+((zi r).map f).sum;omega
theorem Vi{f:A->Nat}:∀{l all:List A},l.Nodup->(∀x∈l,x∈all)->(l.map f).sum<=(all.map f).sum
 |[],_,_,_=>bj _
 | x::r,all,b,d=>by
   have a:=c9.mp b;have c:=d x c5;have q:(r.map f).sum<=((all.erase x).map f).sum:=Vi a.2 λy e=>by grind
   have p:=(List.perm_cons_erase c).map f
   grind
noncomputable def Y7(l:List (Nat×List A))(b:Nat):List A:=match l with|[]=>[]|(c,hs)::r=>if c=b then hs else Y7 r b
noncomputable def Zo(l:List (Nat×List A))(b:Nat):List (Nat×List A):=match l with|[]=>[]|(c,hs)::r=>if c=b then r else(c,hs)::Zo r b
noncomputable def kh(l:List (Nat×List A))(b:Nat)(h:A):List (Nat×List A):=match l with|[]=>[(b,[h])]|(c,hs)::r=>if c=b then(c,hs++[h])::r else(c,hs)::kh r b h
noncomputable def ko(l:List (Nat×List A)):Nat:=(l.map (·.2.length)).sum
def eY(l:List (Nat×List A))(p:A->Prop):Prop:=∀r∈l,∀h∈r.2,p h
theorem Ke{b:Nat}:∀{l:List (Nat×List A)},ko (Zo l b)+(Y7 l b).length=ko l|[]=>rfl| (c,a)::r=>by unfold Zo Y7;by_cases e:c=b;rw[if_pos e,if_pos e];show ko r+a.length=a.length+ko r;omega;rw[if_neg e,if_neg e];have q:=Ke (b:=b) (l:=r);show a.length+ko (Zo r b)+_=a.length+ko r;omega
theorem AY{b:Nat}{h:A}:∀{l:List (Nat×List A)},ko (kh l b h)=ko l+1
 |[]=>rfl
 | (c,a)::r=>by
   unfold kh;by_cases e:c=b;rw[if_pos e];show(a++[h]).length+ko r=a.length+ko r+1
   grind
   rw[if_neg e];have q:=AY (b:=b) (h:=h) (l:=r);show a.length+ko (kh r b h)=a.length+ko r+1;omega
theorem AV{b:Nat}{p:A->Prop}:∀{l:List (Nat×List A)},eY l p->∀h∈Y7 l b,p h|[],_,_,a=>nomatch a| (c,g)::r,d,h,a=>by unfold Y7 at a;by_cases e:c=b;rw[if_pos e]at a;exact d _ c5 h a;rw[if_neg e]at a;exact AV (λx f=>d x (bv _ f)) h a
theorem AU{b:Nat}{p:A->Prop}:∀{l:List (Nat×List A)},eY l p->eY (Zo l b) p|[],a=>a| (c,g)::r,a=>by unfold Zo;by_cases e:c=b;rw[if_pos e];exact λx d=>a x (bv _ d);rw[if_neg e];intro x d;rcases az.mp d with z|z;rw[z];exact a _ c5;exact AU (λy f=>a y (bv _ f)) x z
theorem AT{b:Nat}{h:A}{p:A->Prop}(g:p h):∀{l:List (Nat×List A)},eY l p->eY (kh l b h) p
 | [],_=>λx d y a=>by
   rw[ai.mp d]at a
   simp_all
 | (c,i)::r,f=>by
   unfold kh;by_cases e:c=b;rw[if_pos e];intro x d y a;rcases az.mp d with z|z;rw[z]at a;rcases c4.mp a with q|q;exact f _ c5 y q
   simp_all
   exact f x (bv _ z) y a;rw[if_neg e];intro x d;rcases az.mp d with z|z;rw[z];exact f _ c5;exact AT g (λy a=>f y (bv _ a)) x z
structure WS(A:Type) where
 done:List (A×Nat)
 sums:List Int
 ready:List A
 wait:List (Nat×List A)
 stop:List A
 wov:List A
variable(M:dB A D)
noncomputable def cQ(s:WS A)(h:A):Option D:=(M.scr h)[yb s.done h]?
noncomputable def Zg(s:WS A)(h:A):Bool:=match cQ M s h with|none=>false| some d=>match M.aw d with|none=>true|some (b,m)=>decide (m<=s.sums.getD b 0)
noncomputable def o7(l:List (A×Nat))(g:Option A):List (A×Nat):=match g with|none=>l|some g=>v4 l g 0
noncomputable def aN(l:List Int)(r:Option (Nat×Int)):List Int:=match r with|none=>l|some (b,k)=>l.set b (l.getD b 0+k)
noncomputable def jm(s:WS A)(h:A):List (A×Nat):=o7 (v4 s.done h (yb s.done h+1)) (M.bg h (yb s.done h))
noncomputable def Zd(s:WS A)(r:Option (Nat×Int)):List A:=match r with|none=>[]|some (b,_)=>Y7 s.wait b
noncomputable def jb(s:WS A)(r:Option (Nat×Int)):List (Nat×List A):=match r with|none=>s.wait|some (b,_)=>Zo s.wait b
noncomputable def Ye(s:WS A)(h:A)(d:D):WS A:={ done:=jm M s h,sums:=aN s.sums (M.ra d),ready:=s.ready++Zd s (M.ra d)++[h]++(M.bg h (yb s.done h)).toList,wait:=jb s (M.ra d),stop:=s.stop,wov:=s.wov++[h]}
noncomputable def jn(held:A->Nat->Bool)(s:WS A)(h:A):WS A:=
 match cQ M s h with
 |none=>if held h (yb s.done h)then{s with stop:=s.stop++[h]}else s
 | some d=>
   if held h (yb s.done h)then{s with stop:=s.stop++[h]}
   else if Zg M s h then Ye M s h d
   else match M.aw d with
    |some (b,_)=>{s with wait:=kh s.wait b h}
    |none=>s
structure Wv(all:List A)(s:WS A):Prop where
 nd:(zi s.done).Nodup
 sub:∀h∈zi s.done,h∈all
 rdy:∀h∈s.ready,h∈zi s.done
 wai:eY s.wait (· ∈zi s.done)
 low:∀h∈zi s.done,yb s.done h<=(M.scr h).length
 bgn:∀h g p,M.bg h p=some g->g∈zi s.done->h∈zi s.done/\p<yb s.done h
 len:s.ready.length+ko s.wait+s.stop.length<=s.done.length
 wov:s.wov.length=W9 s.done
 cnt:∀h,s.wov.count h=yb s.done h
structure uT(all:List A):Prop where
 inj:∀h p h' p' g,M.bg h p=some g->M.bg h' p'=some g->h=h'/\p=p'
 new:∀h p g,M.bg h p=some g->g∈all/\g≠h
 nd:all.Nodup
noncomputable def tot(all:List A):Nat:=(all.map λh=>(M.scr h).length).sum
theorem Wv.most{all:O A}{s:WS A}(W:Wv M all s):s.wov.length<=tot M all:=by rw[W.wov];exact cj (xV W.nd W.low) (Vi W.nd W.sub)
theorem sr{all:O A}{s:WS A}(W:Wv M all s):s.done.length<=all.length:=by
 have q:=Vi (f:=λ_=>1) W.nd W.sub;have e:∀l:O A,(l.map λ_=>1).sum=l.length:=λl=>by induction l with|nil=>rfl|cons a r b=>grind
 rw[e,e]at q;unfold zi at q
 simp_all
noncomputable def Q5(all:List A)(s:WS A):Nat:=(tot M all-s.wov.length)*(all.length+1)+s.ready.length
theorem j9{l:O (A×Nat)}:(zi l).length=l.length:=ae ..
variable{M}
theorem Wv.pop{all:O A}{s:WS A}(W:Wv M all s){r:O A}{h:A}(b:s.ready=r++[h]):Wv M all {s with ready:=r}/\h∈zi s.done/\r.length+ko s.wait+s.stop.length+1<=s.done.length:=by
 have a:=W.len;rw[b,c7]at a;have c:r.length+1+ko s.wait+s.stop.length<=s.done.length:=a;refine⟨⟨W.nd,W.sub,λx d=>W.rdy x (by simp_all),W.wai,W.low,W.bgn,?_,W.wov,W.cnt⟩,W.rdy h (by simp_all),by omega⟩
 grind
theorem IG(l:O A)(h x:A):(l++[h]).count x=l.count x+if h=x then 1 else 0:=by grind
theorem Wv.step{all:List A}{s:WS A}(P:uT M all)(W:Wv M all s){h:A}{d:D}(hk:h∈zi s.done)(hl:s.ready.length+ko s.wait+s.stop.length+1<=s.done.length)(w:cQ M s h=some d):Wv M all (Ye M s h d):=by
 have Q:=(cp.mp w).1;have f:zi (v4 s.done h (yb s.done h+1))=zi s.done:=Z7 hk;have L:(v4 s.done h (yb s.done h+1)).length=s.done.length:=by rw[<-j9,f,j9]
 have K:=zU (n:=yb s.done h+1) hk;have G:(Zd s (M.ra d)).length+ko (jb s (M.ra d))=ko s.wait:=by
  cases M.ra d with
  |none=>exact Nat.zero_add _
  |some p=>have:=Ke (b:=p.1) (l:=s.wait);show(Y7 s.wait p.1).length+ko (Zo s.wait p.1)=_;omega
 have H:∀x∈Zd s (M.ra d),x∈zi s.done:=by
  cases M.ra d with
  |none=>exact λx a=>nomatch a
  |some p=>exact λx a=>AV W.wai x a
 have o:eY (jb s (M.ra d)) (· ∈zi s.done):=by
  cases M.ra d with
  |none=>exact W.wai
  |some p=>exact AU W.wai
 have F:∀x,(s.wov++[h]).count x=yb (v4 s.done h (yb s.done h+1)) x:=λx=>by
  rw[IG,Zc,W.cnt]
  grind
 have t:(s.wov++[h]).length=W9 (v4 s.done h (yb s.done h+1)):=by
  rw[c7,W.wov]
  grind
 cases l:M.bg h (yb s.done h)with
 | none=>
   have e:Ye M s h d={done:=v4 s.done h (yb s.done h+1),sums:=aN s.sums (M.ra d),ready:=s.ready++Zd s (M.ra d)++[h]++[],wait:=jb s (M.ra d),stop:=s.stop,wov:=s.wov++[h]}:=by unfold Ye jm;rw[l];rfl
   rw[e];refine⟨?_,?_,?_,?_,?_,?_,?_,t,F⟩;rw[f];exact W.nd;rw[f];exact W.sub;rw[f,cq];intro x a;rcases c4.mp a with q|q;rcases c4.mp q with q|q;exact W.rdy x q
   simp_all
   simp_all
   simp_all
   rw[f];intro x a;rw[Zc];by_cases c:h=x
   grind
   rw[if_neg c];exact W.low x a;rw[f];intro x g p k j;obtain⟨n,u⟩:=W.bgn x g p k j;refine⟨n,?_⟩;rw[Zc]
   grind
   grind
 | some g=>
   have B:=λj=>d9 _ (W.bgn h g _ l j).2;have m:g ∉ zi (v4 s.done h (yb s.done h+1)):=by simp_all
   obtain⟨R,C⟩:=P.new h _ g l;have e:Ye M s h d={done:=v4 s.done h (yb s.done h+1)++[(g,0)],sums:=aN s.sums (M.ra d),ready:=s.ready++Zd s (M.ra d)++[h]++[g],wait:=jb s (M.ra d),stop:=s.stop,wov:=s.wov++[h]}:=by unfold Ye jm;rw[l];show({done:=v4 (v4 s.done h (yb s.done h+1)) g 0,..}:WS A)=_;rw[Vu m];rfl
   rw[e];have i:zi (v4 s.done h (yb s.done h+1)++[(g,0)])=zi s.done++[g]:=by rw[Ip,f]
   have E:=X9 B;have b:∀x,yb (v4 s.done h (yb s.done h+1)++[(g,0)]) x=yb (v4 s.done h (yb s.done h+1)) x:=λx=>by rw[FN x m];by_cases c:g=x;subst c;rw[if_pos J,Zc,if_neg (λz=>C z.symm),E];rw[if_neg c]
   have inl:∀x∈zi s.done,x∈zi s.done++[g]:=λx a=>dj _ a;refine⟨?_,?_,?_,?_,?_,?_,?_,?_,λx=>?_⟩;rw[i];refine List.nodup_append.mpr ⟨W.nd,by simp,λx a y N z=>?_⟩
   simp_all
   rw[i];intro x a;rcases c4.mp a with q|q;exact W.sub x q
   simp_all
   rw[i];intro x a;rcases c4.mp a with q|q;rcases c4.mp q with q|q;rcases c4.mp q with q|q;exact inl x (W.rdy x q)
   simp_all
   simp_all
   simp_all
   rw[i];exact λr v x a=>inl x (o r v x a);rw[i];intro x a;rw[b,Zc];by_cases c:h=x
   grind
   rw[if_neg c];rcases c4.mp a with q|q;exact W.low x q
   simp_all
   rw[i];intro x y p k j;rw[b,Zc];rcases c4.mp j with q|q;obtain⟨n,u⟩:=W.bgn x y p k q
   grind
   rw[ai.mp q]at k;obtain⟨U,S⟩:=P.inj x p h _ g k l
   simp_all
   grind
   rw[GI];omega
   simp_all
theorem Wv.turn{all:List A}{held:A->Nat->Bool}{s:WS A}(P:uT M all)(W:Wv M all s){r:List A}{h:A}(n:s.ready=r++[h]):Wv M all (jn M held {s with ready:=r} h)/\Q5 M all (jn M held {s with ready:=r} h)<Q5 M all s:=by
 obtain⟨a,hk,q⟩:=W.pop n;have t:s.ready.length=r.length+1:=by simp_all
 have b:∀e:WS A,e.wov=s.wov->e.ready=r->Q5 M all e<Q5 M all s:=λe y x=>by unfold Q5;simp_all
 have z:Wv M all {s with ready:=r,stop:=s.stop++[h]}:=⟨a.nd,a.sub,a.rdy,a.wai,a.low,a.bgn,by grind,a.wov,a.cnt⟩
 unfold jn;cases o:cQ M {s with ready:=r} h with
 | none=>grind
 | some d=>
   show Wv M all (if held h (yb s.done h)then _ else _)/\Q5 M all (if held h (yb s.done h)then _ else _)<_;by_cases c:held h (yb s.done h)=true
   simp_all
   rw[if_neg c];by_cases j:Zg M {s with ready:=r} h=true;rw[if_pos j];have f:=a.step P hk q o;refine⟨f,?_⟩;have m:=f.most;have v:=sr M f;have u:=f.len;have l:(Ye M {s with ready:=r} h d).wov.length=s.wov.length+1:=by show(s.wov++[h]).length=_;simp
   unfold Q5;rw[l]at m⊢;obtain⟨k,i⟩:∃k,tot M all-s.wov.length=k+1:=⟨tot M all-s.wov.length-1,by omega⟩
   have g:tot M all-(s.wov.length+1)=k:=by omega
   rw[i,g,Nat.add_mul];omega;rw[if_neg j];cases w:M.aw d with
   |none=>simp_all
   | some p=>refine⟨⟨a.nd,a.sub,a.rdy,AT hk a.wai,a.low,a.bgn,?_,a.wov,a.cnt⟩,b _ J J⟩;show r.length+ko (kh s.wait p.1 h)+s.stop.length<=s.done.length;rw[AY];omega
end
end My
namespace My
noncomputable def jv(B:List Nat):List (List Nat×Nat):=B.zipIdx.map λq=>([q.2],q.1)
theorem AZ:∀(l:List Nat)(n:Nat),(l.zipIdx n).map (λq=>[q.2])=(List.range' n l.length).map λi=>[i]|[],_=>rfl| x::l,n=>by rw[List.zipIdx_cons,cb,AZ l (n+1)];rfl
theorem Qy(a:O Nat):zi (jv a)=(List.range a.length).map λi=>[i]:=by unfold zi jv;rw[bp,List.range_eq_range'];exact AZ a 0
theorem K9(c:O Nat):(zi (jv c)).Nodup:=by rw[Qy];exact List.Pairwise.map _ (λa b h e=>h (by injection e)) List.nodup_range
section
variable{D:Type}{ss:List (List D)}
theorem EF{i:Nat}{p:Nat}{d:D}(h:(ss.getD i [])[p]?=some d):ss[i]?=some (ss.getD i []):=by rw[c8]at h⊢;cases c:ss[i]? with|none=>rw[c]at h;cases h|some s=>rfl
noncomputable def qE(U Z:D->Option (Nat×Int))(B:List (List D))(R:List (List Nat×Nat)):dB (List Nat) D where
 scr:=λh=>if h∈zi R then B.getD (yb R h) []else[]
 bg:=λ_ _=>none
 ra:=U
 aw:=Z
noncomputable def Xr(B:List (List D))(l:List (List Nat×Nat)):Nat:=(l.map λr=>(B.getD r.2 []).length).sum
theorem Yd{d i:D->Option (Nat×Int)}{R:List (List Nat×Nat)}(k:(zi R).Nodup):tot (qE d i ss R) (zi R)=Xr ss R:=by
 have c:∀(l:List (List Nat×Nat)),(∀r∈l,r.1∈zi R/\yb R r.1=r.2)->((zi l).map λh=>((qE d i ss R).scr h).length).sum=Xr ss l:=by
  intro l;induction l with|nil=>exact λ_=>rfl| cons a r f=>
    intro j;obtain⟨p,o⟩:=j a c5;have e:(qE d i ss R).scr a.1=ss.getD a.2 []:=by show(if a.1∈zi R then ss.getD (yb R a.1) []else[])=_;rw[if_pos p,o]
    show(List.map _ (a.1::zi r)).sum=(List.map _ (a::r)).sum;rw[cb,cb,List.sum_cons,List.sum_cons,e];exact congrArg _ (f λx m=>j x (bv _ m))
 refine c R λr g=>⟨List.mem_map_of_mem g,?_⟩
 clear c;induction R with|nil=>nomatch g| cons a l f=>have b:=c9.mp k;show(if a.1=r.1 then a.2 else yb l r.1)=r.2;rcases az.mp g with e|e;rw[e,if_pos J];have n:r.1∈zi l:=List.mem_map_of_mem e;rw[if_neg (λz=>b.1 (by show a.1∈_;rw[z];exact n))];exact f b.2 e
noncomputable def nR(F:List (List Nat))(B:List Int):WS (List Nat):={done:=F.map λh=>(h,0),sums:=B,ready:=F,wait:=[],stop:=[],wov:=[]}
theorem FJ{M:dB (List Nat) D}{all F:List (List Nat)}{b:List Int}(d:F.Nodup)(sub:∀h∈F,h∈all)(f:∀h p g,M.bg h p=some g->g ∉ F):Wv M all (nR F b):=by
 have k:zi (nR F b).done=F:=by show(F.map λh=>(h,0)).map (·.1)=F;rw[bp];exact List.map_id F
 have z:∀h,yb (nR F b).done h=0:=λh=>by clear k d sub f;induction F with|nil=>rfl| cons a r e=>show(if a=h then 0 else _)=0;by_cases c:a=h;rw[if_pos c];rw[if_neg c];exact e
 refine⟨by rw[k];exact d,by rw[k];exact sub,by rw[k];exact λ_ h=>h,λr j=>(nomatch j),λh _=>by rw[z];exact bj _,λh g p l i=>absurd (by rw[k]at i;exact i) (f h p g l),?_,?_,λh=>by rw[z];rfl⟩;show F.length+0+0<=(F.map _).length;rw[ae];exact ag _;show 0=W9 (F.map λh=>(h,0));clear k z d sub f;induction F with|nil=>rfl|cons a r e=>show 0=0+W9 (r.map λh=>(h,0));rw[<-e]
end
end My
namespace My
open PySem PySem.Spec PyProof.Rows L2
noncomputable def cX:aH->Option (Nat×Int)|.rai b k=>some (b.toNat,k)|_=>none
noncomputable def m7:aH->Option (Nat×Int)|.awa b m=>some (b.toNat,m)|_=>none
noncomputable def L7(B:List yx)(R:List (List Nat×Nat)):dB (List Nat) aH:=qE cX m7 B R
noncomputable def hZ(h:List Nat):List Int:=h.map Int.ofNat
theorem qo:∀{a b:List Nat},hZ a=hZ b->a=b|[],[],_=>rfl|[],_::_,e=>by cases e|_::_,[],e=>by cases e| x::g,y::f,e=>by injection e with d c;rw[Int.ofNat.inj d,qo c]
end My
namespace L2
open PySem PySem.Spec PyProof.Rows
def Bt(M:List Addr)(H B:Hp):Prop:=∀b o,b ∉ M->H b=some o->B b=some o
section
variable{M N:List Addr}{H H1 H2 H0:Hp}{p:Addr}{o:HO}
theorem Bt.refl:Bt M H H:=λ_ _ _ e=>e
theorem Bt.trans(a:Bt M H H1)(b:Bt M H1 H2):Bt M H H2:=λc u n e=>b c u n (a c u n e)
theorem zg.bt(s:zg H H1):Bt M H H1:=λc u _ e=>s c u e
theorem Bt.upd(h:p∈M):Bt M H (upd H p o):=λc u n e=>by rw[upd_ne (λz=>n (by rw[z];exact h))];exact e
theorem Bt.same(a:Bt M H H1)(s:zg H0 H)(n:∀x∈M,H0 x=none):zg H0 H1:=λb u e=>a b u (λz=>by rw[n b z]at e;cases e) (s b u e)
theorem Bt.tups(a:Bt M H H1)(n:∀x∈M,∀xs,H x≠some (.tup xs)):yw H H1:=λb xs e=>a b _ (λz=>n b z xs e) e
end
end L2
namespace My
open PySem PySem.Spec PyProof.Rows L2
variable{C ab ac an ar cP cR r:Addr}{A:Around}{base:Heap}{H H':Hp}{es:List Expr}{h:List Nat}{N ps:List Str}{P:Program}{sp:Sp}{st:Stmt}{mg:Str->Option Value}{vc vh vl vs:V}{w:World}
section
variable{X:Cx}{m x:Str}{k:Nat}{p apos aD:Pos}{o e:Expr}{ta:TE}{t:TA}
theorem qc{d:Sem Bool}(h:bR X.prog X.w X.K X.mg X.base C m k ps sp)(c:fU X.K C)(i:aQ k X.A)(he:PE X o ta)(n:PA X (e::es) t)(a:starEach (e::es) X.env=(false,eval e X.env)::starEach es X.env:=by rfl) (b:(backTo aD (starEach es X.env)).any (·.1)=false:=by rfl)
  (g:eval (.Call (.Attribute o m apos) (e::es) [] aD) X.env=(do
   let ov<-eval o X.env
   standAt apos.atName
   let(f,first)<-holding [ov] (getMethod ov m d)
   callWith aD f first (backTo aD (starEach (e::es) X.env)) (backToKw aD (keywordEach [] X.env))):=by rfl):
  PE X (.Call (.Attribute o m apos) (e::es) [] aD) (pS C m sp [] E0 ta t):=by obtain⟨f,p,F,l,j⟩:=h;exact E4 he c j F i l .nil pY n a b g
theorem X1{a:Sem Bool}(h:bR X.prog X.w X.K X.mg X.base C m k ps sp)(c:fU X.K C)(d:aQ k X.A)(he:PE X o ta)(b:eval (.Call (.Attribute o m apos) [] [] aD) X.env=(do
   let ov<-eval o X.env
   standAt apos.atName
   let(f,first)<-holding [ov] (getMethod ov m a)
   callWith aD f first (backTo aD (starEach [] X.env)) (backToKw aD (keywordEach [] X.env))):=by rfl):
  PE X (.Call (.Attribute o m apos) [] [] aD) (pS C m sp [] E0 ta lr):=by obtain⟨f,i,F,g,e⟩:=h;exact Gj he c e F d g .nil pY b
theorem mR(h:fT X.prog X.w X.K X.mg X.base x C k ps sp)(c:aQ (k+1) X.A)(j:PA X (e::es) t)(g:Gl X x:=by rfl)(b:(x==("__debug__":Str))=false:=by decide)
  (he:starEach (e::es) X.env=(false,eval e X.env)::starEach es X.env:=by rfl) (a:(backTo aD (starEach es X.env)).any (·.1)=false:=by rfl):
  PE X (.Call (.Name x p) (e::es) [] aD) (vY C sp [] E0 t):=by obtain⟨f,l,F,i,M,d⟩:=h;exact E2 M F c g d i .nil pY j b he a
end
section
variable{K:W.Frag}
theorem Zf{m q:Str}{k:Nat}(D:q8 K C m q st)(S:aA N ps (ze st))(a:∀(f:Y)(cdv:I)(A:Around)(outer:O Env)(s:Shared)(H:Hp)(vs:O V)(Q:VK)(E:XK),aQ k (A.deeper (envOfC q (ze st) s.heap.objs.size f cdv))->sp vs H Q E-> let X:=(iK fJ P w K mg base N q (ze st) f cdv A outer s H E).nox;∃t,eE X (wy st) t/\t (.of Q) (start N vs) H) (c:autoParam (∀vs H Q E,sp vs H Q E->vs.length=ps.length) uM._auto_1) (j:autoParam (∀(kV d e:I)(o:Option Y)(cdv n:I)(b:O I),b.length=ps.length->bindArgs (W.fnOf m q (ju st) (wy st) (ze st) .none kV d e o cdv n) ⟨b,[]⟩=pure (ps.zip b)) uL._auto_1):bR P w K mg base C m (k+1) ps sp:=by obtain⟨f,l,F,i⟩:=D;exact⟨f,l,F.ok S c (λcdv A outer s H vs Q E g h=>a f cdv A outer s H vs Q E g h),F.binds j,i⟩
theorem pX{x q:Str}{k:Nat}(D:le K mg x q C st)(S:aA N ps (ze st))(a:∀(f:Y)(cdv:I)(A:Around)(outer:O Env)(s:Shared)(H:Hp)(vs:O V)(Q:VK)(E:XK),aQ k (A.deeper (envOfC q (ze st) s.heap.objs.size f cdv))->sp vs H Q E-> let X:=(iK fJ P w K mg base N q (ze st) f cdv A outer s H E).nox;∃t,eE X (wy st) t/\t (.of Q) (start N vs) H) (c:autoParam (∀vs H Q E,sp vs H Q E->vs.length=ps.length) uM._auto_1) (l:autoParam (∀(kV d e:I)(o:Option Y)(cdv n:I)(b:O I),b.length=ps.length->bindArgs (W.fnOf "__init__" q (ju st) (wy st) (ze st) .none kV d e o cdv n) ⟨b,[]⟩=pure (ps.zip b)) uL._auto_1):fT P w K mg base x C (k+1) ps sp:=by obtain⟨f,m,F,j,g⟩:=D;exact⟨f,m,F.ok S c (λcdv A outer s H vs Q E i h=>a f cdv A outer s H vs Q E i h),F.binds l,j,g⟩
end
theorem qi:(kO vc vs vl ab an ac).lookup ("script":Str)=some vs:=rfl
theorem Fv:(kO vc vs vl ab an ac).lookup ("call":Str)=some vl:=rfl
theorem Id:(kO vc vs vl ab an ac).lookup ("begins":Str)=some (.ref ab):=rfl
theorem Ax:(kO vc vs vl ab an ac).lookup ("needs":Str)=some (.ref an):=rfl
theorem tM:(kO vc vs vl ab an ac).lookup ("came":Str)=some (.ref ac):=rfl
noncomputable def ij(B:V)(U:Addr):List (Str×V):=[(("house":Str),B),("roles",.ref U)]
theorem Vx:(ij vh ar).lookup ("house":Str)=some vh:=rfl
theorem vj:(ij vh ar).lookup ("roles":Str)=some (.ref ar):=rfl
noncomputable def aZ:List Str:=["house","roles"]
noncomputable def nH:Stmt:=bA 48
noncomputable abbrev Wp:Stmt:=(wf nH).getD 0 dF
noncomputable abbrev tQ:Stmt:=(wf nH).getD 1 dF
noncomputable abbrev Xz:Stmt:=(wf nH).getD 2 dF
theorem vp(g:O Int):dM (tI g):=uE g
theorem qB(a:aH):dM (eD a):=by cases a with| beg j b=>refine⟨trivial,trivial,?_,trivial⟩;show qt (b.map pE);rw[qt.all];intro t c;obtain⟨m,_,rfl⟩:=bz.mp c;exact⟨trivial,trivial,trivial⟩|_=>first|exact⟨trivial,trivial,trivial⟩|exact⟨trivial,trivial,trivial,trivial⟩
theorem Xp(s:yx):dM (eS s):=by show qt (s.map eD);rw[qt.all];intro t a;obtain⟨d,_,rfl⟩:=bz.mp a;exact qB d
theorem EE(a:O fY):dM (mW a):=by show qt (a.map pE);rw[qt.all];intro t b;obtain⟨m,_,rfl⟩:=bz.mp b;exact⟨trivial,trivial,trivial⟩
theorem r9(c:Kd):dM (eC c):=⟨trivial,EE c.2,trivial⟩
theorem W6(h:aB):dM (eH h):=by refine⟨trivial,trivial,?_,?_,trivial⟩;show qt (h.fs.map eC);rw[qt.all];intro t a;obtain⟨d,_,rfl⟩:=bz.mp a;exact r9 d;show qt (h.ss.map eS);rw[qt.all];intro t a;obtain⟨d,_,rfl⟩:=bz.mp a;exact Xp d
inductive bQ(N:Addr->Prop)(H:Hp)(cR:Addr)(s:yx)(r:Addr):Prop|mk:∀dx vc vs ab an ac,H r=some (.ins cR dx (kO vc vs .non ab an ac))->Is H (eS s) vs->H ab=some (.dK [])->H an=some (.lst (s.map Yj))->H ac=some (.dT [])->N r->N ab->N an->N ac->bQ N H cR s r
theorem bQ.keep{N h:Y->Prop}{s:yx}(x:bQ N H cR s r)(c:∀a o,N a->H a=some o->H' a=some o)(t:yw H H')(b:∀a,N a->h a):bQ h H' cR s r:=by obtain⟨q,j,i,v,u,ac,p,n,m,l,k,g,f,e,d⟩:=x;exact⟨q,j,i,v,u,ac,c _ _ g p,n.tups t (Xp s),c _ _ f m,c _ _ e l,c _ _ d k,b _ g,b _ f,b _ e,b _ d⟩
theorem bQ.same{N:Y->Prop}{s:yx}(x:bQ N H cR s r)(b:zg H H'):bQ N H' cR s r:=x.keep (λa o _ e=>b a o e) b.tups λ_ n=>n
abbrev RL:=List ((List Nat×Nat)×Addr)
noncomputable def yj(L:RL):List (List aM×V):=L.map λq=>(kI (hZ q.1.1),.ref q.2)
noncomputable def y8(L:RL):List (List Nat):=L.map (·.1.1)
theorem LO{L:RL}(a:h ∉ y8 L):yz (yj L) (kI (hZ h))=none:=by induction L with|nil=>rfl| cons q r b=>have d:q.1.1≠h:=λe=>a (by rw[<-e];exact c5);show yz ((kI (hZ q.1.1),V.ref q.2)::yj r) _=none;rw[xu (λz=>d (qo (aT z)))];exact b λc=>a (bv _ c)
theorem LP{L:RL}{q:(List Nat×Nat)×Addr}(d:q∈L)(b:(y8 L).Nodup):yz (yj L) (kI (hZ q.1.1))=some (.ref q.2):=by induction L with|nil=>grind| cons p r c=>have a:=c9.mp b;show yz ((kI (hZ p.1.1),V.ref p.2)::yj r) _=_;rcases az.mp d with e|e;rw[e];exact wg J;have f:p.1.1≠q.1.1:=λz=>a.1 (by simp_all);rw[xu (λz=>f (qo (aT z)))];exact c e a.2
theorem ke{v:V}(i:Is H (tI (hZ h)) v):∃b,v=.ref b/\H b=some (.tup ((kI (hZ h)).map kV)):=by
 obtain⟨b,d,rfl,c,a⟩:=i;rw[IsL.ints.mp a,<-Wg]at c
 simp_all
structure uX(hs:aB):Prop where
 deeds:∀s∈hs.ss,∀d∈s,f9 d
 len:∀s∈hs.ss,s.length<=1000
 w:hs.w=0
inductive mi(cP cR:Addr)(vs:List V)(H:Hp)(Q:VK)(e0:XK):Prop| mk:∀(x dx ar av:Addr) (vh vhd vc:V) (hs:aB) (hd:List Nat) (c:Kd) (L0:RL),vs=[.ref x,vhd,vc,.non,.ref av]->H x=some (.ins cP dx (ij vh ar))->H ar=some (.dT (yj L0))->H av=some (.dK [])->Is H (eH hs) vh->Is H (tI (hZ hd)) vhd->Is H (eC c) vc->uX hs->c.2=[]->c.1<hs.ss.length->hd ∉ y8 L0->L0.length<1000->
   (∀rl H',Bt [ar] H H'->H' ar=some (.dT (yj (L0++[((hd,c.1),rl)])))->bQ (λa=>H a=none) H' cR (hs.ss.getD c.1 []) rl->Q .non H')->mi cP cR vs H Q e0
theorem Cv{a:aH}(h:f9 a):qP (.str (dw a)) [.str "come",.str "go"]=false:=by cases a<;>first|rfl|exact h.elim
noncomputable def Mc:List Str:=["self","hand","calling","call","tally","role","wall","mode","place","deed","begun"]
theorem A3:aA Mc ["self","hand","calling","call","tally"] (ze tQ):=.of
section
variable{K:W.Frag}
theorem F2(D:q8 K cP "enter" "Plan.enter" tQ)(T:Txt K mg)(CP:aG K cP aZ)(CR:aG K cR aR)(oR:fT P w K mg base "Role" cR 1 ["self","calling","script","call"] (lQ cR))(o1:Ok P w K mg base "need_of" 1 ["deed","tally"] lV):bR P w K mg base cP "enter" 23 ["self","hand","calling","call","tally"] (mi cP cR):=by
 refine Zf (k:=22) D A3 ?_;rintro f dT A b6 s H vs Q E hr ⟨x,dx,ar,av,vh,dn,vc,a,hd,c,L0,rfl,hx,U,dN,ih,b7,ic,W,cs,a7,co,dE,k⟩ X;have hu:=jk hr;have nd:=A3.nd;refine⟨_,zb (zr (i:=5) nd (mR oR (hr.mono (by decide)) (za (pv 2) (za (zt zp (zt zp (zu (pv 0) J) (xl T.SCRIPTS)) (zt zp (pv 2) zh)) (za (pv 3) zc))))) (zb (Yw hu (zu (pv 0) J) (pv 1) (pv 5) J) (zb (wa PassesOwn.never J (j5 (zt zp (pv 2) zh)) (jw J (yn (zk (i:=6) nd) (yn (zk (i:=7) nd) ql))) yy) (zf (wa PassesOwn.never J (J8 J T.enumerate (za (zu (pv 5) J) zc)) (jw J (yn (zk (i:=8) nd) (yn (zk (i:=9) nd) ql))) (zb (we (Zv PySem.F.plainAttrs_list PySem.F.slot_list_append PySem.F.type_list_append qv (zu (pv 5) J) (za (yc o1 (hr.mono (by decide)) (za (pv 9) (za (pv 4) zc))) zc))) (zb (yg (zo xz (zt zp (pv 9) zh) zy (zx _)) yy zn)
   (zf (yg (zo X2 (zt zp (pv 9) zh) (jx (za zy (za zy zc))) J) yy zn)))))))),?_⟩
 have bk:a.ss[c.1]?=some a.ss[c.1]:=bo a7;have bC:a.ss.getD c.1 []=a.ss[c.1]:=by rw[c8,bk];rfl
 have dt:∀{b:Y}{ys:O V},H b=some (.tup ys)->b≠ar:=λ{b ys} e z=>by rw[z,U]at e;cases e
 obtain⟨L,xc,un,rfl,b1,dg,ca⟩:=Is.at (K:=K) (i:=0) (t:=.int (c.1:Int)) ic J;cases(show un=.int (c.1:Int)from ca);obtain⟨ah,xh,us,rfl,b0,c3,b9⟩:=Is.at (K:=K) (i:=3) (t:=.tup (a.ss.map eS)) ih J;obtain⟨as,bL,dp,rfl,bN,c0,bg⟩:=Is.at (K:=K) (i:=c.1) (t:=eS a.ss[c.1]) b9 (by rw[aj,bk];rfl);refine⟨x,cP,dx,_,_,J,hx,CP.cls,CP.n,Vx,ah,xh,_,_,J,J,b0,c3,L,xc,_,_,J,J,b1,dg,as,bL,_,_,J,J,bN,c0,?_⟩;intro d dr q bD dv;refine⟨d,dr,_,_,_,J,zd,λab n ac H1 dK aa v Z kp bl ay aq aw=>⟨J,?_⟩⟩;have s0:∀{b:Y},(upd (upd H dr (.own d)) d (.ins cR dr [])) b=none->H b=none:=λ{b} e=>by by_cases c1:b=d;rw[c1];exact q;by_cases c2:b=dr;rw[c2];exact bD;rw[upd_ne c1,upd_ne c2]at e;exact e
 have s1:zg H H1:=λb o e=>kp b o (zm e q) (by rw[upd_ne (zm e q),upd_ne (zm e bD)];exact e);have aa:=s0 aa;have v:=s0 v;have Z:=s0 Z;clear s0 kp;obtain⟨bh,rfl,cv⟩:=ke b7;refine⟨x,cP,dx,_,_,J,s1 _ _ hx,CP.cls,CP.n,vj,ar,_,J,Jc.t (s1 _ _ U) (s1 _ _ cv) (by unfold yj;rw[ae];exact wc (by omega)),?_⟩;rw[Zu _ (LO co)];have er:yj L0++[(kI (hZ hd),V.ref d)]=yj (L0++[((hd,c.1),d)]):=by unfold yj;rw[be];rfl
 rw[er];have k2:∀{b:Y}{o:HO},H1 b=some o->H b=none->upd H1 ar (.dT (yj (L0++[((hd,c.1),d)]))) b=some o:=λ{b o} e z=>by rw[upd_ne (ak (zm U z))];exact e
 have t:=k2 bl q;have F:=k2 ay aa;have l:=k2 aq v;have C:=k2 aw Z;have b2:Bt [ar] H (upd H1 ar (.dT (yj (L0++[((hd,c.1),d)])))):=s1.bt.trans (Bt.upd (ai.mpr J));have u:upd H1 ar (.dT (yj (L0++[((hd,c.1),d)]))) ar=some (.dT (yj (L0++[((hd,c.1),d)]))):=zd;clear k2 bl ay aq aw s1;generalize upd H1 ar (.dT (yj (L0++[((hd,c.1),d)])))=H2 at t F l C b2 u⊢;have ba:∀{M:O Y}{G:Hp},Bt M H G->(∀m∈M,m=ar\/H m=none)->yw H G:=λ{M G} b hM=>b.tups λm S xs e=>by rcases hM m S with z|z;rw[z,U]at e;cases e;rw[z]at e;cases e
 have t2:yw H H2:=ba b2 (λm S=>.inl (ai.mp S));obtain⟨a',bM,um,e',bb,bJ,cc⟩:=Is.at (K:=K) (i:=1) (t:=mW c.2) (ic.tups t2 (r9 c)) J;cases e';obtain⟨am,xm,rfl,bI,bB⟩:=cc;rw[cs]at bB;cases(show xm=[]from bB);refine⟨L,bM,_,_,J,J,bb,bJ,am,J,⟨[],aE.of bI⟩,?_⟩;let dh:Nat->L2.St->Hp->Prop:=λi N g=>H2=g/\N=[some (.ref x),some (.ref bh),some (.ref L),some .non,some (.ref av),some (.ref d),none,none,none,none,none];refine X5 (K:=K) (a:=am) (xs:=[]) dh ⟨J,J⟩ (λi N g _ ⟨e,_⟩=>by rw[<-e];exact aE.of bI) (λi y N g hy _=>by cases hy) ?_;rintro N g ⟨rfl,rfl⟩;obtain⟨ad,xd,rfl,B,a3⟩:=bg;have bE:=a3.length;rw[ae]at bE;refine⟨d,cR,dr,_,_,J,t,CR.cls,CR.n,qi,ad,xd,J,aE.of (t2 _ _ B),?_⟩;have du:a.ss[c.1].length<=1000:=W.len _ (List.getElem_mem a7);have R:∀{b:Y}{o:HO},H2 b=some o->(∀ys,o≠ .lst ys)->b ∉ [n]:=λ{b o} e z S=>by rw[ai.mp S,l]at e;exact z _ (Option.some.inj e).symm
 have aS:∀{G:Hp},Bt [n] H2 G->yw H2 G:=λ{G} b=>b.tups λm S xs e=>by rw[ai.mp S,l]at e;cases e
 have bd:=R t (λ_ z=>by cases z);refine uD (K:=K) (a:=ad) (xs:=xd) (λi N g=>∃x8 x9 aK:Option V,N=[some (.ref x),some (.ref bh),some (.ref L),some .non,some (.ref av),some (.ref d),none,none,x8,x9,aK]/\Bt [n] H2 g/\g n=some (.lst ((a.ss[c.1].take i).map Yj)))
  ⟨none,none,none,J,Bt.refl,l⟩ (λi N g _ ⟨_,_,_,_,b,_⟩=>aE.of (aS b _ _ (t2 _ _ B))) ?_ ?_
 rintro i y N g p hy ⟨x8,x9,aK,rfl,b3,j⟩ hp;obtain⟨tt,bi,b8⟩:=a3.get' hy;rw[aj]at bi;obtain⟨dd,a6,rfl⟩:=cm.mp bi;have hi:i<a.ss[c.1].length:=(cp.mp a6).1;have sp:=zg.new hp (.tup [.int i,y]);have bw:upd g p (.tup [.int i,y]) p=some (.tup [.int i,y]):=zd;have b4:Bt [n] H2 (upd g p (.tup [.int i,y])):=b3.trans sp.bt;have h:=sp _ _ j;generalize upd g p (.tup [.int i,y])=H4 at sp bw b4 h⊢;have i4:Is H4 (eD dd) y:=(b8.tups t2 (qB _)).tups (aS b4) (qB _);refine⟨p,_,J,aE.of bw,J,_,_,J,_,_,J,J,?_⟩;refine⟨d,cR,dr,_,_,J,b4 _ _ bd t,CR.cls,CR.n,Ax,?_⟩;have a1:=W.deeds _ (List.getElem_mem a7) dd (br a6);have a2:(a.ss[c.1].take i).map Yj++[Yj dd]=(a.ss[c.1].take (i+1)).map Yj:=by rw[cu,a6,be];rfl
 have bx:((a.ss[c.1].take i).map Yj).length<sizeLine:=by rw[ae,cx];exact wc (by omega)
 refine⟨.inl ⟨J,_,aI.of h⟩,dd,y,.ref av,J,i4,a1,n,_,_,J,J,h,bx,?_⟩;rw[a2];have t5:yw H4 (upd H4 n (.lst ((a.ss[c.1].take (i+1)).map Yj))):=yw.upd h (λ_ z=>by cases z);have b5:Bt [n] H2 (upd H4 n (.lst ((a.ss[c.1].take (i+1)).map Yj))):=b4.trans (Bt.upd (by simp));have ap:upd H4 n (.lst ((a.ss[c.1].take (i+1)).map Yj)) n=_:=zd;have i5:=i4.tups t5 (qB _);generalize upd H4 n (.lst ((a.ss[c.1].take (i+1)).map Yj))=H5 at b5 ap i5⊢;obtain⟨r,cl⟩:=Zy dd;obtain⟨a5,a8,u5,rfl,bc,bK,ck⟩:=Is.at (K:=K) (i:=0) (t:=.str (dw dd)) (cl▸i5) J;cases(show u5=.str (dw dd)from ck);refine⟨a5,a8,_,_,J,J,bc,bK,J,_,J,?_⟩;rw[show decide (V.str (dw dd)=V.str "begin")=false by cases dd<;>first|rfl|exact a1.elim];refine yi ⟨a5,a8,_,_,J,J,bc,bK,bO,λp6 cn=>⟨p6,_,J,.inr (aE.of zd),J,J,_,J,?_⟩⟩;have s6:=zg.new cn (.tup [.str "come",.str "go"]);rw[Cv a1];exact yi ⟨_,_,_,J,b5.trans s6.bt,s6 _ _ ap⟩;rintro N g ⟨x8,x9,aK,rfl,b3,j⟩;rw[bE,cw]at j;refine k d g (λb o hb e=>b3 b o (λS=>?_) (b2 b o hb e)) (b3 _ _ (R u (λ_ z=>by cases z)) u) ?_
 . rw[ai.mp S,v]at e;cases e
 refine⟨dr,.ref L,.ref ad,ab,n,ac,b3 _ _ bd t,?_,b3 _ _ (R F (λ_ z=>by cases z)) F,?_,b3 _ _ (R C (λ_ z=>by cases z)) C,q,aa,v,Z⟩
 . show Is g (eS (a.ss.getD c.1 [])) _;rw[bC];exact((show Is H (eS a.ss[c.1]) (.ref ad)from⟨ad,xd,J,B,a3⟩).tups t2 (Xp _)).tups (aS b3) (Xp _)
 . show g n=some (.lst ((a.ss.getD c.1 []).map Yj));rw[bC];exact j
end
structure dO(hs:aB):Prop where
 nw:uX hs
 s20:hs.ss.length<=20
 f40:hs.fs.length<=40
 mem:∀c∈hs.fs,c.2=[]
 call:∀c∈hs.fs,c.1<hs.ss.length
 few60:(jv (hs.fs.map (·.1))).length<=60
 deeds:Xr hs.ss (jv (hs.fs.map (·.1)))<=1200
 b0:0<=hs.b
 b9:hs.b<=1000
 says:∀s∈hs.ss,∀x,aH.say x∈s->PyData.strOk x=true
 box:∀s∈hs.ss,∀d∈s,∀b m,(d=.rai b m\/d=.awa b m)->0<=b/\b<hs.b
theorem dO.few{a:aB}(W:dO a):(jv (a.fs.map (·.1))).length<=1000:=cj W.few60 (by decide)
noncomputable def plan(B:aB):List (List Nat×Nat):=jv (B.fs.map (·.1))
inductive aJ(H:Hp)(cP cR:Addr)(hs:aB)(L:RL)(x:Addr):Prop|mk:∀dx vh ar,H x=some (.ins cP dx (ij vh ar))->Is H (eH hs) vh->H ar=some (.dT (yj L))->L.map (·.1)=plan hs->(∀q∈L,bQ (λ_=>True) H cR (hs.ss.getD q.1.2 []) q.2)->aJ H cP cR hs L x
theorem aJ.same{H b:Hp}{cP cR:Y}{a:aB}{L:RL}{x:Y}(p:aJ H cP cR a L x)(s:zg H b):aJ b cP cR a L x:=by obtain⟨j,c,k,i,h,g,f,e⟩:=p;exact⟨j,c,k,s _ _ i,h.mono s,s _ _ g,f,λq d=>(e q d).same s⟩
theorem kx{L:RL}{a:aB}(h:L.map (·.1)=plan a):y8 L=zi (plan a):=by rw[<-h];unfold y8 zi;simp
inductive lT(cP cR:Addr)(vs:List V)(H:Hp)(Q:VK)(e0:XK):Prop|mk:∀(x dx:Addr)(vh:V)(hs:aB),vs=[.ref x,vh]->H x=some (.ins cP dx [])->Is H (eH hs) vh->dO hs->(∀L H',Bt [x] H H'->aJ H' cP cR hs L x->Q .non H')->lT cP cR vs H Q e0
section
variable{K:W.Frag}
theorem Ji:aA ["self","house","number","calling"] ["self","house"] (ze Wp):=.of
theorem KW(D:le K mg "Plan" "Plan.__init__" cP Wp)(T:Txt K mg)(CP:aG K cP aZ)(oE:bR P w K mg base cP "enter" 23 ["self","hand","calling","call","tally"] (mi cP cR)):fT P w K mg base "Plan" cP 24 ["self","house"] (lT cP cR):=by
 refine pX (k:=23) D Ji ?_;rintro f bc A aS s H vs Q E hr ⟨x,l,n,r,rfl,hx,ih,W,k⟩ X;have nd:=Ji.nd;refine⟨_,zb (qb (pv 0) (pv 1) J) (zb (qb (pv 0) Xi J) (zf (wa PassesOwn.never J (J8 J T.enumerate (za (zt zp (pv 1) (xl T.FIRSTS)) zc)) (jw J (yn (zk (i:=2) nd) (yn (zk (i:=3) nd) ql))) (zf (we (qc oE CP.cls hr (pv 0) (za (y0 (za (pv 2) zc)) (za (pv 3) (za Wt (za V0 zc)))))))))),?_⟩
 refine⟨x,cP,l,[],J,hx,CP.cls,CP.n,bO,?_⟩;rw[show qr "house" n []=[(("house":Str),n)] by rfl];have g1:upd H x (.ins cP l [(("house":Str),n)]) x=some (.ins cP l [(("house":Str),n)]):=zd;have b1:Bt [x] H (upd H x (.ins cP l [(("house":Str),n)])):=Bt.upd (by simp);generalize upd H x (.ins cP l [(("house":Str),n)])=H1 at g1 b1⊢;intro d v;have nx:d≠x:=λz=>by rw[z,g1]at v;cases v
 have s2:=zg.new v (.dT []);have h2:upd H1 d (.dT []) d=some (.dT []):=zd;generalize upd H1 d (.dT [])=H2 at s2 h2⊢;refine⟨x,cP,l,_,J,s2 _ _ g1,CP.cls,CP.n,bO,?_⟩;rw[show qr "roles" (.ref d) [(("house":Str),n)]=ij n d by rw[xa (by decide)];rfl];have g3:upd H2 x (.ins cP l (ij n d)) x=some (.ins cP l (ij n d)):=zd;have b3:Bt [x] H (upd H2 x (.ins cP l (ij n d))):=(b1.trans s2.bt).trans (Bt.upd (by simp));have h3:upd H2 x (.ins cP l (ij n d)) d=some (.dT []):=by rw[upd_ne nx];exact h2
 generalize upd H2 x (.ins cP l (ij n d))=U at g3 b3 h3⊢;have t3:yw H U:=b3.tups λm g xs e=>by rw[ai.mp g,hx]at e;cases e
 obtain⟨ah,xh,uf,rfl,aK,a6,a2⟩:=Is.at (K:=K) (i:=2) (ih.tups t3 (W6 _)) J;obtain⟨af,xf,rfl,ay,ap⟩:=a2;have av:=ap.length;rw[ae]at av;refine⟨ah,xh,_,_,J,J,aK,a6,af,xf,J,aE.of ay,?_⟩;have F:x ∉ [d]:=λg=>nx (ai.mp g).symm;have tb:∀{G:Hp},Bt [d] U G->yw U G:=λ{G} b=>b.tups λm g xs e=>by rw[ai.mp g,h3]at e;cases e
 let a7:Nat->L2.St->Hp->Prop:=λi σ B=>∃(L:RL)(x2 x3:Option V),σ=[some (.ref x),some (.ref ah),x2,x3]/\L.map (·.1)=jv ((r.fs.map (·.1)).take i)/\Bt [d] U B/\B d=some (.dT (yj L))/\
  ∀q∈L,bQ (λa=>U a=none) B cR (r.ss.getD q.1.2 []) q.2
 refine uD (K:=K) (a:=af) (xs:=xf) a7
  ⟨[],none,none,J,J,Bt.refl,h3,λq hq=>nomatch hq⟩ (λi σ B _ ⟨_,_,_,_,_,b,_⟩=>aE.of (tb b _ _ ay)) ?_ ?_
 rintro i y σ B p hy ⟨L,x2,x3,rfl,hL,b4,h,N⟩ hp;obtain⟨tt,u,a1⟩:=ap.get' hy;rw[aj]at u;obtain⟨c,hc,rfl⟩:∃c,r.fs[i]?=some c/\eC c=tt:=by cases e:r.fs[i]? with|none=>rw[e]at u;cases u|some z=>rw[e]at u;exact⟨z,J,Option.some.inj u⟩
 have C:=br hc;have hi:=(cp.mp hc).1;have S:=zg.new hp (.tup [.int i,y]);have aa:upd B p (.tup [.int i,y]) p=some (.tup [.int i,y]):=zd;generalize upd B p (.tup [.int i,y])=H5 at S aa⊢;have b5:=b4.trans (M:=[d]) S.bt;refine⟨p,_,J,aE.of aa,J,_,_,J,_,_,J,J,?_⟩;refine⟨x,l,_,J,b5 _ _ F g3,J,bO,λp6 H6 s6 a8 a5=>(λp7 a3=>?_)⟩;have s7:=zg.new a3 (.dK []);have h7:upd H6 p7 (.dK []) p7=some (.dK []):=zd;generalize upd H6 p7 (.dK [])=H7 at s7 h7⊢;have t:=s6.trans s7;have b7:=b5.trans (M:=[d]) t.bt;have ei:((r.fs.map (·.1)).take i).length=i:=by rw[cx,ae];omega
 have R:jv ((r.fs.map (·.1)).take (i+1))=jv ((r.fs.map (·.1)).take i)++[([i],c.1)]:=by
  have e:(r.fs.map (·.1)).take (i+1)=(r.fs.map (·.1)).take i++[c.1]:=by rw[cu,aj,hc];rfl
  unfold jv;rw[e,List.zipIdx_append,be,ei,Nat.zero_add];rfl
 have aq:y8 L=(List.range i).map λj=>[j]:=by have:=Qy ((r.fs.map (·.1)).take i);rw[ei,<-hL]at this;rw[<-this];unfold y8 zi;rw[bp];rfl
 have ba:L.length=i:=by
  have:=congrArg List.length aq;unfold y8 at this
  rwa[ae,ae,cz]at this
 have bb:=W.f40;refine⟨x,l,d,p7,.ref ah,.ref p6,y,r,[i],c,L,J,b7 _ _ F g3,t _ _ (S _ _ h),h7,(ih.tups t3 (W6 _)).tups (tb b7) (W6 _),?_,(a1.tups (tb b7) (r9 _)),W.nw,W.mem c C,W.call c C,λg=>?_,by omega,λrl H8 b8 aw Z=>?_⟩;exact(show Is H6 (tI (hZ [i])) (.ref p6)from⟨p6,_,J,a5,IsL.ints.mpr J⟩).mono s7;rw[aq]at g;obtain⟨j,hj,e⟩:=bz.mp g;injection e with e;have:=da.mp hj;omega;have t8:yw H7 H8:=b8.tups λm g xs e=>by rw[ai.mp g,t _ _ (S _ _ h)]at e;cases e
 refine⟨L++[(([i],c.1),rl)],_,_,J,by rw[be,hL,R];rfl,b7.trans b8,aw,λq hq=>?_⟩;rcases c4.mp hq with e|e;exact(((N q e).same S).same t).keep (λa o M z=>b8 _ _ (λg=>by rw[ai.mp g,h3]at M;cases M) z) t8 λ_ z=>z;rw[ai.mp e];refine Z.keep (λa o _ z=>z) (yw.refl _) λa M=>?_;cases z:U a with|none=>rfl| some o=>by_cases g:a∈[d];rw[ai.mp g,t _ _ (S _ _ h)]at M;cases M;rw[b7 a o g z]at M;cases M
 rintro σ B ⟨L,x2,x3,rfl,hL,b4,h,N⟩;have e:(r.fs.map (·.1)).take xf.length=r.fs.map (·.1):=by rw[av];exact List.take_of_length_le (by rw[ae];exact ag _)
 rw[e]at hL;refine k L B (λb o hb e=>?_) ⟨l,.ref ah,d,b4 _ _ F g3,(ih.tups t3 (W6 _)).tups (tb b4) (W6 _),h,hL,λq hq=>(N q hq).keep (λa o _ z=>z) (yw.refl _) λ_ _=>trivial⟩;refine b4 b o (λg=>?_) (b3 b o hb e);rw[ai.mp g]at e hb;rw[b1 _ _ hb e]at v;cases v
end
noncomputable def yt(l:List (List Nat×Nat)):List (List aM×V):=l.map λq=>(kI (hZ q.1),.int (q.2:Int))
noncomputable def xi(F:List (List Nat)):List (List Nat×Nat):=F.map λh=>(h,0)
theorem su:∀(rows:List (List Int×V))(a:List (List aM×V)),(a.map (·.1)++rows.map λr=>kI r.1).Nodup->iN rows a=a++rows.map λr=>(kI r.1,r.2)
 |[],a,_=>by simp[iN]
 | r::rows,a,h=>by
   have b:yz a (kI r.1)=none:=by
    cases e:yz a (kI r.1)with
    |none=>rfl
    | some v=>have c:=Vf e;rw[cb]at h;exact absurd J ((List.nodup_append.mp h).2.2 _ c _ c5)
   show iN rows (vi a (kI r.1) r.2)=_;rw[Zu _ b,su rows (a++[(kI r.1,r.2)]) (by simpa using h)];simp
abbrev Z1(l:List (List Nat×Nat)):List (List Nat):=zi l
noncomputable def jW(B:List (List Nat)):List (List Int×V):=B.map λh=>(hZ h,V.int 0)
theorem dJ.same{b:Y}{r:O Int×V}(p:dJ H b r)(s:zg H H'):dJ H' b r:=let⟨a,d,c⟩:=p;⟨a,s _ _ d,s _ _ c⟩
theorem Vv{a:O Y}{rows:O (O Int×V)}(p:Paired (dJ H) a rows)(s:zg H H'):Paired (dJ H') a rows:=Paired.mapP p λ_ _ z=>dJ.same z s
inductive mx(cP cR:Addr)(vs:List V)(H:Hp)(Q:VK)(e0:XK):Prop|mk:∀(x:Addr)(hs:aB)(L:RL),vs=[.ref x]->dO hs->aJ H cP cR hs L x->(∀d H',zg H H'->H d=none->H' d=some (.dT (yt (xi (Z1 (plan hs)))))->Q (.ref d) H')->mx cP cR vs H Q e0
section
variable{K:W.Frag}
theorem sk{k:Nat}(a:aQ k A):A.units+8<cLine:=dz (f7 (by decide) _) a.units
theorem wX{k:Nat}(a:aQ k A):A.units+4<cLine:=dz (f7 (by decide) _) a.units
theorem JJ:aA ["self"] ["self"] (ze Xz):=.of
theorem JK(D:q8 K cP "at_first" "Plan.at_first" Xz)(T:Txt K mg)(CP:aG K cP aZ)(CR:aG K cR aR):bR P w K mg base cP "at_first" 1 ["self"] (mx cP cR):=by
 refine Zf (k:=0) D JJ ?_;rintro f a5 A aa s H vs Q E hr ⟨x,hs,L,rfl,W,⟨dx,vh,h,hx,ih,m,hL,aq⟩,k⟩ X;have ap:=sk hr;refine⟨_,zf (zj (Q1 (w9 (Bu J ap) J T.dict Qi (za (qj (own:=["hand","role"]) (cap:=[]) (g:=fe K 2 (bY (km 0) (bY (km 1) mJ))) J (yv (ze Xz) J J (by decide+kernel) (by decide+kernel) (by decide+kernel) trivial) (Yh (zu (pv 0) J)) (λ_ _ _ _=>jw J (yn (zk (i:=0) (by show(["hand","role"]:O Str).Nodup;decide+kernel)) (yn (zk (i:=1) (by show(["hand","role"]:O Str).Nodup;decide+kernel)) ql)))
  (λ_ _ _ _=>js (Xf (t:=vQ (ln K (Jq 1) "call")) (nO (zu (pv 1) J)))) (λ_ _ _ _=>y0 (za (pv 0) (za zh zc)))) zc)))),?_⟩
 refine⟨h,_,m,trivial,λo=>?_⟩;have c:upd H h (.frz o (.dT (yj L))) h=some (.frz o (.dT (yj L))):=zd;have F:∀{b:Y}{u:HO},b≠h->H b=some u->upd H h (.frz o (.dT (yj L))) b=some u:=λ{b u} z e=>by rw[upd_ne z];exact e
 have Yo:∀{G:Hp},zg (upd H h (.frz o (.dT (yj L)))) G->zg H (upd G h (.dT (yj L))):=λ{G} s b u e=>by by_cases z:b=h;rw[z]at e⊢;rw[zd,<-e,m];rw[upd_ne z];exact s _ _ (F z e)
 have fresh:∀{G:Hp},zg (upd H h (.frz o (.dT (yj L)))) G->∀{b:Y},G b=none->H b=none:=λ{G} s b e=>by cases z:H b with|none=>rfl| some u=>by_cases zz:b=h;rw[zz,s _ _ c]at e;cases e;rw[s _ _ (F zz z)]at e;cases e
 generalize upd H h (.frz o (.dT (yj L)))=Hf at c F Yo fresh⊢;have ah:=F (λz=>by rw[z,m]at hx;cases hx) hx;refine⟨x,cP,dx,_,_,J,ah,CP.cls,CP.n,vj,h,o,_,J,c,?_⟩;have a3:L.length<=1000:=by have q:=W.few;have e:=congrArg List.length hL;rw[ae]at e;show _;rw[e];exact q
 refine uo (λi S t=>zg Hf t/\∃r:O Y,S=r.map V.ref/\Paired (dJ t) r (jW (y8 (L.take i)))) ⟨zg.refl _,[],J,.nil⟩ (λi S t hi ⟨n,r,e,v⟩=>⟨n _ _ c,?_⟩) ?_ ?_;have q:=Paired.length v;unfold jW at q;rw[e,ae,q,ae];unfold y8;rw[ae,cx];exact Nat.le_of_lt (wc (by omega));rintro i kv S t g ⟨n,r,rfl,v⟩ p b ay hb;obtain⟨q,hq,rfl⟩:∃q,L[i]?=some q/\(kI (hZ q.1.1),V.ref q.2)=kv:=by unfold yj at g;rw[aj]at g;cases e:L[i]? with|none=>rw[e]at g;cases g|some z=>rw[e]at g;exact⟨z,J,Option.some.inj g⟩
 have aw:q∈L:=br hq;obtain⟨a2,vc,vs,ab,an,ac,Z,_⟩:=aq q aw;have av:=n _ _ (F (λz=>by rw[z,m]at Z;cases Z) Z);have y:=zg.new ay (.tup [.ref b,.ref q.2]);have M:upd t p (.tup [.ref b,.ref q.2]) p=some (.tup [.ref b,.ref q.2]):=zd;have R:=y _ _ hb;generalize upd t p (.tup [.ref b,.ref q.2])=H3 at y M R⊢;have ek:y8 (L.take (i+1))=y8 (L.take i)++[q.1.1]:=by unfold y8;rw[cu,hq,be];rfl
 have ez:jW (y8 (L.take (i+1)))=jW (y8 (L.take i))++[(hZ q.1.1,V.int 0)]:=by unfold jW;rw[ek,be];rfl
 rw[ez];refine⟨p,_,J,aE.of M,J,_,_,J,_,_,J,J,?_⟩;refine⟨q.2,cR,a2,_,_,J,y _ _ av,CR.cls,CR.n,Fv,_,J,ww ⟨bO,λp4 H4 B j aK=>⟨(n.trans y).trans B,r++[p4],by rw[be];rfl,Paired.snoc (Vv v (y.trans B)) ⟨b,aK,?_⟩⟩⟩⟩;rw[<-Wg];exact B _ _ R;rintro S t ⟨n,r,rfl,v⟩ l hl;have e0:(yj L).length=L.length:=by unfold yj;exact ae ..
 rw[e0,cw,kx hL]at v;have U:=zg.new hl (.lst (r.map V.ref));refine⟨l,r,_,J,zd,Vv v U,λd H4 B j N=>?_⟩;have C:=(n.trans U).trans B;refine⟨C _ _ c,?_⟩;have hn:=K9 (hs.fs.map (·.1));have em:iN (jW (zi (plan hs))) []=yt (xi (Z1 (plan hs))):=by rw[su];unfold jW yt xi;rw[bp,bp];rfl;unfold jW;rw[bp];refine List.Pairwise.map _ (λa b a1 z=>a1 ?_) hn;exact qo (aT z)
 rw[em]at N;have aS:d≠h:=λz=>by rw[z]at j;rw[(n.trans U) _ _ c]at j;cases j
 exact k d _ (Yo C) (fresh (n.trans U) j) (by rw[upd_ne aS];exact N)
end
end My
namespace L2
open PySem PySem.Spec PyProof.Rows
variable{b:Addr}{H:Hp}{M:List Addr}
inductive kF(x:V)(lo hi:Option Int)(H:Hp)(Q:VK):Prop|mk:∀ts,Is H (.tup ts) x->(∀v H',zg H H'->Is H' (.tup (Xs ts lo hi)) v->Q v H')->kF x lo hi H Q
theorem Jf{X:Cx}:ni X kF:=by intro a s c H x v e d lo p g Q I j o l k h;obtain⟨f,m,q⟩:=h;exact C4 a s c H x v e d lo p g Q I j o l k ⟨f,m.off0,λb r=>r.elim,λv t i n=>q v t i n.off⟩
noncomputable def without(M:List Addr)(H:Hp):Hp:=λb=>if b∈M then none else H b
theorem y9:zg (without M H) H:=λb o e=>by
 unfold without at e
 simp_all
theorem yf(h:b∈M):without M H b=none:=if_pos h
theorem ye(h:b ∉ M):without M H b=H b:=if_neg h
theorem zg.without{M:O Y}{H a:Hp}(s:zg H a)(h:∀m∈M,H m=none):zg H (without M a):=λb o e=>by
 have z:b ∉ M:=λz=>by simp_all
 rw[ye z];exact s b o e
theorem yB{a:Y}{o u:HO}(e:H a=some o):upd (upd H a u) a o=H:=by rw[Fp];funext b;by_cases z:b=a;rw[z,zd,e];rw[upd_ne z]
end L2
namespace My
open PySem PySem.Spec PyProof.Rows L2
variable{a ad al am as cP cR cU x xp:Addr}{A:Around}{base:Heap}{H H' H0:Hp}{sums:List Int}{h:List Nat}{p:Nat}{P:Program}{s:Shared}{mg:Str->Option Value}{w:World}
noncomputable def Wi:Stmt:=bA 52
noncomputable abbrev Yg:Stmt:=(wf Wi).getD 0 dF
noncomputable abbrev rS:Stmt:=(wf Wi).getD 1 dF
noncomputable abbrev tT:Stmt:=(wf Wi).getD 3 dF
noncomputable abbrev sX:Stmt:=(wf Wi).getD 4 dF
noncomputable abbrev rR:Stmt:=(wf Wi).getD 5 dF
noncomputable abbrev Qs:Stmt:=(wf Wi).getD 7 dF
noncomputable abbrev Vq:Stmt:=(wf Wi).getD 8 dF
noncomputable abbrev mK:Stmt:=(wf Wi).getD 9 dF
noncomputable abbrev Qv:Stmt:=(wf Wi).getD 10 dF
noncomputable def bV:List Str:=["plan","done","sums","comers","lifts"]
noncomputable def eZ(B ad as U Z:Addr):List (Str×V):=[(("plan":Str),.ref B),("done",.ref ad),("sums",.ref as),("comers",.ref U),("lifts",.ref Z)]
theorem Vg:(eZ xp ad as am al).lookup ("plan":Str)=some (.ref xp):=rfl
theorem jq:(eZ xp ad as am al).lookup ("done":Str)=some (.ref ad):=rfl
theorem zX:(eZ xp ad as am al).lookup ("sums":Str)=some (.ref as):=rfl
noncomputable def mM(B:aB):dB (List Nat) aH:=L7 B.ss (plan B)
theorem zF{R:List (List Nat×Nat)}(c:(zi R).Nodup){q:List Nat×Nat}(h:q∈R):yb R q.1=q.2:=by induction R with|nil=>grind| cons a l d=>have b:=c9.mp c;show(if a.1=q.1 then a.2 else yb l q.1)=q.2;rcases az.mp h with e|e;rw[e,if_pos J];have f:q.1∈zi l:=List.mem_map_of_mem e;rw[if_neg (λz=>b.1 (by simp_all))];exact d b.2 e
theorem jh(a:aB):(zi (plan a)).Nodup:=K9 _
theorem Kp{a:aB}{q:O Nat×Nat}(h:q∈plan a):(mM a).scr q.1=a.ss.getD q.2 []:=by show(if q.1∈zi (plan a)then a.ss.getD (yb (plan a) q.1) []else[])=_;rw[if_pos (show q.1∈zi (plan a)from List.mem_map_of_mem h),zF (jh a) h]
theorem aJ.role{a:aB}{L:RL}(p:aJ H cP cR a L x)(hh:h∈zi (plan a)):∃dx vh ar r,H x=some (.ins cP dx (ij vh ar))/\H ar=some (.dT (yj L))/\yz (yj L) (kI (hZ h))=some (.ref r)/\bQ (λ_=>True) H cR ((mM a).scr h) r:=by obtain⟨dx,vh,ar,i,j,g,e,f⟩:=p;obtain⟨q,c,rfl⟩:=bz.mp hh;have b:=c;rw[<-e]at c;obtain⟨z,d,rfl⟩:=bz.mp c;refine⟨dx,vh,ar,z.2,i,g,LP d (by rw[kx e];exact jh a),?_⟩;rw[Kp b];exact f z d
theorem Av{b:List (List Nat×Nat)}{n:Nat}(m:(zi b).Nodup):vi (yt b) (kI (hZ h)) (.int (n:Int))=yt (v4 b h n):=by
 by_cases g:h∈zi b;have c:((yt b).any λk=>decide (k.1=kI (hZ h)))=true:=by obtain⟨q,i,rfl⟩:=bz.mp g;exact List.any_eq_true.mpr ⟨_,List.mem_map_of_mem i,bn J⟩
 unfold vi;rw[if_pos c];clear c;induction b with|nil=>nomatch g| cons a l o=>
   have f:=c9.mp m;show(if kI (hZ a.1)=kI (hZ h)then(kI (hZ a.1),V.int n)else(kI (hZ a.1),V.int a.2))::_=yt (if a.1=h then(a.1,n)::l else(a.1,a.2)::v4 l h n);by_cases e:a.1=h;rw[if_pos (by rw[e]),if_pos e];congr 1;refine(List.map_congr_left λk j=>?_).trans (List.map_id' _);obtain⟨q,i,rfl⟩:=bz.mp j;refine if_neg λz=>f.1 ?_;have s:=qo (aT z)
   grind
   rw[if_neg (λz=>e (qo (aT z))),if_neg e];congr 1;rcases az.mp g with z|z
   simp_all
   exact o f.2 z
 have p:yz (yt b) (kI (hZ h))=none:=by cases e:yz (yt b) (kI (hZ h))with|none=>rfl| some v=>have d:=Vf e;unfold yt at d;rw[bp]at d;obtain⟨q,i,r⟩:=bz.mp d;exact absurd (by rw[<-qo (aT r)];exact List.mem_map_of_mem i) g
 rw[Zu _ p,Vu g];unfold yt;simp
theorem Yc{b:List (List Nat×Nat)}(c:h∈zi b):yz (yt b) (kI (hZ h))=some (.int (yb b h:Int)):=by
 induction b with|nil=>nomatch c| cons a l d=>
   show yz ((kI (hZ a.1),V.int a.2)::yt l) _=some (.int ((if a.1=h then a.2 else yb l h:Nat)));by_cases e:a.1=h;rw[wg (by rw[e]),if_pos e];rw[xu (λz=>e (qo (aT z))),if_neg e];rcases az.mp c with z|z
   simp_all
   exact d z
theorem LN{b:List (List Nat×Nat)}(c:h ∉ zi b):yz (yt b) (kI (hZ h))=none:=by induction b with|nil=>rfl| cons a l d=>show yz ((kI (hZ a.1),V.int a.2)::yt l) _=none;have e:a.1≠h:=λz=>c (by rw[<-z];exact c5);rw[xu (λz=>e (qo (aT z)))];exact d λz=>c (bv _ z)
inductive gR(cU cP cR:Addr)(vs:List V)(H:Hp)(Q:VK)(e0:XK):Prop|mk:∀(H0:Hp)(x dx xp ad:Addr)(fs:List (Str×V))(hs:aB)(L:RL)(h:List Nat)(vh:V)(done:List (List Nat×Nat)),vs=[.ref x,vh,.int 0]->zg H0 H->H0 ad=none->H0 x=some (.ins cU dx fs)->fs.lookup ("plan":Str)=some (.ref xp)->fs.lookup ("done":Str)=some (.ref ad)->aJ H0 cP cR hs L xp->h∈zi (plan hs)->Is H (tI (hZ h)) vh->H ad=some (.dT (yt done))->(zi done).Nodup->done.length<=1000->(∀H',Bt [ad] H H'->H' ad=some (.dT (yt (v4 done h 0)))->Q .non H')->gR cU cP cR vs H Q e0
section
variable{K:W.Frag}
theorem xT:aA ["self","hand","done","role","deeds","deed","wall","came"] ["self","hand","done"] (ze rS):=.of
theorem DV(D:q8 K cU "put" "Run.put" rS)(G:aG K cU bV)(CP:aG K cP aZ)(CR:aG K cR aR):bR P w K mg base cU "put" 1 ["self","hand","done"] (gR cU cP cR):=by
 refine Zf D xT ?_;rintro f aq A U s H vs Q E hr ⟨H0,x,dx,xp,ad,fs,n,L,h,vh,a,rfl,g,na,hx,f1,f2,PA,hh,Z,u,W,ah,k⟩ X;have hu:=jk hr;have q:=xT.nd;refine⟨_,zb (zr (i:=3) q (wo hu (zu (zu (pv 0) J) J) (pv 1))) (zb (zr (i:=4) q (jo Jf (zu (pv 3) J) Za (k9 (pv 2)))) (zb (Yw hu (zu (pv 0) J) (pv 1) (pv 2) J) (zb (wa PassesOwn.never J (j5 (pv 4)) (zk (i:=5) q) yy) (zf (sQ (wa PassesOwn.never J (Yh (zu (pv 3) J)) (jw J (yn (zk (i:=6) q) (yn (zk (i:=7) q) ql))) yy)))))),?_⟩
 obtain⟨dp,vv,ar,R,hp,ap,r,v,vc,vs,ab,an,ac,B,r2,r4,r5,S,_⟩:=PA.role hh;obtain⟨bh,rfl,t⟩:=ke Z;refine⟨x,cU,dx,_,_,J,g _ _ hx,G.cls,G.n,f1,xp,cP,dp,_,_,J,g _ _ hp,CP.cls,CP.n,vj,ar,_,J,r▸DGet.t (g _ _ ap) t,?_⟩;refine⟨R,cR,v,_,_,J,g _ _ B,CR.cls,CR.n,qi,?_⟩;refine⟨0,J,_,(r2.mono g),λv1 F p i1=>?_⟩;have e0:Xs (((mM n).scr h).map eD) none (some 0)=[]:=by unfold Xs;have h2:HT.bU (((mM n).scr h).map eD).length (((mM n).scr h).map eD).length (some ((0):Int))=min 0 (((mM n).scr h).map eD).length:=HT.qM _ _ _;have h3:HT.bU (((mM n).scr h).map eD).length (((mM n).scr h).map eD).length (some 0)=0:=h2.trans (Nat.zero_min _);rw[h3,Nat.zero_sub,List.take_zero]
 rw[e0]at i1;obtain⟨a1,x1,rfl,l,aa⟩:=i1;cases(aa);have N:=g.trans p;refine⟨x,cU,dx,_,_,J,N _ _ hx,G.cls,G.n,f2,ad,_,J,Jc.t (p _ _ u) (p _ _ t) (by unfold yt;rw[ae];exact wc ah),?_⟩;rw[show(V.int 0)=V.int ((0:Nat))from rfl,Av W];have b2:Bt [ad] H (upd F ad (.dT (yt (v4 a h 0)))):=p.bt.trans (Bt.upd (by simp));have d:upd F ad (.dT (yt (v4 a h 0))) ad=some (.dT (yt (v4 a h 0))):=zd;have j:upd F ad (.dT (yt (v4 a h 0))) a1=some (.tup []):=by rw[upd_ne (λz=>by rw[z,p _ _ u]at l;cases l)];exact l
 generalize upd F ad (.dT (yt (v4 a h 0)))=C at b2 d j⊢;have M:=b2.same g λm hm=>by rw[ai.mp hm];exact na
 refine⟨a1,J,⟨[],aE.of j⟩,?_⟩;refine X5 (λi c b=>C=b/\c=[some (.ref x),some (.ref bh),some (.int 0),some (.ref R),some (.ref a1),none,none,none]) ⟨J,J⟩ (λi c b _ ⟨e,_⟩=>by rw[<-e];exact aE.of j) (λi y c b hy _=>by cases hy) ?_;rintro c b ⟨rfl,rfl⟩;refine⟨ac,_,M _ _ S,trivial,λo=>?_⟩;have hf:upd C ac (.frz o (.dT [])) ac=some (.frz o (.dT [])):=zd;refine⟨R,cR,v,_,_,J,(by rw[upd_ne (λz=>by rw[z,S]at B;cases B)];exact M _ _ B),CR.cls,CR.n,tM,ac,o,[],J,hf,?_⟩;refine Q9 (λi c b=>upd C ac (.frz o (.dT []))=b) J (λi c b _ e=>by rw[<-e];exact hf) (λi y c b hy _=>by cases hy) ?_;rintro c b rfl;refine⟨hf,?_⟩;rw[yB (M _ _ S)];exact k C b2 d
end
inductive dA(H0:Hp)(cU cP cR:Addr)(hs:aB)(L:RL)(x ad as:Addr):Prop|mk:∀xp dx am al,aJ H0 cP cR hs L xp->H0 x=some (.ins cU dx (eZ xp ad as am al))->H0 am=some (.lst [])->H0 al=some (.lst [])->H0 ad=none->H0 as=none->dA H0 cU cP cR hs L x ad as
def Va(H:Hp)(ad as:Addr)(U:List (List Nat×Nat))(B:List Int):Prop:=H ad=some (.dT (yt U))/\H as=some (.lst (B.map V.int))
noncomputable def ja(B:aB):List Int:=List.replicate B.b.toNat 0
inductive lF(cU cP cR:Addr)(vs:List V)(H:Hp)(Q:VK)(e0:XK):Prop|mk:∀(G:Hp)(x dx xp d:Addr)(hs:aB)(L:RL)(F:List (List Nat)),vs=[.ref x,.ref xp,.ref d]->H x=some (.ins cU dx [])->zg G H->G x=none->G d=none->aJ G cP cR hs L xp->dO hs->0<=hs.b->hs.b<=1000->H d=some (.dT (yt (xi F)))->F.Nodup->(∀h∈F,h∈zi (plan hs))->(∀ad as H0 H',Bt [x] H H0->zg H0 H'->dA H0 cU cP cR hs L x ad as->Va H' ad as (xi F) (ja hs)->Q .non H')->lF cU cP cR vs H Q e0
section
variable{K:W.Frag}
theorem Kr:aA ["self","plan","stand","hand","done"] ["self","plan","stand"] (ze Yg):=.of
theorem JA(D:le K mg "Run" "Run.__init__" cU Yg)(T:Txt K mg)(CU:aG K cU bV)(CP:aG K cP aZ)(o1:bR P w K mg base cU "put" 1 ["self","hand","done"] (gR cU cP cR)):fT P w K mg base "Run" cU 2 ["self","plan","stand"] (lF cU cP cR):=by
 refine pX (k:=1) D Kr ?_;rintro f d2 A b5 s H vs Q E hr ⟨G,x,v,j,d,S,L,F,rfl,hx,sG,Gx,Gd,PA,W,dK,dE,hd,a2,hF,k⟩ X;have nd:=Kr.nd;refine⟨_,zb (qb (pv 0) (pv 1) rfl) (zb (qb (pv 0) Xi rfl) (zb (qb (pv 0) (yk xI (vk (za zh zc)) (zt zp (zu (pv 1) rfl) (xl T.BOXES))) rfl) (zb (qb (pv 0) (qj (own:=["wall"]) (cap:=[]) rfl (yv (ze Yg) rfl rfl (by decide+kernel) (by decide+kernel) (by decide+kernel) trivial) (wm rfl T.range (za (zt zp (zu (pv 1) rfl) (xl T.WALLS)) zc)) (λ_ _ _ _=>zk (i:=0) (by show(["wall"]:O Str).Nodup;decide+kernel)) (λ_ _ _ _=>wb) (λ_ _ _ _=>Xg)) rfl)
  (zb (sQ (wa PassesOwn.never rfl (Yh (pv 2)) (jw rfl (yn (zk (i:=3) nd) (yn (zk (i:=4) nd) ql))) (zf (we (qc o1 CU.cls hr (pv 0) (za (pv 3) (za (pv 4) zc))))))) (zf (qb (pv 0) (qj (own:=["wall"]) (cap:=[0]) rfl (yv (ze Yg) rfl rfl (by decide+kernel) (by decide+kernel) (by decide+kernel) ⟨⟨_,rfl,.inl rfl,vm rfl⟩,trivial⟩) (wm rfl T.range (za (zt zp (zu (pv 1) rfl) (xl T.WALLS)) zc)) (λ_ _ _ _=>zk (i:=0) (by show(["wall","self"]:O Str).Nodup;decide+kernel)) (λ_ _ _ _=>wb) (λ_ _ _ _=>Xg)) rfl)))))),?_⟩
 obtain⟨dp,vh,ar,hp,ih,dN,dT,du⟩:=id PA;have hw:=W.nw.w;obtain⟨ah,xh,u0,rfl,dr,e0,dt⟩:=Is.at (K:=K) (i:=0) (t:=.int S.b) ih rfl;refine⟨x,cU,v,[],rfl,hx,CU.cls,CU.n,bO,?_⟩;rw[show qr "plan" (.ref j) []=[(("plan":Str),V.ref j)] by rfl];have g1:upd H x (.ins cU v [(("plan":Str),V.ref j)]) x=_:=zd;have b1:Bt [x] H (upd H x (.ins cU v [(("plan":Str),V.ref j)])):=Bt.upd (by simp);generalize upd H x (.ins cU v [(("plan":Str),V.ref j)])=H1 at g1 b1⊢;intro ad B;have Z:ad≠x:=λz=>by rw[z,g1]at B;cases B
 have s2:=zg.new B (.dT []);have h2:upd H1 ad (.dT []) ad=some (.dT []):=zd;generalize upd H1 ad (.dT [])=H2 at s2 h2⊢;refine⟨x,cU,v,_,rfl,s2 _ _ g1,CU.cls,CU.n,bO,?_⟩;rw[show qr "done" (.ref ad) [(("plan":Str),V.ref j)]=[(("plan":Str),V.ref j),("done",.ref ad)] by rw[xa (by decide)];rfl];have g3:upd H2 x (.ins cU v [(("plan":Str),V.ref j),("done",.ref ad)]) x=_:=zd;have b3:Bt [x] H (upd H2 x (.ins cU v [(("plan":Str),V.ref j),("done",.ref ad)])):=(b1.trans s2.bt).trans (Bt.upd (by simp));have h3:upd H2 x (.ins cU v [(("plan":Str),V.ref j),("done",.ref ad)]) ad=_:=(upd_ne Z).trans h2;generalize upd H2 x (.ins cU v [(("plan":Str),V.ref j),("done",.ref ad)])=H3 at g3 b3 h3⊢;have sx:∀{J:Hp},Bt [x] H J->zg G J:=λ{J} b=>b.same sG λm t=>by rw[ai.mp t];exact Gx
 refine⟨bO,λp4 H4 s4 dv cv=>?_⟩;have b4:=b3.trans (M:=[x]) s4.bt;have a8:=sx b4;obtain⟨a',bM,u4,e',b2,e4,co⟩:=Is.at (K:=K) (i:=0) (t:=.int S.b) (ih.mono a8) rfl;cases e';cases(show u4=.int S.b from co);refine⟨j,cP,dp,_,_,rfl,a8 _ _ hp,CP.cls,CP.n,Vx,ah,bM,_,_,rfl,rfl,b2,e4,p4,S.b,_,rfl,rfl,cv,(by omega),(by omega),(by show 1*S.b.toNat<=sizeLine;exact Nat.le_of_lt (wc (by omega))),λas M=>?_⟩;have bE:(List.replicate S.b.toNat [V.int 0]).flatten=(ja S).map V.int:=by unfold ja;rw[List.map_replicate];induction S.b.toNat with|zero=>rfl|succ n ih=>rw[List.replicate_succ,List.flatten_cons,ih,List.replicate_succ];rfl
 rw[bE];have s5:=zg.new M (.lst ((ja S).map V.int));have h5:upd H4 as (.lst ((ja S).map V.int)) as=some (.lst ((ja S).map V.int)):=zd;generalize upd H4 as (.lst ((ja S).map V.int))=H5 at s5 h5⊢;have ay:as≠x:=λz=>by rw[z,s4 _ _ g3]at M;cases M
 have ck:as≠ad:=λz=>by rw[z,s4 _ _ h3]at M;cases M
 refine⟨x,cU,v,_,rfl,s5 _ _ (s4 _ _ g3),CU.cls,CU.n,bO,?_⟩;rw[show qr "sums" (.ref as) [(("plan":Str),V.ref j),("done",.ref ad)]=[(("plan":Str),V.ref j),("done",.ref ad),("sums",.ref as)] by rw[xa (by decide),xa (by decide)];rfl];have g6:upd H5 x (.ins cU v [(("plan":Str),V.ref j),("done",.ref ad),("sums",.ref as)]) x=_:=zd;have b6:Bt [x] H (upd H5 x (.ins cU v [(("plan":Str),V.ref j),("done",.ref ad),("sums",.ref as)])):=(b4.trans s5.bt).trans (Bt.upd (by simp));have h6:upd H5 x (.ins cU v [(("plan":Str),V.ref j),("done",.ref ad),("sums",.ref as)]) ad=_:=(upd_ne Z).trans (s5 _ _ (s4 _ _ h3));have i6:upd H5 x (.ins cU v [(("plan":Str),V.ref j),("done",.ref ad),("sums",.ref as)]) as=_:=(upd_ne ay).trans h5;generalize upd H5 x (.ins cU v [(("plan":Str),V.ref j),("done",.ref ad),("sums",.ref as)])=H6 at g6 b6 h6 i6⊢;have a7:=sx b6;obtain⟨a',bL,u6,e',b0,e6,cn⟩:=Is.at (K:=K) (i:=1) (t:=.int S.w) (ih.mono a7) rfl;cases e';cases(show u6=.int S.w from cn);rw[hw]at e6;refine⟨j,cP,dp,_,_,rfl,a7 _ _ hp,CP.cls,CP.n,Vx,ah,bL,_,_,rfl,rfl,b0,e6,?_⟩;refine⟨0,rfl,(by decide),(by decide),?_⟩;let dh:Nat->O V->Hp->Prop:=λi ys H'=>ys=[]/\H6=H';refine j7 (n:=(0:Int).toNat) dh ⟨rfl,rfl⟩ (λ_ ys _ _ ⟨e,_⟩=>by rw[e];exact bj _) (λi _ _ h=>absurd h (Nat.not_lt_zero _)) ?_;rintro ys H' ⟨rfl,rfl⟩ C N;have s7:=zg.new N (.lst []);have h7:upd H6 C (.lst []) C=some (.lst []):=zd;generalize upd H6 C (.lst [])=H7 at s7 h7⊢;have bc:C≠x:=λz=>by rw[z,g6]at N;cases N
 refine⟨x,cU,v,_,rfl,s7 _ _ g6,CU.cls,CU.n,bO,?_⟩;rw[show qr "comers" (.ref C) [(("plan":Str),V.ref j),("done",.ref ad),("sums",.ref as)]=[(("plan":Str),V.ref j),("done",.ref ad),("sums",.ref as),("comers",.ref C)] by rw[xa (by decide),xa (by decide),xa (by decide)];rfl];have g8:upd H7 x (.ins cU v [(("plan":Str),V.ref j),("done",.ref ad),("sums",.ref as),("comers",.ref C)]) x=_:=zd;have b8:Bt [x] H (upd H7 x (.ins cU v [(("plan":Str),V.ref j),("done",.ref ad),("sums",.ref as),("comers",.ref C)])):=(b6.trans s7.bt).trans (Bt.upd (by simp));have h8:upd H7 x (.ins cU v [(("plan":Str),V.ref j),("done",.ref ad),("sums",.ref as),("comers",.ref C)]) ad=_:=(upd_ne Z).trans (s7 _ _ h6);have i8:upd H7 x (.ins cU v [(("plan":Str),V.ref j),("done",.ref ad),("sums",.ref as),("comers",.ref C)]) as=_:=(upd_ne ay).trans (s7 _ _ i6);have j8:upd H7 x (.ins cU v [(("plan":Str),V.ref j),("done",.ref ad),("sums",.ref as),("comers",.ref C)]) C=_:=(upd_ne bc).trans h7;generalize upd H7 x (.ins cU v [(("plan":Str),V.ref j),("done",.ref ad),("sums",.ref as),("comers",.ref C)])=H8 at g8 b8 h8 i8 j8⊢;have a1:d≠x:=λz=>by rw[z,hx]at hd;cases hd
 have bx:=b8 d _ (λt=>a1 (ai.mp t)) hd;refine⟨d,_,bx,trivial,λo=>?_⟩;have aS:upd H8 d (.frz o (.dT (yt (xi F)))) d=_:=zd;have aK:ad≠d:=λz=>by rw[z,b1 d _ (λt=>a1 (ai.mp t)) hd]at B;cases B
 have sf:zg G (upd H8 d (.frz o (.dT (yt (xi F))))):=λb u e=>by rw[upd_ne (λz=>by rw[z,Gd]at e;cases e)];exact sx b8 b u e
 have gf:upd H8 d (.frz o (.dT (yt (xi F)))) x=_:=(upd_ne (ak a1)).trans g8;have hf:upd H8 d (.frz o (.dT (yt (xi F)))) ad=_:=(upd_ne aK).trans h8;have aw:∀{J:Hp},Bt [ad] (upd H8 d (.frz o (.dT (yt (xi F))))) J->Bt [ad] H8 (upd J d (.dT (yt (xi F)))):=λ{J} b c u hc e=>by by_cases z:c=d;rw[z]at e⊢;rw[zd,<-e,bx];rw[upd_ne z];exact b c u hc (by rw[upd_ne z];exact e)
 generalize upd H8 d (.frz o (.dT (yt (xi F))))=Hf at aS sf gf hf aw⊢;have bJ:G ad=none:=by cases e:G ad with|none=>rfl|some u=>rw[sx b1 _ _ e]at B;cases B
 have d1:F.length<=1000:=by
  have q:=Vi (f:=λ_=>1) a2 hF;have e:∀l:O (O Nat),(l.map λ_=>1).sum=l.length:=λl=>by induction l with|nil=>rfl|cons a r ih=>rw[cb,List.sum_cons,ih,df];omega
  rw[e,e]at q;have q2:(zi (plan S)).length<=1000:=by unfold zi;rw[ae];exact W.few
  omega
 refine⟨d,o,_,rfl,aS,?_⟩;let dg:Nat->L2.St->Hp->Prop:=λi σ H'=>∃x3 x4,σ=[some (.ref x),some (.ref j),some (.ref d),x3,x4]/\Bt [ad] Hf H'/\H' ad=some (.dT (yt (xi (F.take i))));refine Q9 (kvs:=yt (xi F)) dg ⟨none,none,rfl,Bt.refl,hf⟩ (λi σ H' _ ⟨_,_,_,b,_⟩=>b _ _ (λt=>aK (ai.mp t).symm) aS) ?_ ?_;rintro i kv σ H' aq ⟨x3,x4,rfl,b9,h9⟩ p b cs hb;obtain⟨h,hh,rfl⟩:∃h,F[i]?=some h/\(kI (hZ h),V.int 0)=kv:=by unfold yt xi at aq;rw[bp,aj]at aq;cases e:F[i]? with|none=>rw[e]at aq;cases aq|some z=>rw[e]at aq;exact⟨z,rfl,Option.some.inj aq⟩
 have sp:=zg.new cs (.tup [.ref b,.int 0]);have bl:upd H' p (.tup [.ref b,.int 0]) p=some (.tup [.ref b,.int 0]):=zd;generalize upd H' p (.tup [.ref b,.int 0])=Ha at sp bl⊢;have ba:=b9.trans (M:=[ad]) sp.bt;refine⟨p,_,rfl,aE.of bl,rfl,_,_,rfl,_,_,rfl,rfl,?_⟩;have bg:x≠ad:=ak Z;have nk:h ∉ zi (xi (F.take i)):=λt=>by
  unfold zi xi at t;rw[bp]at t;obtain⟨g,hg,rfl⟩:=bz.mp t;have q:=a2;obtain⟨c1,c0⟩:=cp.mp hh;have e3:F=F.take i++F[i]::F.drop (i+1):=by rw[<-List.drop_eq_getElem_cons c1,List.take_append_drop]
  rw[e3]at q;exact(List.nodup_append.mp q).2.2 _ hg _ c5 c0.symm
 refine⟨x,v,_,rfl,ba _ _ (λt=>bg (ai.mp t)) gf,rfl,without [ad] Hf,x,v,j,ad,[(("plan":Str),V.ref j),("done",.ref ad),("sums",.ref as),("comers",.ref C)],S,L,h,.ref b,xi (F.take i),rfl,ba.same y9 (λm t=>yf t),yf (by simp),?_,rfl,rfl,?_,hF h (br hh),?_,sp _ _ h9,?_,?_,λHb bb c2=>?_⟩;rw[ye (λt=>bg (ai.mp t))];exact gf;exact PA.same (sf.without λm t=>by rw[ai.mp t];exact bJ);exact⟨b,_,rfl,sp _ _ (by rw[<-Wg];exact hb),IsL.ints.mpr rfl⟩;unfold zi xi;rw[bp];exact(List.map_id' (F.take i)).symm▸a2.sublist (List.take_sublist ..);unfold xi;rw[ae,cx];omega;refine⟨_,_,rfl,ba.trans bb,?_⟩;rw[c2,Vu nk];unfold xi;rw[cu,hh,be];rfl;rintro σ H9 ⟨x3,x4,rfl,b9,h9⟩;have el:(yt (xi F)).length=F.length:=by unfold yt xi;rw[ae,ae]
 rw[el,cw]at h9;refine⟨b9 _ _ (λt=>aK (ai.mp t).symm) aS,?_⟩;have av:=aw b9;have a3:upd H9 d (.dT (yt (xi F))) ad=_:=(upd_ne aK).trans h9;generalize upd H9 d (.dT (yt (xi F)))=Ht at av a3⊢;have fO:C≠as:=λz=>by rw[z,i6]at N;cases N
 have bd:C≠ad:=λz=>by rw[z,h6]at N;cases N
 have gt:=av _ _ (λt=>Z (ai.mp t).symm) g8;have it:=av _ _ (λt=>ck (ai.mp t)) i8;have jt:=av _ _ (λt=>bd (ai.mp t)) j8;have a6:zg G Ht:=av.same (sx b8) λm t=>by rw[ai.mp t];exact bJ
 obtain⟨a',bK,u9,e',bN,e9,cl⟩:=Is.at (K:=K) (i:=1) (t:=.int S.w) (ih.mono a6) rfl;cases e';cases(show u9=.int S.w from cl);rw[hw]at e9;refine⟨j,cP,dp,_,_,rfl,a6 _ _ hp,CP.cls,CP.n,Vx,ah,bK,_,_,rfl,rfl,bN,e9,?_⟩;refine⟨0,rfl,(by decide),(by decide),?_⟩;let c3:Nat->O V->Hp->Prop:=λi ys H'=>ys=[]/\Ht=H';refine j7 (n:=(0:Int).toNat) c3 ⟨rfl,rfl⟩ (λ_ ys _ _ ⟨e,_⟩=>by rw[e];exact bj _) (λi _ _ h=>absurd h (Nat.not_lt_zero _)) ?_;rintro ys H' ⟨rfl,rfl⟩ U R;have ap:=zg.new R (.lst []);have bC:upd Ht U (.lst []) U=some (.lst []):=zd;generalize upd Ht U (.lst [])=aa at ap bC⊢;have b7:U≠x:=λz=>by rw[z,gt]at R;cases R
 have ca:U≠as:=λz=>by rw[z,it]at R;cases R
 have cc:U≠ad:=λz=>by rw[z,a3]at R;cases R
 refine⟨x,cU,v,_,rfl,ap _ _ gt,CU.cls,CU.n,bO,?_⟩;rw[show qr "lifts" (.ref U) [(("plan":Str),V.ref j),("done",.ref ad),("sums",.ref as),("comers",.ref C)]=eZ j ad as C U by rw[xa (by decide),xa (by decide),xa (by decide),xa (by decide)];rfl];have bD:upd aa x (.ins cU v (eZ j ad as C U)) x=_:=zd;have bB:upd aa x (.ins cU v (eZ j ad as C U)) ad=_:=(upd_ne Z).trans (ap _ _ a3);have bk:upd aa x (.ins cU v (eZ j ad as C U)) as=_:=(upd_ne ay).trans (ap _ _ it);have bi:upd aa x (.ins cU v (eZ j ad as C U)) C=_:=(upd_ne bc).trans (ap _ _ jt);have bh:upd aa x (.ins cU v (eZ j ad as C U)) U=_:=(upd_ne b7).trans bC;have bI:∀b u,b≠x->b≠ad->H8 b=some u->upd aa x (.ins cU v (eZ j ad as C U)) b=some u:=λb u z1 z2 e=>by rw[upd_ne z1];exact ap _ _ (av b u (λt=>z2 (ai.mp t)) e)
 generalize upd aa x (.ins cU v (eZ j ad as C U))=a5 at bD bB bk bi bh bI⊢;have dn:∀b u,H b=some u->b≠x->b≠ad/\b≠as:=λb u e z=>⟨(λy=>by rw[y]at e z;rw[b1 _ _ (λt=>z (ai.mp t)) e]at B;cases B),(λy=>by rw[y]at e z;rw[b4 _ _ (λt=>z (ai.mp t)) e]at M;cases M)⟩
 have bw:Bt [x] H (without [ad,as] a5):=λb u hb e=>by have z:b≠x:=λz=>hb (ai.mpr z);obtain⟨z1,z2⟩:=dn b u e z;rw[ye (by simp[z1,z2])];exact bI b u z z1 (b8 b u hb e)
 refine k ad as (without [ad,as] a5) a5 bw y9 ⟨j,v,C,U,PA.same (sx bw),?_,?_,?_,yf (by simp),yf (by simp)⟩ ⟨bB,bk⟩;rw[ye (by simp[ak Z,ak ay])];exact bD;rw[ye (by simp[bd,fO])];exact bi;rw[ye (by simp[cc,ca])];exact bh
end
noncomputable abbrev Xb:Stmt:=bA 53
inductive fb(cU cP cR:Addr)(vs:List V)(H:Hp)(Q:VK)(e0:XK):Prop|mk:∀(xp:Addr)(hs:aB)(L:RL),vs=[.ref xp]->aJ H cP cR hs L xp->dO hs->(∀x ad as H0 H',zg H H0->zg H0 H'->H x=none->dA H0 cU cP cR hs L x ad as->Va H' ad as (xi (Z1 (plan hs))) (ja hs)->Q (.ref x) H')->fb cU cP cR vs H Q e0
structure bF(H0 H:Hp)(cU cP cR:Addr)(hs:aB)(L:RL)(x ad as:Addr)(done:List (List Nat×Nat))(sums:List Int):Prop where
 f:dA H0 cU cP cR hs L x ad as
 s:zg H0 H
 m:Va H ad as done sums
theorem bF.same{b:aB}{L:RL}{a:O (O Nat×Nat)}(r:bF H0 H cU cP cR b L x ad as a sums)(s:zg H H'):bF H0 H' cU cP cR b L x ad as a sums:=⟨r.f,r.s.trans s,s _ _ r.m.1,s _ _ r.m.2⟩
theorem bF.bt{f:aB}{L:RL}{e d:O (O Nat×Nat)}{c:O Int}(r:bF H0 H cU cP cR f L x ad as e sums)(b:Bt [ad,as] H H')(m:Va H' ad as d c):bF H0 H' cU cP cR f L x ad as d c:=by
 refine⟨r.f,b.same r.s λa j=>?_,m⟩;obtain⟨g,k,l,n,_,_,_,_,i,h⟩:=r.f
 grind
theorem X7{a:aB}{d:aH}(e:((mM a).scr h)[p]?=some d):∃s∈a.ss,d∈s:=by have b:(if h∈zi (plan a)then a.ss.getD (yb (plan a) h) []else[])[p]?=some d:=e;by_cases c:h∈zi (plan a);rw[if_pos c]at b;have q:=EF b;exact⟨_,br q,br b⟩;rw[if_neg c]at b;cases b
theorem zQ{a:aB}(W:uX a)(h:List Nat):((mM a).scr h).length<=1000:=by
 show(if h∈zi (plan a)then a.ss.getD (yb (plan a) h) []else[]).length<=1000;by_cases c:h∈zi (plan a);rw[if_pos c,c8];cases e:a.ss[yb (plan a) h]? with|none=>simp|some s=>exact W.len s (br e)
 simp_all
def CO(H:Hp)(d:Option aH)(v:V):Prop:=match d with|none=>v=.non|some d=>Is H (eD d) v
theorem _root_.L2.DGet.tr{b:Y}{kvs:O (O aM×V)}{k:O aM}(e:Rd H a (.dT kvs))(c:H b=some (.tup (k.map kV))):DGet H a (.ref b) (yz kvs k):=.inr ⟨kvs,k,b,e,J,c,J⟩
structure cT(H0 H:Hp)(cU cP cR:Addr)(hs:aB)(L:RL)(x ad as:Addr)(done:List (List Nat×Nat))(sums:List Int):Prop where
 f:dA H0 cU cP cR hs L x ad as
 s:zg H0 H
 m:Rd H ad (.dT (yt done))/\H as=some (.lst (sums.map V.int))
theorem cT.same{b:aB}{L:RL}{a:O (O Nat×Nat)}(r:cT H0 H cU cP cR b L x ad as a sums)(s:zg H H'):cT H0 H' cU cP cR b L x ad as a sums:=⟨r.f,r.s.trans s,r.m.1.elim (λe=>.inl (s _ _ e)) (λ⟨o,e⟩=>.inr ⟨o,s _ _ e⟩),s _ _ r.m.2⟩
theorem bF.rd{b:aB}{L:RL}{a:O (O Nat×Nat)}(r:bF H0 H cU cP cR b L x ad as a sums):cT H0 H cU cP cR b L x ad as a sums:=⟨r.f,r.s,.inl r.m.1,r.m.2⟩
noncomputable def Wx(Z:aB)(U:List (List Nat×Nat))(B:List Int)(h:List Nat):Bool:=match((mM Z).scr h)[yb U h]? with|none=>false| some d=>match m7 d with|none=>true|some (b,m)=>decide (m<=B.getD b 0)
inductive jD(cU cP cR:Addr)(vs:List V)(H:Hp)(Q:VK)(e0:XK):Prop|mk:∀(H0:Hp)(x ad as:Addr)(hs:aB)(L:RL)(done:List (List Nat×Nat))(sums:List Int)(h:List Nat)(vh:V),vs=[.ref x,vh]->cT H0 H cU cP cR hs L x ad as done sums->h∈zi (plan hs)->h∈zi done->dO hs->Is H (tI (hZ h)) vh->(∀v,CO H (((mM hs).scr h)[yb done h]?) v->Q v H)->jD cU cP cR vs H Q e0
inductive ma(cU cP cR:Addr)(vs:List V)(H:Hp)(Q:VK)(e0:XK):Prop|mk:∀(H0:Hp)(x ad as:Addr)(hs:aB)(L:RL)(done:List (List Nat×Nat))(sums:List Int)(b:Nat)(v:V),vs=[.ref x,v]->cT H0 H cU cP cR hs L x ad as done sums->Is H (.tup [.str "await",.int (b:Int)]) v->b<sums.length->Q (.int (sums.getD b 0)) H->ma cU cP cR vs H Q e0
inductive gU(cU cP cR:Addr)(vs:List V)(H:Hp)(Q:VK)(e0:XK):Prop|mk:∀(H0:Hp)(x ad as:Addr)(hs:aB)(L:RL)(done:List (List Nat×Nat))(sums:List Int)(h:List Nat)(vh:V),vs=[.ref x,vh]->cT H0 H cU cP cR hs L x ad as done sums->h∈zi (plan hs)->h∈zi done->dO hs->sums.length=hs.b.toNat->Is H (tI (hZ h)) vh->(∀H',zg H H'->Q (.bl (Wx hs done sums h)) H')->gU cU cP cR vs H Q e0
section
variable{K:W.Frag}
theorem Lr:aA ["plan"] ["plan"] (ze Xb):=⟨J,J,J,by simp,J,by decide+kernel,by decide+kernel⟩
theorem yT{a:aB}:∀h∈Z1 (plan a),h∈zi (plan a):=λh b=>b
theorem wW{a:aB}:(Z1 (plan a)).Nodup:=jh a
theorem Lm(D:bH K mg "first_run" Xb)(U:aG K cP aZ)(z:bR P w K mg base cP "at_first" 1 ["self"] (mx cP cR))(y:fT P w K mg base "Run" cU 2 ["self","plan","stand"] (lF cU cP cR)):Ok P w K mg base "first_run" 4 ["plan"] (fb cU cP cR):=by
 refine wj D Lr ?_;rintro f M A i s H Z Q E q ⟨g,j,L,rfl,PA,W,k⟩ X;refine⟨_,zf (zj (mR y q (za (pv 0) (za (X1 z U.cls (q.mono (by decide)) (pv 0)) zc)))),?_⟩;obtain⟨G,vh,ar,B,_⟩:=id PA;refine⟨g,G,_,J,B,J,g,j,L,J,W,PA,λd r a l n=>?_⟩;intro x p c m C;have h:zg r (upd (upd r p (.own x)) x (.ins cU p [])):=λb o e=>by rw[upd_ne (zm e c),upd_ne (zm e m)];exact e
 refine⟨H,x,p,g,d,j,L,Z1 (plan j),J,zd,a.trans h,y7 a c,l,PA,W,W.b0,W.b9,h _ _ n,wW,yT,λad as R S N t v u=>⟨J,?_⟩⟩;refine k x ad as R S (λb o e=>?_) t (y7 a c) v u;refine N b o (λF=>?_) (h _ _ (a _ _ e));rw[ai.mp F,y7 a c]at e;cases e
theorem zM:aA ["self","hand","script","place"] ["self","hand"] (ze sX):=.of
theorem EQ(D:q8 K cU "next_deed" "Run.next_deed" sX)(T:Txt K mg)(l:aG K cU bV)(F:aG K cP aZ)(CR:aG K cR aR):bR P w K mg base cU "next_deed" 1 ["self","hand"] (jD cU cP cR):=by
 refine Zf D zM ?_;rintro f aa A n s H M Q E Z ⟨H0,x,ad,as,U,L,j,t,h,vh,rfl,R,hh,hk,W,o,k⟩ X;have z:=jk Z;have v:=zM.nd;refine⟨_,zb (zr (i:=2) v (zu (wo z (zu (zu (pv 0) J) J) (pv 1)) J)) (zb (zr (i:=3) v (wo z (zu (pv 0) J) (pv 1))) (zf (zj (Yi (zo We (pv 3) (yd yp J T.len qd (za (pv 2) zc)) (zx _)) (zt zp (pv 2) (pv 3)) Wt)))),?_⟩
 obtain⟨G,B,am,al,PA,y,_⟩:=R.f;obtain⟨dp,vv,ar,N,hp,p,a,q,vc,M,ab,an,ac,S,m,_⟩:=PA.role hh;obtain⟨bh,rfl,d⟩:=ke o;have m:=m.mono R.s;obtain⟨C,r,rfl,g,b⟩:=m;have i:=b.length;rw[ae]at i;refine⟨x,cU,B,_,_,J,R.s _ _ y,l.cls,l.n,Vg,G,cP,dp,_,_,J,R.s _ _ hp,F.cls,F.n,vj,ar,_,J,a▸DGet.t (R.s _ _ p) d,N,cR,q,_,_,J,R.s _ _ S,CR.cls,CR.n,qi,?_⟩;refine⟨x,cU,B,_,_,J,R.s _ _ y,l.cls,l.n,jq,ad,_,J,Yc hk▸DGet.tr R.m.1 d,?_⟩;refine⟨C,r,J,.inr (aE.of g),_,_,J,J,_,J,?_⟩;rw[i];by_cases c:yb j h<((mM U).scr h).length;rw[bn (by omega)];have e:=bo c;obtain⟨u,e1,e2⟩:=b.get (by rw[aj,e];rfl);refine ww ⟨C,r,_,u,J,J,aE.of g,xt e1,k u ?_⟩;rw[e];exact e2;rw[c6 (by omega)];refine yi (k .non ?_);rw[dq (by omega)];rfl
theorem GE:aA ["self","ground"] ["self","ground"] (ze tT):=.of
theorem F6(D:q8 K cU "level" "Run.level" tT)(m:aG K cU bV):bR P w K mg base cU "level" 1 ["self","ground"] (ma cU cP cR):=by
 refine Zf D GE ?_;rintro f r A c s H u Q E G ⟨U,x,ad,as,F,L,j,i,b,v,rfl,R,o,M,k⟩ X;refine⟨_,zf (zj (Yi (zo xz (zt zp (pv 1) zh) zy (zx _)) (zt Zb (zu (pv 0) J) (zt zp (pv 1) zh)) Xg)),?_⟩;obtain⟨t,q,N,S,PA,p,_⟩:=R.f;obtain⟨l,n,rfl,a,h⟩:=o;obtain⟨z,B,rfl,e,y,C,rfl,d,g⟩:=h;cases(g);cases(e);cases(d);refine⟨l,_,_,_,J,J,aE.of a,J,J,_,J,ww ?_⟩;refine⟨x,cU,q,_,_,J,R.s _ _ p,m.cls,m.n,zX,l,_,_,_,J,J,aE.of a,J,as,_,_,_,J,J,aI.of R.m.2,xt ?_,k⟩
 simp_all
end
theorem vI{c:Type}(a b:c)(r:O c):Xs (a::b::r) none (some 2)=[a,b]:=by unfold Xs;have e:HT.bU (a::b::r).length (a::b::r).length (some ((2:Nat)))=min 2 (a::b::r).length:=HT.qM _ _ _;have d:HT.bU (a::b::r).length (a::b::r).length (some 2)=2:=e.trans (by rw[df,df];omega);rw[d,HT.nV];rfl
noncomputable def mz:aH->List L2.T|.rai b _=>[.tup [.str "await",.int b]]|_=>[]
inductive jK(vs:List V)(H:Hp)(Q:VK)(e0:XK):Prop|mk:∀(x lw:Addr)(vd:V)(d:aH),vs=[.ref x,vd,.ref lw]->Is H (eD d) vd->H lw=some (.lst [])->(∀l H',zg H H'->H l=none->Is H' (.lst (mz d)) (.ref l)->Q (.ref l) H')->jK vs H Q e0
section
variable{K:W.Frag}
theorem xQ:aA ["self","hand","deed","need"] ["self","hand"] (ze rR):=.of
theorem DT(D:q8 K cU "may_go_on" "Run.may_go_on" rR)(l:aG K cU bV)(CP:aG K cP aZ)(CR:aG K cR aR)(o1:bR P w K mg base cU "next_deed" 1 ["self","hand"] (jD cU cP cR))(o2:bR P w K mg base cU "level" 1 ["self","ground"] (ma cU cP cR))(o3:Ok P w K mg base "is_met" 1 ["level","need"] me):bR P w K mg base cU "may_go_on" 2 ["self","hand"] (gU cU cP cR):=by
 refine Zf D xQ ?_;rintro f av A y s H vs Q E t ⟨H0,x,ad,as,B,L,a,i,h,vh,rfl,R,hh,hk,W,aa,n,k⟩ X;have Z:=jk t;have U:=xQ.nd;refine⟨_,zb (zr (i:=2) U (qc o1 l.cls t (pv 0) (za (pv 1) zc))) (zb (yg (Xf (nO (pv 2))) (zf (zj wn)) zn) (zb (zr (i:=3) U (zt Zb (zu (wo Z (zu (zu (pv 0) J) J) (pv 1)) J) (wo Z (zu (pv 0) J) (pv 1)))) (zf (zj (pR (sL (nO (pv 3))) (j6 (yc o3 t (za (qc o2 l.cls t (pv 0) (za (jo Jf (pv 2) Za (k9 zh)) zc)) (za (pv 3) zc))))))))),?_⟩
 obtain⟨xp,u,am,al,PA,r,_⟩:=id R.f;refine⟨x,u,_,J,R.s _ _ r,J,H0,x,ad,as,B,L,a,i,h,vh,J,R,hh,hk,W,n,λv j=>?_⟩;unfold Wx at k;cases e:((mM B).scr h)[yb a h]? with
 | none=>rw[e]at j k;cases(j);exact⟨_,J,ww (k H (zg.refl H))⟩
 | some d=>
   rw[e]at j k;have j:Is H (eD d) v:=j;obtain⟨rr,C⟩:=Zy d;obtain⟨a5,x5,rfl,aq,ah⟩:=(C▸j)
   refine⟨_,J,yi ?_⟩;obtain⟨dp,vv,ar,rl,hp,M,o,N,vc,vs,ab,an,ac,r1,r2,r4,r5,_⟩:=PA.role hh;obtain⟨bh,rfl,p⟩:=ke n;refine⟨x,cU,u,_,_,J,R.s _ _ r,l.cls,l.n,Vg,xp,cP,dp,_,_,J,R.s _ _ hp,CP.cls,CP.n,vj,ar,_,J,o▸DGet.t (R.s _ _ M) p,rl,cR,N,_,_,J,R.s _ _ r1,CR.cls,CR.n,Ax,?_⟩;refine⟨x,cU,u,_,_,J,R.s _ _ r,l.cls,l.n,jq,ad,_,J,Yc hk▸DGet.tr R.m.1 p,an,_,_,Yj d,J,J,aI.of (R.s _ _ r5),xt (by rw[aj,e];rfl),?_⟩;obtain⟨q,c,g⟩:=X7 e;cases d with
   | awa b m=>obtain⟨G,ap⟩:=W.box q c _ g b m (.inr J);refine⟨_,J,yi ?_⟩;refine⟨x,u,_,J,R.s _ _ r,J,2,J,_,j,λv2 H2 S z=>?_⟩;rw[(vI _ _ _)]at z;have F:=Int.toNat_of_nonneg G;rw[<-F]at z;refine⟨H0,x,ad,as,B,L,a,i,b.toNat,v2,J,R.same S,z,by omega,_,_,J,k H2 S⟩
   |com w=>exact(W.nw.deeds q c _ g).elim
   |goo w=>exact(W.nw.deeds q c _ g).elim
   |lea w=>exact(W.nw.deeds q c _ g).elim
   |_=>exact⟨_,J,ww (k H (zg.refl H))⟩
theorem Kv:aA ["self","deed","walls","grounds","wall","lift"] ["self","deed","walls"] (ze Qv):=.of
theorem JN(D:q8 K cU "changed" "Run.changed" Qv):bR P w K mg base cU "changed" 1 ["self","deed","walls"] jK:=by
 refine Zf D Kv ?_;rintro f ah A F s H vs Q E hr ⟨x,t,vd,d,rfl,hd,c,k⟩ X;have Z:=Kv.nd;refine⟨_,zb (zr (i:=3) Z (Yi (zo xz (zt zp (pv 1) zh) zy (zx _)) (vk (za (y0 (za zy (za (zt zp (pv 1) zh) zc))) zc)) (vk zc))) (zb (wa PassesOwn.never J (vy (pv 2)) (zk (i:=4) Z) yy) (zf (zj (pv 3)))),?_⟩
 obtain⟨r,N⟩:=Zy d;obtain⟨u,z,u5,rfl,C,U,M⟩:=Is.at (i:=0) (N▸hd) J;cases(M);refine⟨u,z,_,_,J,J,C,U,J,_,J,?_⟩;cases d with| rai b m=>
   obtain⟨a6,v,u6,e6,B,S,L⟩:=Is.at (i:=1) hd J;cases e6;cases(L);refine ww ⟨u,v,_,_,J,J,B,S,bO,λp H1 W aa R=>⟨bO,λl q o j n=>?_⟩⟩;have h:=W.trans o;have iL:Is q (.lst (mz (.rai b m))) (.ref l):=⟨l,_,J,n,IsL.one ⟨p,_,J,o _ _ R,IsL.two J J⟩⟩
   refine⟨t,J,⟨[],aI.of (h _ _ c)⟩,?_⟩;refine kf (λi a g=>q=g/\a=[some (V.ref x),some (.ref u),some (.ref t),some (.ref l),none,none]) ⟨J,J⟩ (λi a g _ ⟨e,_⟩=>by rw[<-e];exact aI.of (h _ _ c)) (λi y a g G _=>by cases G) ?_;rintro a g ⟨rfl,rfl⟩;exact(k l q h (y7 W j) iL)| _=>refine yi ⟨bj _,λl q o j n=>?_⟩;refine⟨t,J,⟨[],aI.of (o _ _ c)⟩,?_⟩;refine kf (λi a g=>q=g/\a=[some (V.ref x),some (.ref u),some (.ref t),some (.ref l),none,none]) ⟨J,J⟩ (λi a g _ ⟨e,_⟩=>by rw[<-e];exact aI.of (o _ _ c)) (λi y a g G _=>by cases G) ?_;rintro a g ⟨rfl,rfl⟩;exact(k l q o j ⟨l,_,J,n,J⟩)
end
noncomputable def BZ:List Str:=["self","hand","role","place","deed","wall"]
theorem rT:aA BZ ["self","hand"] (ze mK):=.of
noncomputable def Qc(U:aB)(B:List (List Nat×Nat))(h:List Nat):List (List Nat×Nat):=v4 B h (yb B h+1)
inductive jI(cU cP cR:Addr)(vs:List V)(H:Hp)(Q:VK)(e0:XK):Prop|mk:∀(H0:Hp)(x ad as:Addr)(hs:aB)(L:RL)(done:List (List Nat×Nat))(sums:List Int)(h:List Nat)(vh:V)(d:aH),vs=[.ref x,vh]->bF H0 H cU cP cR hs L x ad as done sums->h∈zi (plan hs)->h∈zi done->dO hs->sums.length=hs.b.toNat->Is H (tI (hZ h)) vh->((mM hs).scr h)[yb done h]?=some d->(zi done).Nodup->done.length<=999->(∀l H',Bt [ad,as] H H'->H l=none->Va H' ad as (Qc hs done h) (aN sums (cX d))->Is H' (.lst (mz d)) (.ref l)->Q (.ref l) H')->jI cU cP cR vs H Q e0
theorem Cw{d:aH}(h:f9 d):decide (V.str (dw d)=V.str "come")=false/\decide (V.str (dw d)=V.str "leave")=false/\qP (.str (dw d)) [.str "come",.str "leave"]=false:=by cases d<;>first|exact⟨J,J,J⟩|exact h.elim
section
variable{K:W.Frag}
theorem Va.tups{H f:Hp}{ad as:Y}{d:O (O Nat×Nat)}{c:O Int}(m:Va H ad as d c)(b:Bt [ad,as] H f):yw H f:=b.tups λa g h e=>by rcases az.mp g with z|z;rw[z,m.1]at e;cases e;rw[ai.mp z,m.2]at e;cases e
theorem Eu(T:Txt K mg)(CU:aG K cU bV)(CR:aG K cR aR)(oC:bR P w K mg base cU "changed" 1 ["self","deed","walls"] jK){f:Y}{cdv:I}{outer:O Env}{Q:VK}{E:XK}(hr:aQ 1 (A.deeper (envOfC "Run.do" (ze mK) s.heap.objs.size f cdv))) {dx v c ab an ac a5:Y} {vc vs vl:V} {v1:V} {ds:yx} {d:aH} (hx:H0 x=some (.ins cU dx (eZ xp ad as am al))) (C:H0 v=some (.ins cR c (kO vc vs vl ab an ac))) (r2:Is H0 (eS ds) vs) (F:H0 ac=some (.dT [])) (W:f9 d):
  ∃ tt,eE (iK fJ P w K mg base BZ "Run.do" (ze mK) f cdv A outer s H E).nox ((wy mK).drop 6) tt/\∀H',zg H0 H'->Is H' (eD d) (.ref a5)->(∀l u,zg H' u->H' l=none->Is u (.lst (mz d)) (.ref l)->Q (.ref l) u)->
    tt (.of Q) [some (.ref x),some v1,some (.ref v),some (.int (p:Int)),some (.ref a5),none] H':=by
 have nd:=rT.nd;refine⟨_,zb (yg (zo xz (zt zp (pv 4) zh) zy (zx _)) yy zn) (zb (yg (zo xz (zt zp (pv 4) zh) zy (zx _)) yy zn) (zb (yg (zo xz (yk wr (pv 3) zh) (yd yp (by rfl) T.len qd (za (zu (pv 2) J) zc)) (zx _)) (zb (sQ (wa PassesOwn.never J (Vw (zu (pv 2) J)) (zk (i:=5) nd) yy)) (zf (zj (qc oC CU.cls hr (pv 0) (za (pv 4) (za (w9 (Bv J) (by rfl) T.list Qh (za (zu (pv 2) J) zc)) zc)))))) zn)
  (zf (zj (qc oC CU.cls hr (pv 0) (za (pv 4) (za (Yi (zo X2 (zt zp (pv 4) zh) (jx (za zy (za zy zc))) J) Xg (vk zc)) zc))))))),?_⟩
 intro H' a M k;obtain⟨e1,e2,e3⟩:=Cw W;obtain⟨r,U⟩:=Zy d;obtain⟨a6,g,u5,e6,h,t,S⟩:=Is.at (i:=0) (U▸M) J;cases e6;cases(S);refine⟨a5,g,_,_,J,J,h,t,J,_,J,?_⟩;rw[e1];refine yi ⟨a5,g,_,_,J,J,h,t,J,_,J,?_⟩;rw[e2];refine yi ?_;obtain⟨aS,xS,rfl,aa,ah⟩:=r2.mono a;refine⟨_,_,J,J,v,cR,c,_,_,J,a _ _ C,CR.cls,CR.n,qi,aS,xS,J,.inr (aE.of aa),J,_,J,?_⟩;refine ki (λ_=>?_) (λ_=>?_);refine⟨ac,_,a _ _ F,trivial,λo=>?_⟩;have Z:upd H' ac (.frz o (.dT [])) ac=some (.frz o (.dT [])):=zd;refine⟨v,cR,c,_,_,J,(by rw[upd_ne (λz=>by rw[z,F]at C;cases C)];exact a _ _ C),CR.cls,CR.n,tM,ac,o,[],J,Z,?_⟩;refine Hs (λi D G=>upd H' ac (.frz o (.dT []))=G/\D=[some (.ref x),some v1,some (.ref v),some (.int p),some (.ref a5),none]) ⟨J,J⟩ (λi D G _ ⟨e,_⟩=>by rw[<-e];exact Z) (λi y D G b hy _=>by cases hy) ?_;rintro D G ⟨rfl,rfl⟩;refine⟨Z,?_⟩;rw[yB (a _ _ F)];refine⟨x,dx,_,J,a _ _ hx,J,v,cR,c,_,_,J,a _ _ C,CR.cls,CR.n,tM,ac,[],J,⟨[],a _ _ F,J⟩,λys q H2 B X m R=>?_⟩;cases(R);exact⟨x,q,.ref a5,d,J,M.mono B,m,λl H3 L n N=>k l H3 (B.trans L) (y7 B n) N⟩;refine⟨x,dx,_,J,a _ _ hx,J,a5,g,_,_,J,J,h,t,(by decide),λq hq=>⟨q,_,J,.inr (aE.of zd),J,J,_,J,?_⟩⟩;rw[e3];have s1:=zg.new hq (.tup [.str "come",.str "leave"]);refine yi ⟨bj _,λq2 H2 B X m=>?_⟩;have j:=s1.trans B;exact⟨x,q2,.ref a5,d,J,M.mono j,m,λl H3 L n N=>k l H3 (j.trans L) (y7 j n) N⟩
theorem CV(D:q8 K cU "do" "Run.do" mK)(T:Txt K mg)(n:aG K cU bV)(CP:aG K cP aZ)(CR:aG K cR aR)(oC:bR P w K mg base cU "changed" 1 ["self","deed","walls"] jK):bR P w K mg base cU "do" 2 ["self","hand"] (jI cU cP cR):=by
 refine Zf (k:=1) D rT ?_;rintro f bJ A r s H vs Q E hr ⟨H0,x,ad,as,hs,L,a,c,h,vh,d,rfl,R,hh,hk,W,bM,a3,hd,a2,b0,k⟩ X;have hu:=jk hr;have nd:=rT.nd;obtain⟨xp,dx,am,al,PA,N,_,_,bL,bK⟩:=id R.f;obtain⟨dp,vv,ar,rl,hp,bx,S,bI,vc,vs,ab,an,ac,r1,r2,r4,r5,r6,_⟩:=PA.role hh;obtain⟨bh,rfl,v⟩:=ke a3;obtain⟨sc,U,aa⟩:=X7 hd;have g:f9 d:=W.nw.deeds sc U d aa;obtain⟨aS,xS,rfl,bB,bk⟩:=id r2;obtain⟨v5,e5,i5⟩:=bk.get (i:=yb a h) (t:=eD d) (by rw[aj,hd];rfl);obtain⟨rr,Z⟩:=Zy d;obtain⟨p,x5,rfl,b4,bN⟩:=(Z▸i5:Is H0 (.tup (.str (dw d)::rr)) v5)
 obtain⟨tt,bg,kt⟩:=Eu (P:=P) (w:=w) (mg:=mg) (base:=base) (f:=f) (cdv:=bJ) (A:=A) (outer:=r) (s:=s) (H:=H) (Q:=Q) (E:=E) T n CR oC hr (v1:=.ref bh) (p:=yb a h) (a5:=p) (d:=d) N r1 r2 r6 g;refine⟨_,zb (zr (i:=2) nd (wo hu (zu (zu (pv 0) J) J) (pv 1))) (zb (zr (i:=3) nd (wo hu (zu (pv 0) J) (pv 1))) (zb (zr (i:=4) nd (zt zp (zu (pv 2) J) (pv 3))) (zb (Yw hu (zu (pv 0) J) (pv 1) (yk wr (pv 3) zh) J) (zb (yg (zo xz (zt zp (pv 4) zh) zy (zx _)) (zf (Fu (zu (pv 0) J) (zt zp (pv 4) zh) FL (zt zp (pv 4) zh) wY AK)) zn) (zb (yg (zo xz (zt zp (pv 4) zh) zy (zx _)) yy zn) bg))))),?_⟩
 refine⟨x,cU,dx,_,_,J,R.s _ _ N,n.cls,n.n,Vg,xp,cP,dp,_,_,J,R.s _ _ hp,CP.cls,CP.n,vj,ar,_,J,S▸DGet.t (R.s _ _ bx) v,?_⟩;refine⟨x,cU,dx,_,_,J,R.s _ _ N,n.cls,n.n,jq,ad,_,J,Yc hk▸DGet.t R.m.1 v,?_⟩;refine⟨rl,cR,bI,_,_,J,R.s _ _ r1,CR.cls,CR.n,qi,aS,xS,_,_,J,J,aE.of (R.s _ _ bB),xt e5,?_⟩;refine⟨_,_,J,J,x,cU,dx,_,_,J,R.s _ _ N,n.cls,n.n,jq,ad,_,J,Jc.t R.m.1 v (by unfold yt;rw[ae];exact wc (by omega)),?_⟩;have ep:vi (yt a) (kI (hZ h)) ((λi j=>V.int (i+j)) (yb a h:Int) 1)=yt (v4 a h (yb a h+1)):=Av (n:=yb a h+1) a2;rw[ep];have M:as≠ad:=λz=>by have q:=R.m.2;rw[z,R.m.1]at q;cases q
 have b1:Bt [ad,as] H (upd H ad (.dT (yt (v4 a h (yb a h+1))))):=Bt.upd (by simp);have B:Va (upd H ad (.dT (yt (v4 a h (yb a h+1))))) ad as (v4 a h (yb a h+1)) c:=⟨zd,by rw[upd_ne M];exact R.m.2⟩
 generalize upd H ad (.dT (yt (v4 a h (yb a h+1))))=H1 at b1 B⊢;have R1:=R.bt b1 B;have u:Is H1 (eD d) (.ref p):=i5.mono R1.s;have t:∀{G:Hp}{l:Addr},Bt [ad,as] H G->G ad≠none->G as≠none->G l=none->H l=none:=λ{G l} b h1 h2 e=>by cases z:H l with|none=>rfl| some o=>by_cases hm:l∈[ad,as];rcases az.mp hm with y|y;rw[y]at e;exact absurd e h1;rw[ai.mp y]at e;exact absurd e h2;rw[b l o hm z]at e;cases e
 obtain⟨a6,C,u5,e6,F,ap,bd⟩:=Is.at (K:=K) (i:=0) (t:=.str (dw d)) (Z▸u) J;cases e6;cases(show u5=.str (dw d)from bd);have fin:∀{G:Hp}{dn:List (List Nat×Nat)}{sm:List Int},Bt [ad,as] H G->Va G ad as dn sm->dn=Qc hs a h->sm=aN c (cX d)->tt (.of Q) [some (.ref x),some (.ref bh),some (.ref rl),some (.int (yb a h:Int)),some (.ref p),none] G:=λ{G dn sm} b m e1 e2=>by have RG:=R.bt b m;refine kt G RG.s (i5.mono RG.s) λl G2 s2 bi i2=>k l G2 (b.trans s2.bt) (t b (by rw[m.1];exact λz=>by cases z) (by rw[m.2];exact λz=>by cases z) bi) ?_ i2;rw[<-e1,<-e2];exact⟨s2 _ _ m.1,s2 _ _ m.2⟩
 refine⟨p,C,_,_,J,J,F,ap,J,_,J,?_⟩;cases d with| rai b m=>
   refine ww ?_;obtain⟨ah,b3⟩:=W.box sc U _ aa b m (.inl J);obtain⟨a6,aw,u6,e6,a1,bE,bc⟩:=Is.at (K:=K) (i:=1) (t:=.int b) u J;cases e6;cases(show u6=.int b from bc);obtain⟨a7,av,u7,e7,aK,bD,bb⟩:=Is.at (K:=K) (i:=2) (t:=.int m) u J;cases e7;cases(show u7=.int m from bb);have bw:b.toNat<c.length:=by omega
   have eg:(c.map V.int)[b.toNat]?=some (.int (c.getD b.toNat 0)):=by rw[aj,c8,bo bw];rfl
   have bl:jN (c.map V.int).length b=some b.toNat:=by unfold jN;rw[if_pos ah,if_pos (by rw[ae];omega)]
   refine⟨x,cU,dx,_,_,J,R1.s _ _ N,n.cls,n.n,zX,p,aw,_,_,J,J,a1,bE,as,_,b,_,J,J,ah,aI.of B.2,eg,p,av,_,_,J,J,aK,bD,_,_,J,J,as,_,b,b.toNat,J,J,B.2,bl,?_⟩;have es:(c.map V.int).set b.toNat (.int (c.getD b.toNat 0+m))=(aN c (cX (.rai b m))).map V.int:=by show _=(c.set b.toNat (c.getD b.toNat 0+m)).map V.int;rw[List.map_set]
   rw[es];have b2:Bt [ad,as] H (upd H1 as (.lst ((aN c (cX (.rai b m))).map V.int))):=b1.trans (Bt.upd (by simp));have m2:Va (upd H1 as (.lst ((aN c (cX (.rai b m))).map V.int))) ad as (v4 a h (yb a h+1)) (aN c (cX (.rai b m))):=⟨by rw[upd_ne (ak M)];exact B.1,zd⟩
   generalize upd H1 as (.lst ((aN c (cX (.rai b m))).map V.int))=H2 at b2 m2⊢;have R2:=R.bt b2 m2;obtain⟨a8,aq,u8,e8,ay,bC,ba⟩:=Is.at (K:=K) (i:=0) (t:=.str "raise") (i5.mono R2.s) J;cases e8;cases(show u8=.str "raise" from ba);exact⟨p,aq,_,_,J,J,ay,bC,J,_,J,yi (fin b2 m2 J J)⟩|beg j ms=>exact g.elim|com w=>exact g.elim|goo w=>exact g.elim|lea w=>exact g.elim|_=>exact yi ⟨p,C,_,_,J,J,F,ap,J,_,J,yi (fin b1 B J J)⟩
end
noncomputable def iE(U:aB)(B:List (List Nat×Nat))(h:List Nat):Bool:=decide (h∈zi B) && decide (yb B h=((mM U).scr h).length)
noncomputable def Y2(U:aB)(B:List (List Nat×Nat)):Bool:=(zi (plan U)).all (iE U B)
inductive jG(cU:Addr)(vs:List V)(H:Hp)(Q:VK)(e0:XK):Prop|mk:∀(x dx xp ad as am al:Addr)(done:List (List Nat×Nat))(h:List Nat)(p:Nat)(vn:V),vs=[.ref x,vn]->H x=some (.ins cU dx (eZ xp ad as am al))->H ad=some (.dT (yt done))->Is H (.tup [tI (hZ h),.int (p:Int)]) vn->Q (.bl (decide (p<yb done h))) H->jG cU vs H Q e0
inductive jH(cU cP cR:Addr)(vs:List V)(H:Hp)(Q:VK)(e0:XK):Prop|mk:∀(H0:Hp)(x ad as:Addr)(hs:aB)(L:RL)(done:List (List Nat×Nat))(sums:List Int),vs=[.ref x]->bF H0 H cU cP cR hs L x ad as done sums->dO hs->(∀H',zg H H'->Q (.bl (Y2 hs done)) H')->jH cU cP cR vs H Q e0
theorem V9{a:O (O Nat×Nat)}{b:Y}(d:H ad=some (.dT (yt a)))(e:H b=some (.tup ((kI (hZ h)).map kV))):DGet H ad (.ref b) (if h∈zi a then some (.int (yb a h:Int))else none):=by have q:=DGet.t d e;by_cases c:h∈zi a;rw[if_pos c,<-Yc c];exact q;rw[if_neg c,<-LN c];exact q
section
variable{K:W.Frag}
theorem KF:aA ["self","name"] ["self","name"] (ze Qs):=.of
theorem JP(D:q8 K cU "has_done" "Run.has_done" Qs)(q:aG K cU bV):bR P w K mg base cU "has_done" 1 ["self","name"] (jG cU):=by
 refine Zf D KF ?_;rintro f B A g s H F Q E y ⟨x,z,C,ad,as,U,W,a,h,p,G,rfl,u,b,t,k⟩ X;have v:=jk y;refine⟨_,zf (zj (qg rO (V1 v (zu (pv 0) J) (zt zp (pv 1) zh) zh ⟨J,J,J,J⟩) (zt zp (pv 1) zh) (zx _))),?_⟩;obtain⟨o,r,rfl,d,m⟩:=t;obtain⟨M,N,rfl,j,L,R,rfl,i,l⟩:=m;cases(l);cases(i);obtain⟨S,rfl,n⟩:=ke j;refine⟨x,cU,z,_,_,J,u,q.cls,q.n,jq,ad,J,.inr ⟨_,.inl b⟩,o,_,_,_,J,J,aE.of d,J,_,V9 b n,?_⟩;have e:((if h∈zi a then some (V.int (yb a h))else none).getD (.int 0))=.int (yb a h):=by by_cases c:h∈zi a;rw[if_pos c];rfl;rw[if_neg c,X9 c];rfl
 rw[e];refine⟨o,_,_,_,J,J,aE.of d,J,_,_,J,J,?_⟩;simpa[Ends.of]using k
theorem By:aA ["self","roles"] ["self"] (ze Vq):=.of
theorem Iy(D:q8 K cU "has_done_all" "Run.has_done_all" Vq)(T:Txt K mg)(CU:aG K cU bV)(CP:aG K cP aZ)(CR:aG K cR aR):bR P w K mg base cU "has_done_all" 1 ["self"] (jH cU cP cR):=by
 refine Zf (k:=0) D By ?_;rintro f a6 A ah s H vs Q E hr ⟨H0,x,ad,as,d,L,a,a3,rfl,R,W,k⟩ X;have hu:=jk hr;have nd:=By.nd;refine⟨_,zb (zr (i:=1) nd (zu (zu (pv 0) J) J)) (zf (zj (Q1 (yd (je J) J T.all Z0 (za (qj (own:=["hand","role"]) (cap:=[0]) (g:=fe K 2 (bY (km 0) (bY (km 1) mJ))) J (yv (ze Vq) J J (by decide+kernel) (by decide+kernel) (by decide+kernel) ⟨⟨_,J,.inl J,vm J⟩,trivial⟩) (Yh (pv 1)) (λ_ _ _ _=>jw J (yn (zk (i:=0) (by show(["hand","role","self"]:O Str).Nodup;decide+kernel)) (yn (zk (i:=1) (by show(["hand","role","self"]:O Str).Nodup;decide+kernel)) ql)))
   (λ_ _ _ _=>wb) (λ_ _ _ _=>qg xz (ta:=xY (ln K (Jq 2) "done") (Jq 0)) (tb:=qK (λxs H Q=>∃p t,xs=[.ref p]/\(aI K H p t\/aE K H p t)/\Q (.int t.length) H) (Kk (ln K (Jq 1) "script") lr)) (At hu (zu (pv 2) J) (pv 0) ⟨J,J,J,J⟩) (yd yp (by rfl) T.len qd (za (zu (pv 1) J) zc)) (zx _))) zc))))),?_⟩
 obtain⟨xp,dx,am,al,PA,hx,_,_,N,_⟩:=id R.f;obtain⟨dp,vh,n,hp,ih,r,B,aq⟩:=id PA;refine⟨x,cU,dx,_,_,J,R.s _ _ hx,CU.cls,CU.n,Vg,xp,cP,dp,_,_,J,R.s _ _ hp,CP.cls,CP.n,vj,?_⟩;have m:=R.s _ _ r;refine⟨n,_,m,trivial,λo=>?_⟩;have g:upd H n (.frz o (.dT (yj L))) n=some (.frz o (.dT (yj L))):=zd;have F:∀{b:Y}{u:HO},b≠n->H b=some u->upd H n (.frz o (.dT (yj L))) b=some u:=λ{b u} z e=>by rw[upd_ne z];exact e
 have Yo:∀{G:Hp},zg (upd H n (.frz o (.dT (yj L)))) G->zg H (upd G n (.dT (yj L))):=λ{G} s b u e=>by by_cases z:b=n;rw[z]at e⊢;rw[zd,<-e,m];rw[upd_ne z];exact s _ _ (F z e)
 generalize upd H n (.frz o (.dT (yj L)))=Hf at g F Yo⊢;have ap:=F (λz=>by rw[z,r]at hx;cases hx) (R.s _ _ hx);have v:=F (λz=>by rw[z,r]at N;cases N) R.m.1;have a5:L.length<=1000:=by have q:=W.few;have e:=congrArg List.length B;rw[ae]at e;rw[e];exact q
 refine⟨n,o,_,J,g,?_⟩;refine uo (λi t M=>zg Hf M/\t=(y8 (L.take i)).map λh=>V.bl (iE d a h)) ⟨zg.refl _,J⟩ (λi t M hi ⟨y,e⟩=>⟨y _ _ g,?_⟩) ?_ ?_;rw[e,ae];unfold y8;rw[ae,cx];exact Nat.le_of_lt (wc (by omega));rintro i kv t M j ⟨y,rfl⟩ p b ay hb;obtain⟨q,hq,rfl⟩:∃q,L[i]?=some q/\(kI (hZ q.1.1),V.ref q.2)=kv:=by unfold yj at j;rw[aj]at j;cases e:L[i]? with|none=>rw[e]at j;cases j|some z=>rw[e]at j;exact⟨z,J,Option.some.inj j⟩
 have S:q∈L:=br hq;obtain⟨a2,vc,vs,ab,an,ac,r1,r2,_⟩:=aq q S;have av:=y _ _ (F (λz=>by rw[z,r]at r1;cases r1) (R.s _ _ r1));have sp:=zg.new ay (.tup [.ref b,.ref q.2]);have U:upd M p (.tup [.ref b,.ref q.2]) p=some (.tup [.ref b,.ref q.2]):=zd;have Z:=sp _ _ hb;generalize upd M p (.tup [.ref b,.ref q.2])=H3 at sp U Z⊢;have C:=y.trans sp;have tf:yw H Hf:=λc zs e=>F (λz=>by rw[z,m]at e;cases e) e;obtain⟨aS,xS,rfl,a1,aK⟩:=((r2.mono R.s).tups tf (Xp _)).mono C;have aa:=aK.length;rw[ae]at aa;have aw:q.1∈plan d:=by rw[<-B];exact List.mem_map_of_mem S
 have ek:y8 (L.take (i+1))=y8 (L.take i)++[q.1.1]:=by unfold y8;rw[cu,hq,be];rfl
 rw[ek,be];refine⟨p,_,J,aE.of U,J,_,_,J,_,_,J,J,?_⟩;refine BV ?_;refine⟨x,cU,dx,_,_,J,C _ _ ap,CU.cls,CU.n,jq,ad,J,.inr ⟨_,.inl (C _ _ v)⟩,_,V9 (C _ _ v) Z,q.2,cR,a2,_,_,J,sp _ _ av,CR.cls,CR.n,qi,aS,xS,J,.inr (aE.of a1),?_⟩;have el:xS.length=((mM d).scr q.1.1).length:=by rw[aa,Kp aw]
 rw[el];by_cases c:q.1.1∈zi a;rw[if_pos c];refine⟨J,C,?_⟩;have e2:decide (V.int (yb a q.1.1:Int)=V.int (((mM d).scr q.1.1).length:Int))=iE d a q.1.1:=by unfold iE;rw[bn c,Bool.true_and,Bool.eq_iff_iff];simp only[decide_eq_true_eq,V.int.injEq];omega
 show _++[V.bl (decide (V.int (yb a q.1.1:Int)=V.int (((mM d).scr q.1.1).length:Int)))]=_;rw[e2];rfl;rw[if_neg c];refine⟨J,C,?_⟩;have e2:iE d a q.1.1=false:=by unfold iE;rw[c6 c,Bool.false_and]
 show _=_++[V.bl (iE d a q.1.1)];rw[e2];rfl;rintro t M ⟨y,rfl⟩ l hl;have e0:(yj L).length=L.length:=by unfold yj;exact ae ..
 rw[e0,cw,kx B];have sl:=zg.new hl (.lst ((zi (plan d)).map λh=>V.bl (iE d a h)));refine⟨l,(zi (plan d)).map (iE d a),J,aI.of (by rw[zd,bp];rfl),sl _ _ (y _ _ g),?_⟩;have e:((zi (plan d)).map (iE d a)).all id=Y2 d a:=by rw[List.all_map];rfl
 rw[e];exact k _ (Yo (y.trans sl))
end
noncomputable def ul:Stmt:=bA 54
noncomputable abbrev Yp:Stmt:=(wf ul).getD 0 dF
noncomputable abbrev sY:Stmt:=(wf ul).getD 1 dF
noncomputable abbrev tX:Stmt:=(wf ul).getD 2 dF
noncomputable def cD:List Str:=["run","held","woven","ready","waiting","stopped"]
structure WA where
 x:Addr
 xr:Addr
 ad:Addr
 as:Addr
 ah:Addr
 ao:Addr
 ay:Addr
 aw:Addr
 ap:Addr
noncomputable def lA(a:WA):List (Str×V):=[(("run":Str),.ref a.xr),("held",.ref a.ah),("woven",.ref a.ao),("ready",.ref a.ay),("waiting",.ref a.aw),("stopped",.ref a.ap)]
theorem Qk{a:WA}:(lA a).lookup ("run":Str)=some (.ref a.xr):=rfl
theorem Fr{a:WA}:(lA a).lookup ("held":Str)=some (.ref a.ah):=rfl
theorem AW{a:WA}:(lA a).lookup ("woven":Str)=some (.ref a.ao):=rfl
theorem Vd{a:WA}:(lA a).lookup ("ready":Str)=some (.ref a.ay):=rfl
theorem Kg{a:WA}:(lA a).lookup ("waiting":Str)=some (.ref a.aw):=rfl
theorem KA{a:WA}:(lA a).lookup ("stopped":Str)=some (.ref a.ap):=rfl
noncomputable def hT(h:List Nat):L2.T:=tI (hZ h)
inductive bT(H:Hp)(a:Addr)(hs:List (List Nat)):Prop|mk:∀vs,H a=some (.lst vs)->IsL H (hs.map hT) vs->bT H a hs
theorem X4(b:O (O Nat)):qt (b.map hT):=by rw[qt.all];intro t a;obtain⟨d,_,rfl⟩:=bz.mp a;exact vp _
theorem bT.keep{b:O (O Nat)}(x:bT H a b)(e:H' a=H a)(t:yw H H'):bT H' a b:=by obtain⟨c,f,d⟩:=x;exact⟨c,e.trans f,d.tups t (X4 b)⟩
theorem bT.same{b:O (O Nat)}(x:bT H a b)(s:zg H H'):bT H' a b:=by obtain⟨c,e,d⟩:=x;exact⟨c,s _ _ e,d.mono s⟩
abbrev iX:=List ((Nat×List (List Nat))×Addr)
noncomputable def kA(b:Nat):Str×Int:=(("await":Str),(b:Int))
theorem xA{a b:Nat}(h:kA a=kA b):a=b:=Int.ofNat.inj (congrArg Prod.snd h)
noncomputable def jj(W:iX):List ((Str×Int)×V):=W.map λq=>(kA q.1.1,.ref q.2)
def uN(P:Program)(w:World)(B:Hp)(Z cU cP cR:Addr)(U:aB)(L:RL)(a:WA)(held:List ((List Int×Int)×V)):Prop:=dA B cU cP cR U L a.xr a.ad a.as/\(∃dx,B a.x=some (.ins Z dx (lA a)))/\bP cN P w B a.ah held/\B a.ao=none/\B a.ay=none/\B a.aw=none/\B a.ap=none
structure bW(P:Program)(w:World)(H0 H:Hp)(a:WA)(s:WS (List Nat))(W:iX):Prop where
 run:Va H a.ad a.as s.done s.sums
 rdy:bT H a.ay s.ready
 wov:bT H a.ao s.wov
 stp:bT H a.ap s.stop
 wai:bP mV P w H a.aw (jj W)
 wl:W.map (·.1)=s.wait
 lst:∀q∈W,bT H q.2 q.1.2/\H0 q.2=none
 nd:(a.as::a.ay::a.ao::a.ap::W.map (·.2)).Nodup
 kd:(W.map (·.1.1)).Nodup
 s0:zg H0 H
noncomputable def newW(B:List (List Nat×Nat))(U:List Int):WS (List Nat):={done:=B,sums:=U,ready:=zi B,wait:=[],stop:=[],wov:=[]}
inductive lD(P:Program)(w:World)(cW cU cP cR:Addr)(vs:List V)(H:Hp)(Q:VK)(e0:XK):Prop|mk:∀(G:Hp)(x dx xr ad as ah:Addr)(hs:aB)(L:RL)(done:List (List Nat×Nat))(sums:List Int)(held:List ((List Int×Int)×V)),vs=[.ref x,.ref xr,.ref ah]->H x=some (.ins cW dx [])->zg G H->G x=none->dA G cU cP cR hs L xr ad as->Va H ad as done sums->bP cN P w G ah held->done.length<=1000->(∀ao ay aw ap H0 H',zg G H0->uN P w H0 cW cU cP cR hs L ⟨x,xr,ad,as,ah,ao,ay,aw,ap⟩ held->bW P w H0 H' ⟨x,xr,ad,as,ah,ao,ay,aw,ap⟩ (newW done sums) []->Q .non H')->lD P w cW cU cP cR vs H Q e0
section
variable{K:W.Frag}{cW:Addr}
theorem LK:aA ["self","run","held"] ["self","run","held"] (ze Yp):=.of
theorem LI(D:le K mg "Weaver" "Weaver.__init__" cW Yp)(T:Txt K mg)(v:aG K cW cD)(CU:aG K cU bV):fT P w K mg base "Weaver" cW 1 ["self","run","held"] (lD P w cW cU cP cR):=by
 refine pX (k:=0) D LK ?_;rintro f b2 A ba s H vs Q E hr ⟨G,x,g,c,ad,as,i,hs,L,F,bk,bl,rfl,hx,sG,Gx,RF,M,GH,b1,k⟩ X;refine⟨_,zb (qb (pv 0) (pv 1) rfl) (zb (qb (pv 0) (pv 2) rfl) (zb (qb (pv 0) (vk zc) rfl) (zb (qb (pv 0) (w9 (Bv rfl) rfl T.list Qh (za (zu (pv 1) rfl) zc)) rfl) (zb (qb (pv 0) (Vy (τ:=mV)) rfl) (zf (qb (pv 0) (vk zc) rfl)))))),?_⟩
 obtain⟨xp,a8,am,al,PA,a6,bh,bi,b0,bx⟩:=id RF;have bw:as≠ad:=λz=>by have q:=M.2;rw[z,M.1]at q;cases q
 have aa:∀{b:Y}{u:HO},H b=some u->(∀d fs,u≠ .ins cW d fs)->b≠x:=λ{b u} e z y=>by rw[y,hx]at e;exact z _ _ (Option.some.inj e).symm
 have U:ad≠x:=aa M.1 (λ_ _ z=>by cases z);have C:as≠x:=aa M.2 (λ_ _ z=>by cases z);have gA:H x=some (.ins cW g []):=hx;refine⟨x,cW,g,_,rfl,gA,v.cls,v.n,bO,?_⟩;rw[show qr "run" (.ref c) []=[(("run":Str),V.ref c)] by rfl];have gB:upd H x (.ins cW g [(("run":Str),V.ref c)]) x=_:=zd;have bB:Bt [x] H (upd H x (.ins cW g [(("run":Str),V.ref c)])):=Bt.upd (by simp);generalize upd H x (.ins cW g [(("run":Str),V.ref c)])=HB at gB bB⊢;refine⟨x,cW,g,_,rfl,gB,v.cls,v.n,bO,?_⟩;rw[show qr "held" (.ref i) [(("run":Str),V.ref c)]=[(("run":Str),V.ref c),("held",.ref i)] by rw[xa (by decide)];rfl];have gC:upd HB x (.ins cW g [(("run":Str),V.ref c),("held",.ref i)]) x=_:=zd;have bC:Bt [x] H (upd HB x (.ins cW g [(("run":Str),V.ref c),("held",.ref i)])):=bB.trans (Bt.upd (by simp));generalize upd HB x (.ins cW g [(("run":Str),V.ref c),("held",.ref i)])=HC at gC bC⊢;refine⟨bj _,λa HD sD p bg=>?_⟩;have B:a≠x:=λz=>by rw[z,gC]at p;cases p
 have gD:=sD _ _ gC;have bD:=bC.trans (M:=[x]) sD.bt;refine⟨x,cW,g,_,rfl,gD,v.cls,v.n,bO,?_⟩;rw[show qr "woven" (.ref a) [(("run":Str),V.ref c),("held",.ref i)]=[(("run":Str),V.ref c),("held",.ref i),("woven",.ref a)] by rw[xa (by decide),xa (by decide)];rfl];have gE:upd HD x (.ins cW g [(("run":Str),V.ref c),("held",.ref i),("woven",.ref a)]) x=_:=zd;have bE:Bt [x] H (upd HD x (.ins cW g [(("run":Str),V.ref c),("held",.ref i),("woven",.ref a)])):=bD.trans (Bt.upd (by simp));have oE:upd HD x (.ins cW g [(("run":Str),V.ref c),("held",.ref i),("woven",.ref a)]) a=_:=(upd_ne B).trans bg;generalize upd HD x (.ins cW g [(("run":Str),V.ref c),("held",.ref i),("woven",.ref a)])=HE at gE bE oE⊢;have sx:∀{J:Hp},Bt [x] H J->zg G J:=λ{J} b=>b.same sG λm r=>by rw[ai.mp r];exact Gx
 have dE:=bE _ _ (λr=>U (ai.mp r)) M.1;refine⟨c,cU,a8,_,_,rfl,sx bE _ _ a6,CU.cls,CU.n,jq,ad,(zi F).map hZ,rfl,⟨_,dE,by unfold yt zi;rw[bp,bp,bp];rfl⟩,λys h R sI l bc a5=>?_⟩;have N:h≠x:=λz=>by rw[z,gE]at l;cases l
 have a2:h≠a:=λz=>by rw[z,oE]at l;cases l
 have av:h≠as:=λz=>by rw[z,bE _ _ (λr=>C (ai.mp r)) M.2]at l;cases l
 have gI:=sI _ _ gE;have bI:=bE.trans (M:=[x]) sI.bt;have lI:bT R h (zi F):=⟨ys,bc,by rw[bp]at a5;exact a5⟩
 refine⟨x,cW,g,_,rfl,gI,v.cls,v.n,bO,?_⟩;rw[show qr "ready" (.ref h) [(("run":Str),V.ref c),("held",.ref i),("woven",.ref a)]=[(("run":Str),V.ref c),("held",.ref i),("woven",.ref a),("ready",.ref h)] by rw[xa (by decide),xa (by decide),xa (by decide)];rfl];have gJ:upd R x (.ins cW g [(("run":Str),V.ref c),("held",.ref i),("woven",.ref a),("ready",.ref h)]) x=_:=zd;have bJ:Bt [x] H (upd R x (.ins cW g [(("run":Str),V.ref c),("held",.ref i),("woven",.ref a),("ready",.ref h)])):=bI.trans (Bt.upd (by simp));have oJ:upd R x (.ins cW g [(("run":Str),V.ref c),("held",.ref i),("woven",.ref a),("ready",.ref h)]) a=_:=(upd_ne B).trans (sI _ _ oE);have tJ:yw R (upd R x (.ins cW g [(("run":Str),V.ref c),("held",.ref i),("woven",.ref a),("ready",.ref h)])):=yw.upd gI (λ_ z=>by cases z);have lJ:bT (upd R x (.ins cW g [(("run":Str),V.ref c),("held",.ref i),("woven",.ref a),("ready",.ref h)])) h (zi F):=lI.keep (upd_ne N) tJ;generalize upd R x (.ins cW g [(("run":Str),V.ref c),("held",.ref i),("woven",.ref a),("ready",.ref h)])=HJ at gJ bJ oJ lJ⊢;intro n ow t a7;have sK:=zg.new t ow;have S:n≠x:=λz=>by rw[z,gJ]at t;cases t
 have gK:=sK _ _ gJ;have bK:=bJ.trans (M:=[x]) sK.bt;have oK:=sK _ _ oJ;have lK:=lJ.same sK;generalize upd HJ n ow=HK at sK a7 gK bK oK lK⊢;refine⟨x,cW,g,_,rfl,gK,v.cls,v.n,bO,?_⟩;rw[show qr "waiting" (.ref n) [(("run":Str),V.ref c),("held",.ref i),("woven",.ref a),("ready",.ref h)]=[(("run":Str),V.ref c),("held",.ref i),("woven",.ref a),("ready",.ref h),("waiting",.ref n)] by rw[xa (by decide),xa (by decide),xa (by decide),xa (by decide)];rfl];have gL:upd HK x (.ins cW g [(("run":Str),V.ref c),("held",.ref i),("woven",.ref a),("ready",.ref h),("waiting",.ref n)]) x=_:=zd;have bL:Bt [x] H (upd HK x (.ins cW g [(("run":Str),V.ref c),("held",.ref i),("woven",.ref a),("ready",.ref h),("waiting",.ref n)])):=bK.trans (Bt.upd (by simp));have oL:upd HK x (.ins cW g [(("run":Str),V.ref c),("held",.ref i),("woven",.ref a),("ready",.ref h),("waiting",.ref n)]) a=_:=(upd_ne B).trans oK;have tL:yw HK (upd HK x (.ins cW g [(("run":Str),V.ref c),("held",.ref i),("woven",.ref a),("ready",.ref h),("waiting",.ref n)])):=yw.upd gK (λ_ z=>by cases z);have lL:=lK.keep (upd_ne N) tL;have wL:=bP.by a7 tL (upd_ne S)
 generalize upd HK x (.ins cW g [(("run":Str),V.ref c),("held",.ref i),("woven",.ref a),("ready",.ref h),("waiting",.ref n)])=HL at gL bL oL lL wL⊢;refine⟨bj _,λo W sM j bd=>?_⟩;have aq:o≠x:=λz=>by rw[z,gL]at j;cases j
 have a1:o≠a:=λz=>by rw[z,oL]at j;cases j
 have aS:o≠h:=λz=>by obtain⟨_,q,_⟩:=lL;rw[z,q]at j;cases j
 have aK:o≠as:=λz=>by rw[z,bL _ _ (λr=>C (ai.mp r)) M.2]at j;cases j
 have a3:a≠as:=λz=>by rw[z,bC _ _ (λr=>C (ai.mp r)) M.2]at p;cases p
 have gM:=sM _ _ gL;have bM:=bL.trans (M:=[x]) sM.bt;have oM:=sM _ _ oL;have lM:=lL.same sM;have wM:=wL.same sM;refine⟨x,cW,g,_,rfl,gM,v.cls,v.n,bO,?_⟩;rw[show qr "stopped" (.ref o) [(("run":Str),V.ref c),("held",.ref i),("woven",.ref a),("ready",.ref h),("waiting",.ref n)]=[(("run":Str),V.ref c),("held",.ref i),("woven",.ref a),("ready",.ref h),("waiting",.ref n),("stopped",.ref o)] by rw[xa (by decide),xa (by decide),xa (by decide),xa (by decide),xa (by decide)];rfl];have gN:upd W x (.ins cW g [(("run":Str),V.ref c),("held",.ref i),("woven",.ref a),("ready",.ref h),("waiting",.ref n),("stopped",.ref o)]) x=_:=zd;have bN:Bt [x] H (upd W x (.ins cW g [(("run":Str),V.ref c),("held",.ref i),("woven",.ref a),("ready",.ref h),("waiting",.ref n),("stopped",.ref o)])):=bM.trans (Bt.upd (by simp));have oN:upd W x (.ins cW g [(("run":Str),V.ref c),("held",.ref i),("woven",.ref a),("ready",.ref h),("waiting",.ref n),("stopped",.ref o)]) a=_:=(upd_ne B).trans oM;have pN:upd W x (.ins cW g [(("run":Str),V.ref c),("held",.ref i),("woven",.ref a),("ready",.ref h),("waiting",.ref n),("stopped",.ref o)]) o=_:=(upd_ne aq).trans bd;have tN:yw W (upd W x (.ins cW g [(("run":Str),V.ref c),("held",.ref i),("woven",.ref a),("ready",.ref h),("waiting",.ref n),("stopped",.ref o)])):=yw.upd gM (λ_ z=>by cases z);have lN:=lM.keep (upd_ne N) tN;have wN:=bP.by wM tN (upd_ne S)
 generalize upd W x (.ins cW g [(("run":Str),V.ref c),("held",.ref i),("woven",.ref a),("ready",.ref h),("waiting",.ref n),("stopped",.ref o)])=HN at gN bN oN pN lN wN⊢;have dN:=bN _ _ (λr=>U (ai.mp r)) M.1;have sN:=bN _ _ (λr=>C (ai.mp r)) M.2;have Gn:∀{J:Hp}{b:Y},Bt [x] H J->J b=none->G b=none:=λ{J b} bt e=>by cases z:G b with|none=>rfl|some u=>rw[sx bt _ _ z]at e;cases e
 have b6:=Gn bC p;have b3:=Gn bE l;have b4:=Gn bJ t;have b5:=Gn bL j;have GM:∀m∈[ad,as,a,h,n,o],G m=none:=λm r=>by simp only[az,List.not_mem_nil,or_false]at r;rcases r with z|z|z|z|z|z<;>rw[z]<;>assumption
 have Z:zg G (without [ad,as,a,h,n,o] HN):=(sx bN).without GM;have bb:x ∉ [ad,as,a,h,n,o]:=by simp[ak U,ak C,ak B,ak N,ak S,ak aq]
 refine k a h n o (without [ad,as,a,h,n,o] HN) HN Z ⟨?_,⟨g,by rw[ye bb];exact gN⟩,GH.same Z,yf (by simp),yf (by simp),yf (by simp),yf (by simp)⟩ ⟨⟨dN,sN⟩,lN,⟨[],oN,rfl⟩,⟨[],pN,rfl⟩,wN,rfl,λq hq=>(nomatch hq),?_,List.nodup_nil,y9⟩;exact⟨xp,a8,am,al,PA.same Z,Z _ _ a6,Z _ _ bh,Z _ _ bi,yf (by simp),yf (by simp)⟩;simp[ak av,ak a3,ak aK,a2,ak aS,ak a1]
end
end My
namespace L2
open PySem PySem.Spec PyProof.Rows PySem.W
variable{M:List Addr}{P:Program}
theorem bP.bt{a:Type}[DecidableEq a]{τ:aU a}{w:World}{H c:Hp}{d:Y}{kvs:O (a×V)}(g:bP τ P w H d kvs)(b:Bt M H c)(f:d ∉ M)(t:yw H c):bP τ P w c d kvs:=by obtain⟨h,e,r⟩:=id g;exact g.by t ((b d _ f e).trans e.symm)
theorem bP.some{a:Type}[DecidableEq a]{τ:aU a}{P:Program}{w:World}{H:Hp}{d:Y}{kvs:O (a×V)}(g:bP τ P w H d kvs):∃b,H d=Option.some (.ext b):=let⟨c,e,_,_,_,_⟩:=g;⟨_,e⟩
end L2
namespace My
open PySem PySem.Spec PyProof.Rows L2
variable{ao c cP cR cU cW x xr:Addr}{A:Around}{o:HO}{base:Heap}{H H' H0:Hp}{M:List Addr}{h:List Nat}{vs:List V}{b:Nat}{P:Program}{mg:Str->Option Value}{v:V}{w:World}
theorem bT.bt{a:Y}{c:O (O Nat)}(x:bT H a c)(b:Bt M H H')(e:a ∉ M)(t:yw H H'):bT H' a c:=by obtain⟨d,g,f⟩:=x;exact⟨d,b _ _ e g,f.tups t (X4 c)⟩
section
variable{A:Type}[DecidableEq A]
theorem Jd{b:Nat}:∀{l:List (Nat×List A)},(l.map (·.1)).Nodup->Zo l b=l.filter λr=>decide (r.1≠b)|[],_=>rfl| (c,g)::r,d=>by have a:=c9.mp d;unfold Zo;by_cases e:c=b;rw[if_pos e,List.filter_cons,if_neg (by simp[e])];refine(List.filter_eq_self.mpr λx f=>?_).symm;refine bn λz=>a.1 ?_;show c∈_;rw[e,<-z];exact List.mem_map_of_mem f;rw[if_neg e,List.filter_cons,if_pos (by simp[e]),Jd a.2]
theorem uj{b:Nat}{d:List A}:∀{l:List (Nat×List A)},(l.map (·.1)).Nodup->(b,d)∈l->Y7 l b=d|[],_,h=>nomatch h| (c,g)::r,f,h=>by have a:=c9.mp f;unfold Y7;rcases az.mp h with e|e;cases e;rw[if_pos J];rw[if_neg (λz=>a.1 (by show c∈_;rw[z];exact List.mem_map_of_mem e))];exact uj a.2 e
theorem AX{b:Nat}:∀{l:List (Nat×List A)},b ∉ l.map (·.1)->Y7 l b=[]/\Zo l b=l|[],_=>⟨J,J⟩| (c,f)::r,h=>by have e:c≠b:=λz=>h (by rw[<-z];exact c5);obtain⟨d,a⟩:=AX λz=>h (bv _ z);unfold Y7 Zo;rw[if_neg e,if_neg e,d,a];exact⟨J,J⟩
theorem AS{b:Nat}{h:A}:∀{l:List (Nat×List A)},b ∉ l.map (·.1)->kh l b h=l++[(b,[h])]|[],_=>rfl| (c,d)::r,a=>by have e:c≠b:=λz=>a (by rw[<-z];exact c5);unfold kh;rw[if_neg e,AS λz=>a (bv _ z)];rfl
theorem zY{b:Nat}{h:A}:∀{l:List (Nat×List A)},(l.map (·.1)).Nodup->kh l b h=if b∈l.map (·.1)then l.map (λr=>if r.1=b then(r.1,r.2++[h])else r)else l++[(b,[h])]
 |[],_=>rfl
 | (c,d)::r,f=>by
   have a:=c9.mp f;unfold kh;by_cases e:c=b;rw[if_pos e,if_pos (show b∈((c,d)::r).map (·.1) by rw[e];exact c5),cb,if_pos e];congr 1;refine(List.map_id' r).symm.trans (List.map_congr_left λx g=>?_);refine(if_neg λz=>a.1 ?_).symm;show c∈_;rw[e,<-z];exact List.mem_map_of_mem g;rw[if_neg e,zY a.2];by_cases m:b∈r.map (·.1);rw[if_pos m,if_pos (show b∈((c,d)::r).map (·.1)from bv _ m),cb,if_neg e];rw[if_neg m,if_neg (λz=>by rcases az.mp z with y|y;exact e y.symm;exact m y)]
   rfl
end
theorem pV{W:iX}:(∀v,yz (jj W) (kA b)=some v->∃q∈W,q.1.1=b/\v=.ref q.2)/\(yz (jj W) (kA b)=none->b ∉ W.map (·.1.1)):=by induction W with|nil=>exact⟨λv h=>(by cases h),λ_ h=>nomatch h⟩| cons q r a=>have j:jj (q::r)=(kA q.1.1,V.ref q.2)::jj r:=rfl;rw[j];by_cases e:q.1.1=b;rw[wg (by rw[e])];exact⟨λv h=>⟨q,c5,e,(Option.some.inj h).symm⟩,λh=>by cases h⟩;have d:=λz=>e (xA z);rw[xu d];refine⟨λv h=>?_,λh f=>?_⟩;obtain⟨c,i,g⟩:=a.1 v h;exact⟨c,bv _ i,g⟩;rcases az.mp f with z|z;exact e z.symm;exact a.2 h z
theorem Dw{W:iX}:mO (jj W) (kA b)=jj (W.filter λq=>decide (q.1.1≠b)):=by unfold mO jj;rw[List.filter_map];congr 1;apply List.filter_congr;intro q _;show decide (kA q.1.1≠kA b)=decide (q.1.1≠b);by_cases e:q.1.1=b;rw[e];simp;have a:¬kA q.1.1=kA b:=λz=>e (xA z);rw[bn a,bn e]
section
variable{a:WA}{s:WS (List Nat)}{W:iX}
theorem bW.same(m:bW P w H0 H a s W)(b:zg H H'):bW P w H0 H' a s W:=⟨⟨b _ _ m.run.1,b _ _ m.run.2⟩,m.rdy.same b,m.wov.same b,m.stp.same b,m.wai.same b,m.wl,λq c=>⟨(m.lst q c).1.same b,(m.lst q c).2⟩,m.nd,m.kd,m.s0.trans b⟩
theorem bW.ne(m:bW P w H0 H a s W):a.as≠a.ay/\a.as≠a.ao/\a.as≠a.ap/\a.ay≠a.ao/\a.ay≠a.ap/\a.ao≠a.ap/\(∀q∈W,q.2≠a.as/\q.2≠a.ay/\q.2≠a.ao/\q.2≠a.ap)/\(W.map (·.2)).Nodup:=by have b:=c9.mp m.nd;have c:=c9.mp b.2;have d:=c9.mp c.2;have f:=c9.mp d.2;simp only[az,not_or]at b c d;refine⟨b.1.1,b.1.2.1,b.1.2.2.1,c.1.1,c.1.2.1,d.1.1,λq g=>?_,f.2⟩;have e:q.2∈W.map (·.2):=List.mem_map_of_mem g;exact⟨λz=>b.1.2.2.2 (z▸e),λz=>c.1.2.2 (z▸e),λz=>d.1.2 (z▸e),λz=>f.1 (z▸e)⟩
theorem bW.apart(m:bW P w H0 H a s W)(h:H c=some (.lst vs)):a.ad≠c/\a.aw≠c:=by refine⟨λz=>?_,λz=>?_⟩;rw[<-z,m.run.1]at h;cases h;obtain⟨b,e⟩:=m.wai.some;rw[<-z,e]at h;cases h
theorem bT.upd_ne{c b:Y}{d:O (O Nat)}{a vs:O V}(x:bT H b d)(h:H c=some (.lst a))(n:b≠c):bT (upd H c (.lst vs)) b d:=x.keep (L2.upd_ne n) (yw.upd h (λ_ z=>by cases z))
theorem bT.upd_eq{b:O (O Nat)}{a:O V}(h:H c=some (.lst a))(i:IsL H (b.map hT) vs):bT (upd H c (.lst vs)) c b:=⟨vs,zd,i.tups (yw.upd h (λ_ z=>by cases z)) (X4 b)⟩
theorem qa(s:zg H0 H)(n:H0 c=none):zg H0 (upd H c o):=λb u e=>by rw[L2.upd_ne (zm e n)];exact s b u e
theorem bW.setR(m:bW P w H0 H a s W)(z:H0 a.ay=none){l:O (O Nat)}(i:IsL H (l.map hT) vs):bW P w H0 (upd H a.ay (.lst vs)) a {s with ready:=l} W:=by obtain⟨g,p,o,f,e,n,d,_⟩:=m.ne;obtain⟨c,h,_⟩:=m.rdy;obtain⟨k,j⟩:=m.apart h;have t:yw H (upd H a.ay (.lst vs)):=yw.upd h (λ_ z=>by cases z);exact⟨⟨(upd_ne k).trans m.run.1,(upd_ne g).trans m.run.2⟩,bT.upd_eq h i,m.wov.upd_ne h (ak f),m.stp.upd_ne h (ak e),m.wai.by t (upd_ne j),m.wl,λq b=>⟨(m.lst q b).1.upd_ne h (d q b).2.1,(m.lst q b).2⟩,m.nd,m.kd,qa m.s0 z⟩
theorem bW.setO(m:bW P w H0 H a s W)(z:H0 a.ao=none){l:O (O Nat)}(i:IsL H (l.map hT) vs):bW P w H0 (upd H a.ao (.lst vs)) a {s with wov:=l} W:=by obtain⟨p,g,o,f,n,e,d,_⟩:=m.ne;obtain⟨c,h,_⟩:=m.wov;obtain⟨k,j⟩:=m.apart h;have t:yw H (upd H a.ao (.lst vs)):=yw.upd h (λ_ z=>by cases z);exact⟨⟨(upd_ne k).trans m.run.1,(upd_ne g).trans m.run.2⟩,m.rdy.upd_ne h f,bT.upd_eq h i,m.stp.upd_ne h (ak e),m.wai.by t (upd_ne j),m.wl,λq b=>⟨(m.lst q b).1.upd_ne h (d q b).2.2.1,(m.lst q b).2⟩,m.nd,m.kd,qa m.s0 z⟩
theorem bW.setP(m:bW P w H0 H a s W)(z:H0 a.ap=none){l:O (O Nat)}(i:IsL H (l.map hT) vs):bW P w H0 (upd H a.ap (.lst vs)) a {s with stop:=l} W:=by obtain⟨p,o,g,n,f,e,d,_⟩:=m.ne;obtain⟨c,h,_⟩:=m.stp;obtain⟨k,j⟩:=m.apart h;have t:yw H (upd H a.ap (.lst vs)):=yw.upd h (λ_ z=>by cases z);exact⟨⟨(upd_ne k).trans m.run.1,(upd_ne g).trans m.run.2⟩,m.rdy.upd_ne h f,m.wov.upd_ne h e,bT.upd_eq h i,m.wai.by t (upd_ne j),m.wl,λq b=>⟨(m.lst q b).1.upd_ne h (d q b).2.2.2,(m.lst q b).2⟩,m.nd,m.kd,qa m.s0 z⟩
theorem bW.bt(m:bW P w H0 H a s W){g:O (O Nat×Nat)}{f:O Int}(A:H0 a.ad=none)(x:H0 a.as=none)(b:Bt [a.ad,a.as] H H')(r:Va H' a.ad a.as g f):bW P w H0 H' a {s with done:=g,sums:=f} W:=by
 obtain⟨v,u,p,_,_,_,o,_⟩:=m.ne;have t:=m.run.tups b;have d:∀{c:Y}{n:O (O Nat)},bT H c n->c≠a.as->c ∉ [a.ad,a.as]:=λ{c n} l z k=>by obtain⟨D,h,_⟩:=l;rcases az.mp k with y|y;exact(m.apart h).1 y.symm;exact z (ai.mp y)
 have j:a.aw ∉ [a.ad,a.as]:=λk=>by obtain⟨C,e⟩:=m.wai.some;rcases az.mp k with y|y;rw[y,m.run.1]at e;cases e;rw[ai.mp y,m.run.2]at e;cases e
 refine⟨r,m.rdy.bt b (d m.rdy (ak v)) t,m.wov.bt b (d m.wov (ak u)) t,m.stp.bt b (d m.stp (ak p)) t,m.wai.bt b j t,m.wl,λq i=>⟨(m.lst q i).1.bt b (d (m.lst q i).1 (o q i).1) t,(m.lst q i).2⟩,m.nd,m.kd,b.same m.s0 λc B=>?_⟩;rcases az.mp B with y|y;rw[y];exact A;rw[ai.mp y];exact x
theorem bW.setW(m:bW P w H0 H a s W)(z:H0 a.aw=none){d:iX}(g:bP mV P w (upd H a.aw o) a.aw (jj d))(b:∀q∈d,q∈W)(i:(a.as::a.ay::a.ao::a.ap::d.map (·.2)).Nodup)(j:(d.map (·.1.1)).Nodup):bW P w H0 (upd H a.aw o) a {s with wait:=d.map (·.1)} d:=by have t:yw H (upd H a.aw o):=m.wai.tups;have f:∀{c:Y}{b:O (O Nat)},bT H c b->c≠a.aw:=λ{c b} ⟨n,h,_⟩=>ak (m.apart h).2;obtain⟨l,e⟩:=m.wai.some;refine⟨⟨(upd_ne (λy=>by rw[<-y,m.run.1]at e;cases e)).trans m.run.1,(upd_ne (λy=>by rw[<-y,m.run.2]at e;cases e)).trans m.run.2⟩,m.rdy.keep (upd_ne (f m.rdy)) t,m.wov.keep (upd_ne (f m.wov)) t,m.stp.keep (upd_ne (f m.stp)) t,g,J,λq k=>⟨(m.lst q (b q k)).1.keep (upd_ne (f (m.lst q (b q k)).1)) t,(m.lst q (b q k)).2⟩,i,j,qa m.s0 z⟩
end
inductive lO(P:Program)(w:World)(cW cU cP cR:Addr)(vs:List V)(H:Hp)(Q:VK)(e0:XK):Prop|mk:∀(H0:Hp)(a:WA)(hs:aB)(L:RL)(held:List ((List Int×Int)×V))(s:WS (List Nat))(W:iX)(h:List Nat)(d:aH)(vh:V),vs=[.ref a.x,vh]->uN P w H0 cW cU cP cR hs L a held->bW P w H0 H a s W->dO hs->h∈zi (plan hs)->h∈zi s.done->s.sums.length=hs.b.toNat->Is H (hT h) vh->cQ (mM hs) s h=some d->(zi s.done).Nodup->s.done.length<=999->s.ready.length+ko s.wait<=1000->s.wov.length<=2000->(∀W' H',bW P w H0 H' a (Ye (mM hs) s h d) W'->Q .non H')->lO P w cW cU cP cR vs H Q e0
theorem Zq{n:Nat}(h:n<=9000):n<sizeLine:=dz h (by decide)
theorem Kf{A:Type}[DecidableEq A]{l:O (Nat×O A)}:(Y7 l b).length<=ko l:=by have:=Ke (b:=b) (l:=l);omega
section
variable{K:W.Frag}
theorem zN:aA ["self","hand","begun","ground"] ["self","hand"] (ze sY):=.of
theorem ER(D:q8 K cW "step" "Weaver.step" sY)(n:aG K cW cD)(CU:aG K cU bV)(CP:aG K cP aZ)(CR:aG K cR aR)(oD:bR P w K mg base cU "do" 2 ["self","hand"] (jI cU cP cR)):bR P w K mg base cW "step" 3 ["self","hand"] (lO P w cW cU cP cR):=by
 refine Zf (k:=2) D zN ?_;rintro f dn A bw s0 H vs Q E hr ⟨H0,a,hs,L,cn,s,W,h,d,vh,rfl,F,m,PH,hh,hk,b2,aq,hd,bC,b8,c1,c0,k⟩ X;have hu:=jk hr;have bN:=wX hr;have nd:=zN.nd;refine⟨_,zb (zr (i:=2) nd (At hu (zu (wo hu (zu (zu (zu (pv 0) J) J) J) (pv 1)) J) (wo hu (zu (zu (pv 0) J) J) (pv 1)) ⟨J,J,J,J⟩)) (zb (wa PassesOwn.never J (vy (qc oD CU.cls hr (zu (pv 0) J) (za (pv 1) zc))) (zk (i:=3) nd) (zf (we (Zv PySem.F.plainAttrs_list PySem.F.slot_list_extend PySem.F.type_list_extend Yk (zu (pv 0) J) (za (Gg (τ:=mV) bN (zu (pv 0) J) (pv 3) (vk zc) ⟨J,J,J,J⟩) zc)))))
  (zb (we (Zv PySem.F.plainAttrs_list PySem.F.slot_list_append PySem.F.type_list_append qv (zu (pv 0) J) (za (pv 1) zc))) (zb (we (Zv PySem.F.plainAttrs_list PySem.F.slot_list_append PySem.F.type_list_append qv (zu (pv 0) J) (za (pv 1) zc))) (zf (yg (Xf (zG (pv 2))) yy zn))))),?_⟩
 obtain⟨RF,⟨dx,hx⟩,GH,bI,ap,bD,cv⟩:=id F;obtain⟨xp,aK,am,al,PA,av,_,_,bJ,bE⟩:=id RF;obtain⟨dp,vv,ar,rl,hp,cc,a7,ck,vc,vs,ab,an,ac,r1,r2,r4,r5,r6,_⟩:=PA.role hh;obtain⟨Z,rfl,bd⟩:=ke aq;have nm:∀f∈cD,Y4 K cW f:=n.no;have g:=m.s0;refine⟨a.x,cW,dx,_,_,J,g _ _ hx,n.cls,n.n,Qk,a.xr,cU,aK,_,_,J,g _ _ av,CU.cls,CU.n,Vg,xp,cP,dp,_,_,J,g _ _ hp,CP.cls,CP.n,vj,ar,_,J,a7▸DGet.t (g _ _ cc) bd,rl,cR,ck,_,_,J,g _ _ r1,CR.cls,CR.n,Id,ab,J,.inl ⟨_,.inl (g _ _ r4)⟩,a.x,cW,dx,_,_,J,g _ _ hx,n.cls,n.n,Qk,a.xr,cU,aK,_,_,J,g _ _ av,CU.cls,CU.n,jq,a.ad,_,J,Yc hk▸DGet.t m.run.1 bd,_,DGet.k (k:=(Sum.inl (yb s.done h:Int):aM)) (g _ _ r4),?_⟩
 refine⟨a.x,cW,dx,_,_,J,g _ _ hx,n.cls,n.n,Qk,a.xr,aK,_,J,g _ _ av,J,H0,a.xr,a.ad,a.as,hs,L,s.done,s.sums,h,.ref Z,d,J,⟨RF,m.s0,m.run⟩,hh,hk,PH,b2,aq,hd,bC,b8,λl H1 b1 R bl i1=>?_⟩;have m1:=m.bt bJ bE b1 bl;obtain⟨l',zs,el,bc,a6⟩:=i1;cases el;have N:zs.length=(mz d).length:=a6.length;refine⟨l,J,⟨zs,aI.of bc⟩,?_⟩;have bx:l≠a.ay:=λz=>by obtain⟨_,q,_⟩:=m.rdy;rw[z,q]at R;cases R
 have bB:l≠a.aw:=λz=>by obtain⟨_,q⟩:=m.wai.some;rw[z,q]at R;cases R
 have a1:∀{G:Hp},zg (without [a.ay,a.aw] H1) G->yw H1 G:=λ{G} M c C e=>by refine M _ _ ?_;rw[ye];exact e;intro hm;rcases az.mp hm with y|y;obtain⟨_,q,_⟩:=m1.rdy;rw[y,q]at e;cases e;obtain⟨_,q⟩:=m1.wai.some;rw[ai.mp y,q]at e;cases e
 let cl:Nat->L2.St->Hp->Prop:=λi σ G=>∃x3 u,σ=[some (.ref a.x),some (.ref Z),some .non,x3]/\bW P w H0 G a (if i=0 then{s with done:=Qc hs s.done h,sums:=aN s.sums (cX d)}else{s with done:=Qc hs s.done h,sums:=aN s.sums (cX d),ready:=s.ready++Zd s (cX d),wait:=jb s (cX d)}) u/\zg (without [a.ay,a.aw] H1) G;refine kf (K:=K) (a:=l) (xs:=zs) cl
  ⟨none,W,J,m1,y9⟩ (λi σ G _ ⟨_,_,_,_,M⟩=>aI.of (M _ _ (by rw[ye (by simp[bx,bB])];exact bc))) ?_ ?_
 rintro i v σ G hv ⟨x3,u,rfl,j,M⟩;cases d with| rai b mm=>
   have i0:i=0:=by have:=(cp.mp hv).1;rw[N]at this;have e:(mz (.rai b mm)).length=1:=rfl;omega
   subst i0;rw[if_pos J]at j;obtain⟨sc,b3,b7⟩:=X7 hd;obtain⟨ca,dh⟩:=PH.box sc b3 _ b7 b mm (.inl J);have b9:((b.toNat:Nat):Int)=b:=Int.toNat_of_nonneg ca;obtain⟨tt,b0,bK⟩:=a6.get' hv;cases b0;have tG:yw H1 G:=a1 M;have t:Is G (.tup [.str "await",.int b]) v:=bK.tups tG ⟨trivial,trivial,trivial⟩;rw[<-b9]at t;obtain⟨gv,xg,rfl,dg,c3⟩:=id t;obtain⟨C,B,x⟩:=id j.rdy;have gG:=j.s0;have S:u.map (·.1)=s.wait:=j.wl;have bi:(s.wait.map (·.1)).Nodup:=by rw[<-S,bp];exact j.kd
   have aS:C.length=s.ready.length:=by have:=x.length;rw[ae]at this;exact this
   refine⟨a.x,cW,dx,_,_,J,gG _ _ hx,n.cls,n.n,Vd,.inl ⟨J,_,aI.of B⟩,a.x,cW,dx,_,_,J,gG _ _ hx,n.cls,n.n,Kg,a.aw,_,J,j.wai,bj _,λe H3 s3 c2 he=>⟨gv,jj u,kA b.toNat,J,j.wai.same s3,t.mono s3,λv2 bM o hg=>?_,λb5=>?_⟩⟩;obtain⟨q,hq,b4,rfl⟩:=pV.1 _ bM;rw[Dw]at hg;have r:=j.same s3;obtain⟨n1,n2,n3,n4,n5,n6,nq,nW⟩:=r.ne;have m4:=r.setW bD hg (λq hq=>(eh.mp hq).1) (r.nd.sublist (((((List.filter_sublist ..).map _).cons_cons _).cons_cons _).cons_cons _ |>.cons_cons _)) (r.kd.sublist ((List.filter_sublist ..).map _));obtain⟨ah,bg,aa⟩:=m4.rdy;have a8:=(r.lst q hq).1;obtain⟨zq,bL,a2⟩:=(a8.keep (upd_ne (by obtain⟨_,y,_⟩:=a8;exact ak (r.apart y).2)) r.wai.tups:bT (upd H3 a.aw o) q.2 q.1.2)
   have l4:ah.length=s.ready.length:=by have:=aa.length;rw[ae]at this;exact this
   have lq:zq.length=q.1.2.length:=by have:=a2.length;rw[ae]at this;exact this
   have bb:(b.toNat,q.1.2)∈s.wait:=by rw[<-S,<-b4];exact List.mem_map_of_mem (f:=λz:(Nat×List (List Nat))×Addr=>z.1) hq
   have U:Y7 s.wait b.toNat=q.1.2:=uj bi bb;have ay:Zo s.wait b.toNat=(u.filter λq=>decide (q.1.1≠b.toNat)).map (·.1):=by rw[Jd bi,<-S,List.filter_map];rfl
   have bk:=Kf (b:=b.toNat) (l:=s.wait);rw[U]at bk;have m5:=m4.setR ap (l:=s.ready++q.1.2) (vs:=ah++zq) (by rw[be];exact IsL.append aa a2);refine⟨a.ay,q.2,ah,zq,J,J,bg,bL,Nat.le_of_lt (Zq (by omega)),_,u.filter λq=>decide (q.1.1≠b.toNat),J,?_,qa (qa (M.trans s3) (yf (by simp))) (yf (by simp))⟩;rw[if_neg (Nat.succ_ne_zero 0)];show bW P w H0 _ a {s with done:=Qc hs s.done h,sums:=aN s.sums (cX (.rai b mm)),ready:=s.ready++Y7 s.wait b.toNat,wait:=Zo s.wait b.toNat} _;rw[U,ay];exact m5;have b6:=pV.2 b5;have ba:b.toNat ∉ s.wait.map (·.1):=by rw[<-S,bp];exact b6
   obtain⟨U,ay⟩:=AX ba;have r:=j.same s3;have m5:=r.setR ap (l:=s.ready++[]) (vs:=C++[]) (by rw[cq,cq];exact x.mono s3);refine⟨a.ay,e,C,[],J,J,s3 _ _ B,he,Nat.le_of_lt (Zq (by show C.length+0<=9000;omega)),_,u,J,?_,qa (M.trans s3) (yf (by simp))⟩;rw[if_neg (Nat.succ_ne_zero 0)];show bW P w H0 _ a {s with done:=Qc hs s.done h,sums:=aN s.sums (cX (.rai b mm)),ready:=s.ready++Y7 s.wait b.toNat,wait:=Zo s.wait b.toNat} _;rw[U,ay];exact m5|_=>have:=(cp.mp hv).1;rw[N]at this;exact absurd this (Nat.not_lt_zero _)
 rintro σ G ⟨x3,u,rfl,j,M⟩;have m2:bW P w H0 G a {s with done:=Qc hs s.done h,sums:=aN s.sums (cX d),ready:=s.ready++Zd s (cX d),wait:=jb s (cX d)} u:=by cases d with|rai b mm=>rw[N,if_neg (show¬(mz (.rai b mm)).length=0 from Nat.succ_ne_zero 0)]at j;exact j| _=>rw[show zs.length=0 from N,if_pos J]at j;show bW P w H0 G a {s with done:=Qc hs s.done h,sums:=aN s.sums none,ready:=s.ready++[],wait:=s.wait} u;rw[cq];exact j
 have t:Is G (hT h) (.ref Z):=(aq.tups (m.run.tups b1) (vp _)).tups (a1 M) (vp _);have co:(Zd s (cX d)).length<=ko s.wait:=by cases e:cX d with|none=>exact bj _|some p=>exact Kf
 obtain⟨os,aw,a5⟩:=id m2.wov;have cs:os.length=s.wov.length:=by have:=a5.length;rw[ae]at this;exact this
 refine⟨a.x,cW,dx,_,_,J,m2.s0 _ _ hx,n.cls,n.n,AW,.inl ⟨J,_,aI.of aw⟩,a.ao,os,_,J,J,aw,Zq (by omega),?_⟩;have r:=m2.setO bI (l:=s.wov++[h]) (vs:=os++[.ref Z]) (by rw[be];exact IsL.append a5 (IsL.one t));have a3:Is (upd G a.ao (.lst (os++[.ref Z]))) (hT h) (.ref Z):=t.tups (yw.upd aw (λ_ z=>by cases z)) (vp _);generalize upd G a.ao (.lst (os++[.ref Z]))=H3 at r a3⊢;obtain⟨C,B,x⟩:=id r.rdy;have aS:C.length=(s.ready++Zd s (cX d)).length:=by have:=x.length;rw[ae]at this;exact this
 rw[c7]at aS;refine⟨a.x,cW,dx,_,_,J,r.s0 _ _ hx,n.cls,n.n,Vd,.inl ⟨J,_,aI.of B⟩,a.ay,C,_,J,J,B,Zq (by omega),?_⟩;have m4:=r.setR ap (l:=s.ready++Zd s (cX d)++[h]) (vs:=C++[.ref Z]) (by rw[be];exact IsL.append x (IsL.one a3));generalize upd H3 a.ay (.lst (C++[.ref Z]))=H4 at m4⊢;refine⟨_,J,?_⟩;refine yi (k u H4 ?_);show bW P w H0 H4 a {done:=Qc hs s.done h,sums:=aN s.sums (cX d),ready:=s.ready++Zd s (cX d)++[h]++[],wait:=jb s (cX d),stop:=s.stop,wov:=s.wov++[h]} u;rw[cq];exact m4
end
noncomputable def Wb(M:dB (List Nat) aH)(held:List Nat->Nat->Bool)(s:WS (List Nat)):WS (List Nat):=match s.ready.getLast? with|none=>s|some h=>jn M held {s with ready:=s.ready.dropLast} h
noncomputable def fm(M:dB (List Nat) aH)(held:List Nat->Nat->Bool):Nat->WS (List Nat)->WS (List Nat)|0,s=>s|n+1,s=>Wb M held (fm M held n s)
noncomputable def wz(held:List ((List Int×Int)×V))(h:List Nat)(p:Nat):Bool:=(yz held (hZ h,(p:Int))).isSome
theorem AN{M:dB (O Nat) aH}{held:O Nat->Nat->Bool}{s:WS (O Nat)}{r:O (O Nat)}(e:s.ready=r++[h]):Wb M held s=jn M held {s with ready:=r} h:=by
 unfold Wb
 simp_all
inductive lC(P:Program)(w:World)(cW cU cP cR:Addr)(vs:List V)(H:Hp)(Q:VK)(e0:XK):Prop|mk:∀(H0:Hp)(a:WA)(hs:aB)(L:RL)(held:List ((List Int×Int)×V))(s:WS (List Nat))(W:iX),vs=[.ref a.x]->uN P w H0 cW cU cP cR hs L a held->bW P w H0 H a s W->dO hs->Wv (mM hs) (zi (plan hs)) s->s.sums.length=hs.b.toNat->(∀r∈s.wait,r.2≠[])->(∀n W' H',bW P w H0 H' a (fm (mM hs) (wz held) n s) W'->Wv (mM hs) (zi (plan hs)) (fm (mM hs) (wz held) n s)->(fm (mM hs) (wz held) n s).sums.length=hs.b.toNat->(fm (mM hs) (wz held) n s).ready=[]->Q .non H')->lC P w cW cU cP cR vs H Q e0
theorem BQ(a:aB)(W:dO a):uT (mM a) (zi (plan a)):=⟨λ_ _ _ _ _ e=>(nomatch e),λ_ _ _ e=>(nomatch e),jh a⟩
theorem K6(l:List Int)(r:Option (Nat×Int)):(aN l r).length=l.length:=by cases r with|none=>rfl|some p=>exact List.length_set
theorem ID(M:dB (List Nat) aH)(held:List Nat->Nat->Bool)(s:WS (List Nat))(h:List Nat):(jn M held s h).sums.length=s.sums.length:=by
 unfold jn;cases cQ M s h with|none=>grind| some d=>
   dsimp only;split;rfl;split;exact K6 _ _
   grind
theorem Q8{a d:Type}{f:a->d}:∀{l:List a},(l.map f).Nodup->∀{x y:a},x∈l->y∈l->f x=f y->x=y
 |[],_,_,_,h,_,_=>nomatch h
 | c::r,g,x,y,j,i,e=>by
   have b:=c9.mp g;rcases az.mp j with z|z<;>rcases az.mp i with u|u;rw[z,u]
   grind
   simp_all
   exact Q8 b.2 z u e
theorem bW.addW{a:WA}{s:WS (O Nat)}{W:iX}(m:bW P w H0 H a s W){q:(Nat×O (O Nat))×Y}(b:q∈W)(e:H q.2=some (.lst vs))(i:IsL H (q.1.2.map hT) vs)(o:Is H (hT h) v):bW P w H0 (upd H q.2 (.lst (vs++[v]))) a {s with wait:=kh s.wait q.1.1 h} (W.map λz=>if z.1.1=q.1.1 then((z.1.1,z.1.2++[h]),z.2)else z):=by
 obtain⟨K,G,F,E,D,C,j,n⟩:=m.ne;obtain⟨B,A⟩:=m.apart e;have t:yw H (upd H q.2 (.lst (vs++[v]))):=yw.upd e (λ_ z=>by cases z);have k:∀z∈W,z.1.1=q.1.1->z=q:=λz f e=>by exact Q8 m.kd f b e
 have d:∀z∈W,z.2=q.2->z=q:=λz f e=>Q8 n f b e;have x:(W.map λz=>if z.1.1=q.1.1 then((z.1.1,z.1.2++[h]),z.2)else z).map (·.2)=W.map (·.2):=by
  rw[bp];refine List.map_congr_left λz _=>?_
  grind
 have u:(W.map λz=>if z.1.1=q.1.1 then((z.1.1,z.1.2++[h]),z.2)else z).map (·.1.1)=W.map (·.1.1):=by
  rw[bp];refine List.map_congr_left λz _=>?_
  grind
 have r:jj (W.map λz=>if z.1.1=q.1.1 then((z.1.1,z.1.2++[h]),z.2)else z)=jj W:=by
  unfold jj
  simp_all
 refine⟨⟨(upd_ne B).trans m.run.1,(upd_ne (ak (j q b).1)).trans m.run.2⟩,m.rdy.upd_ne e (ak (j q b).2.1),m.wov.upd_ne e (ak (j q b).2.2.1),m.stp.upd_ne e (ak (j q b).2.2.2),?_,?_,λz f=>?_,by rw[x];exact m.nd,by rw[u];exact m.kd,qa m.s0 (m.lst q b).2⟩;rw[r];exact m.wai.by t (upd_ne A)
 have l:(s.wait.map (·.1)).Nodup:=by rw[<-m.wl,bp];exact m.kd
 have p:q.1.1∈s.wait.map (·.1):=by rw[<-m.wl,bp];grind
 rw[zY l,if_pos p,<-m.wl,bp,bp];refine List.map_congr_left λz _=>?_
 grind
 obtain⟨y,g,rfl⟩:=bz.mp f;by_cases c:y.1.1=q.1.1;rw[if_pos c];obtain rfl:=k y g c;exact⟨⟨_,zd,(by rw[be];exact(IsL.append i (IsL.one o)).tups t (by rw[<-be];exact X4 _))⟩,(m.lst y g).2⟩;rw[if_neg c];exact⟨(m.lst y g).1.upd_ne e (λz=>c (by rw[d y g z])),(m.lst y g).2⟩
theorem bW.newW{a:WA}{s:WS (O Nat)}{W:iX}(m:bW P w H0 H a s W){e:Y}(he:H e=some (.lst []))(z:H0 e=none)(C:H0 a.aw=none)(ne:e ∉ a.as::a.ay::a.ao::a.ap::W.map (·.2))(N:b ∉ W.map (·.1.1))(g:bP mV P w (upd H a.aw o) a.aw (jj (W++[((b,[]),e)]))) (F:Is H (hT h) v):bW P w H0 (upd (upd H a.aw o) e (.lst [v])) a {s with wait:=kh s.wait b h} (W++[((b,[h]),e)]):=by
 obtain⟨K,B⟩:=m.apart he;have D:yw H (upd H a.aw o):=m.wai.tups;have p:upd H a.aw o e=some (.lst []):=(upd_ne (ak B)).trans he;have r:yw (upd H a.aw o) (upd (upd H a.aw o) e (.lst [v])):=yw.upd p (λ_ z=>by cases z);have t:=D.trans r;simp only[az,not_or]at ne;have d:∀{c:Y}{k:O (O Nat)},bT H c k->c≠e->bT (upd (upd H a.aw o) e (.lst [v])) c k:=λ{c k} l n=>l.keep (by obtain⟨M,y,_⟩:=l;rw[upd_ne n,upd_ne (ak (m.apart y).2)]) t
 obtain⟨L,A⟩:=m.wai.some;have i:a.ad≠a.aw:=λy=>by rw[<-y,m.run.1]at A;grind
 have f:a.as≠a.aw:=λy=>by rw[<-y,m.run.2]at A;grind
 have E:∀q∈W,q.2≠e:=λq u y=>ne.2.2.2.2 (by grind);refine⟨⟨?_,?_⟩,d m.rdy (ak ne.2.1),d m.wov (ak ne.2.2.1),d m.stp (ak ne.2.2.2.1),?_,?_,λq u=>?_,?_,?_,qa (qa m.s0 C) z⟩;rw[upd_ne K,upd_ne i];exact m.run.1;rw[upd_ne (ak ne.1),upd_ne f];exact m.run.2;have G:jj (W++[((b,[h]),e)])=jj (W++[((b,[]),e)]):=by unfold jj;simp
 rw[G];exact g.by r (upd_ne B)
 have j:b ∉ s.wait.map (·.1):=by rw[<-m.wl,bp];grind
 rw[AS j,be,m.wl];rfl;rcases c4.mp u with y|y;exact⟨d (m.lst q y).1 (E q y),(m.lst q y).2⟩;rw[ai.mp y];exact⟨⟨_,zd,IsL.one (F.tups t (vp _))⟩,z⟩;have q:=m.nd
 grind
 rw[be,List.nodup_append];refine⟨m.kd,by simp,λx R y Q z=>?_⟩
 simp_all
def NE(l:List (Nat×List (List Nat))):Prop:=∀r∈l,r.2≠[]
theorem NE.add{l:List (Nat×List (List Nat))}:NE l->NE (kh l b h):=by
 induction l with|nil=>intro _ r g;rw[ai.mp g];simp| cons c r d=>
   intro n x a;obtain⟨c,i⟩:=c;unfold kh at a;by_cases e:c=b;rw[if_pos e]at a;rcases az.mp a with z|z
   simp_all
   exact n x (bv _ z);rw[if_neg e]at a;rcases az.mp a with z|z;rw[z];exact n _ c5;exact d (λy f=>n y (bv _ f)) x z
theorem NE.del{l:List (Nat×List (List Nat))}:NE l->NE (Zo l b):=by induction l with|nil=>exact λn=>n| cons c r d=>intro n x a;obtain⟨c,g⟩:=c;unfold Zo at a;by_cases e:c=b;rw[if_pos e]at a;exact n x (bv _ a);rw[if_neg e]at a;rcases az.mp a with z|z;rw[z];exact n _ c5;exact d (λy f=>n y (bv _ f)) x z
theorem NE.len{l:List (Nat×List (List Nat))}:NE l->l.length<=ko l:=by induction l with|nil=>simp| cons c r a=>intro n;have e:=a λy b=>n y (bv _ b);have d:=List.length_pos_iff.mpr (n c c5);show r.length+1<=c.2.length+ko r;omega
theorem NE.turn{M:dB (List Nat) aH}{held:List Nat->Nat->Bool}{s:WS (List Nat)}(n:NE s.wait):NE (jn M held s h).wait:=by
 unfold jn;cases cQ M s h with|none=>grind| some d=>
   dsimp only;split;exact n;split;show NE (jb s (M.ra d));cases M.ra d with|none=>exact n|some p=>exact n.del
   cases M.aw d with|none=>exact n|some p=>exact n.add
theorem IsL.snoc{H:Hp}:∀{c:List L2.T}{t:L2.T}{b:List V},IsL H (c++[t]) b->∃a v,b=a++[v]/\IsL H c a/\Is H t v| [],t,b,h=>by obtain⟨v,f,rfl,e,d⟩:=h;cases(d);exact⟨[],v,J,J,e⟩| u::c,t,b,h=>by obtain⟨v,f,rfl,e,d⟩:=h;obtain⟨a,w,rfl,i,g⟩:=IsL.snoc d;exact⟨v::a,w,J,⟨v,a,J,e,i⟩,g⟩
section
variable{K:W.Frag}
theorem qC{k:Nat}(a:aQ k A):A.units+3<cLine:=dz (f7 (by decide) _) a.units
theorem AJ:aA ["self","hand","deed"] ["self"] (ze tX):=.of
theorem Gb(D:q8 K cW "weave" "Weaver.weave" tX)(p:aG K cW cD)(CU:aG K cU bV)(CP:aG K cP aZ)(CR:aG K cR aR)(oN:bR P w K mg base cU "next_deed" 1 ["self","hand"] (jD cU cP cR))(oM:bR P w K mg base cU "may_go_on" 2 ["self","hand"] (gU cU cP cR))(oS:bR P w K mg base cW "step" 3 ["self","hand"] (lO P w cW cU cP cR)):bR P w K mg base cW "weave" 4 ["self"] (lC P w cW cU cP cR):=by
 refine Zf (k:=3) D AJ ?_;rintro f dr A bk s0 H vs Q E hr ⟨H0,a,i,L,g,s,W,rfl,F,m,PH,WV,bI,b0,k⟩ X;have hu:=jk hr;have bE:=qC hr;have bD:=wX hr;have nd:=AJ.nd;refine⟨_,zf (K7 PassesOwn.never (GP (zu (pv 0) J) (λ_=>rfl)) (zb (zr (i:=1) nd (xJ PySem.F.plainAttrs_list PySem.F.slot_list_pop PySem.F.type_list_pop Em (zu (pv 0) J))) (zb (zr (i:=2) nd (qc oN CU.cls (hr.mono (by decide)) (zu (pv 0) J) (za (pv 1) zc))) (zf (yg (Xf (DY (τ:=cN) bE (y0 (za (pv 1) (za (wo hu (zu (zu (pv 0) J) J) (pv 1)) zc))) (zu (pv 0) J))) (zf (we (Zv PySem.F.plainAttrs_list PySem.F.slot_list_append PySem.F.type_list_append qv (zu (pv 0) J) (za (pv 1) zc))))
   (zf (yg (y6 (qc oM CU.cls (hr.mono (by decide)) (zu (pv 0) J) (za (pv 1) zc))) (zf (we (qc oS p.cls hr (pv 0) (za (pv 1) zc)))) (zf (yg (Xf (zG (pv 2))) (zf (we (Zv PySem.F.plainAttrs_list PySem.F.slot_list_append PySem.F.type_list_append qv (Gh (τ:=mV) bD (zu (pv 0) J) (jo Jf (pv 2) Za (k9 zh)) (vk zc) ⟨J,J,J,J⟩) (za (pv 1) zc)))) zn))))))))),?_⟩
 obtain⟨RF,⟨dx,hx⟩,GH,cn,bl,bw,bx⟩:=id F;obtain⟨xp,ay,am,al,PA,aw,_,_,co,cl⟩:=id RF;have PL:=BQ i PH;refine⟨λN σ G=>∃x1 x2 n x,σ=[some (.ref a.x),x1,x2]/\bW P w H0 G a (fm (mM i) (wz g) n s) x/\Wv (mM i) (zi (plan i)) (fm (mM i) (wz g) n s)/\(fm (mM i) (wz g) n s).sums.length=i.b.toNat/\NE (fm (mM i) (wz g) n s).wait/\N=Q5 (mM i) (zi (plan i)) (fm (mM i) (wz g) n s),⟨_,none,none,0,W,J,m,WV,bI,b0,J⟩,?_⟩;rintro N σ G ⟨x1,x2,n,x,rfl,m1,l,C,M,rfl⟩;have kn:=k n x G;generalize b7:fm (mM i) (wz g) n s=st at m1 l C M kn⊢;obtain⟨ys,aq,Z⟩:=id m1.rdy;refine⟨a.x,cW,dx,_,_,J,m1.s0 _ _ hx,p.cls,p.n,Vd, !ys.isEmpty,.inl ⟨ys,aI.of aq,J⟩,?_⟩;by_cases c:st.ready=[];rw[c]at Z;cases(show ys=[]from Z);exact yi (kn m1 l C c);obtain⟨r,h,er⟩:∃r h,st.ready=r++[h]:=⟨st.ready.dropLast,st.ready.getLast c,(List.dropLast_concat_getLast c).symm⟩
 rw[er,be]at Z;obtain⟨yr,v,rfl,bB,iv⟩:=IsL.snoc Z;have ba:(!(yr++[v]).isEmpty)=true:=by cases yr<;>rfl
 rw[ba];obtain⟨WT,b1⟩:=l.turn (held:=wz g) PL er;have hk:h∈zi st.done:=l.rdy h (by rw[er];exact d7 _ (ai.mpr J));have hh:=l.sub h hk;have dh:=l.len;have dg:st.done.length<=60:=by
  have q:=sr (mM i) l;have q2:(zi (plan i)).length<=60:=by unfold zi;rw[ae];exact PH.few60
  omega
 have c1:st.wov.length<=1200:=by have q:=l.most;have q2:tot (mM i) (zi (plan i))=Xr i.ss (plan i):=Yd (jh i);have q3:=PH.deeds;have q4:Xr i.ss (plan i)<=1200:=q3;omega
 have cs:r.length+1=st.ready.length:=by rw[er,c7];rfl
 refine ww ⟨λaS G'=>∃x1 x2 aK,aS=[some (.ref a.x),x1,x2]/\bW P w H0 G' a (jn (mM i) (wz g) {st with ready:=r} h) aK,?_,?_⟩;rintro aS G' ⟨bi,bg,aK,rfl,m'⟩;have e:fm (mM i) (wz g) (n+1) s=jn (mM i) (wz g) {st with ready:=r} h:=by show Wb _ _ (fm (mM i) (wz g) n s)=_;rw[b7,AN er]
 refine⟨_,b1,bi,bg,n+1,aK,J,?_⟩;rw[e];exact⟨m',WT,(ID ..).trans C,NE.turn (s:={st with ready:=r}) M,J⟩;refine⟨a.x,cW,dx,_,_,J,m1.s0 _ _ hx,p.cls,p.n,Vd,.inl ⟨J,_,aI.of aq⟩,a.ay,_,v,J,J,aq,by simp,?_⟩;rw[List.dropLast_append_of_ne_nil (by simp),List.dropLast_singleton,cq];have S:=m1.setR bl (l:=r) (vs:=yr) bB;have ah:Is (upd G a.ay (.lst yr)) (hT h) v:=iv.tups (yw.upd aq (λ_ z=>by cases z)) (vp _);generalize upd G a.ay (.lst yr)=G2 at S ah⊢;obtain⟨bh,rfl,b5⟩:=ke ah;refine⟨a.x,cW,dx,_,_,J,S.s0 _ _ hx,p.cls,p.n,Qk,a.xr,ay,_,J,S.s0 _ _ aw,J,H0,a.xr,a.ad,a.as,i,L,st.done,st.sums,h,.ref bh,J,⟨RF,S.s0,⟨.inl S.run.1,S.run.2⟩⟩,hh,hk,PH,ah,λvd t=>?_⟩;refine⟨a.x,cW,dx,_,_,J,S.s0 _ _ hx,p.cls,p.n,Qk,a.xr,cU,ay,_,_,J,S.s0 _ _ aw,CU.cls,CU.n,jq,a.ad,_,J,Yc hk▸DGet.t S.run.1 b5,bO,λp3 G3 s3 cv bL=>?_⟩;have B:=S.same s3;have aa:=ah.mono s3;refine⟨a.x,cW,dx,_,_,J,B.s0 _ _ hx,p.cls,p.n,Fr,a.ah,p3,g,(hZ h,(yb st.done h:Int)),J,J,GH.same B.s0,⟨p3,_,J,bL,IsL.two aa J⟩,_,J,?_⟩;show if wz g h (yb st.done h)=true then _ else _
 by_cases hb:wz g h (yb st.done h)=true;rw[if_pos hb];obtain⟨ps,bc,a5⟩:=id B.stp;have ck:ps.length=st.stop.length:=by have:=a5.length;rw[ae]at this;exact this
 refine⟨a.x,cW,dx,_,_,J,B.s0 _ _ hx,p.cls,p.n,KA,.inl ⟨J,_,aI.of bc⟩,a.ap,ps,_,J,J,bc,Zq (by omega),_,_,x,J,?_⟩;have R:=B.setP bx (l:=st.stop++[h]) (vs:=ps++[.ref bh]) (by rw[be];exact IsL.append a5 (IsL.one aa));have et:jn (mM i) (wz g) {st with ready:=r} h={st with ready:=r,stop:=st.stop++[h]}:=by
  unfold jn;cases cQ (mM i) {st with ready:=r} h with
  |none=>exact if_pos hb
  |some d=>exact if_pos hb
 rw [et];exact R;rw[if_neg hb];refine⟨a.x,cW,dx,_,_,J,B.s0 _ _ hx,p.cls,p.n,Qk,a.xr,ay,_,J,B.s0 _ _ aw,J,H0,a.xr,a.ad,a.as,i,L,st.done,st.sums,h,.ref bh,J,⟨RF,B.s0,⟨.inl B.run.1,B.run.2⟩⟩,hh,hk,PH,C,aa,λG4 s4=>⟨_,J,?_⟩⟩;have R:=B.same s4;have a3:=aa.mono s4;have em:Wx i st.done st.sums h=Zg (mM i) {st with ready:=r} h:=by
  unfold Wx Zg cQ;dsimp only;cases((mM i).scr h)[yb st.done h]? with
  |none=>rfl
  | some d=>dsimp only;have e:(mM i).aw d=m7 d:=rfl;rw[e]<;>cases m7 d<;>rfl
 rw[em];cases hd:cQ (mM i) {st with ready:=r} h with
 | none=>
   have t:vd=.non:=by have q:=t;have e:((mM i).scr h)[yb st.done h]?=none:=hd;rw[e]at q;exact q
   have e2:Zg (mM i) {st with ready:=r} h=false:=by unfold Zg;rw[hd]
   rw[e2,t];refine yi ⟨_,J,yi ⟨_,_,x,J,?_⟩⟩;have et:jn (mM i) (wz g) {st with ready:=r} h={st with ready:=r}:=by unfold jn;rw[hd];exact if_neg hb
   rw[et];exact R
 | some d=>
   have t:Is G2 (eD d) vd:=by have q:=t;have e:((mM i).scr h)[yb st.done h]?=some d:=hd;rw[e]at q;exact q
   by_cases c2:Zg (mM i) {st with ready:=r} h=true;rw[c2];have et:jn (mM i) (wz g) {st with ready:=r} h=Ye (mM i) {st with ready:=r} h d:=by unfold jn;rw[hd];exact(if_neg hb).trans (if_pos c2)
   refine ww ⟨a.x,dx,_,J,R.s0 _ _ hx,J,H0,a,i,L,g,{st with ready:=r},x,h,d,.ref bh,J,F,R,PH,hh,hk,C,a3,hd,l.nd,(by show st.done.length<=999;omega),(by show r.length+ko st.wait<=1000;omega),(by show st.wov.length<=2000;omega),λW5 G5 m5=>⟨_,_,W5,J,?_⟩⟩;rw[et];exact m5;have c3:Zg (mM i) {st with ready:=r} h=false:=by cases e:Zg (mM i) {st with ready:=r} h<;>first|rfl|exact absurd e c2
   rw[c3];refine yi ?_;obtain⟨b,N,rfl⟩:∃b N,d=.awa b N:=by
    cases d with
    |awa b N=>exact⟨b,N,J⟩
    |_=>exact absurd (by unfold Zg;rw[hd];rfl) c2
   have et:jn (mM i) (wz g) {st with ready:=r} h={st with ready:=r,wait:=kh st.wait b.toNat h}:=by unfold jn;rw[hd];exact(if_neg hb).trans (if_neg c2)
   obtain⟨sc,bJ,b3⟩:=X7 (show((mM i).scr h)[yb st.done h]?=some (.awa b N)from hd);obtain⟨b6,dp⟩:=PH.box sc bJ _ b3 b N (.inr J);have b4:((b.toNat:Nat):Int)=b:=Int.toNat_of_nonneg b6;have a6:=(t.mono s3).mono s4;have bM:(!decide (vd=.non))=true:=by obtain⟨c,zs,rfl,_⟩:=t;rfl
   refine⟨_,J,?_⟩;rw[bM];refine ww ?_;have bd:x.length<=60:=by
    have q:=M.len;have q2:x.length=st.wait.length:=by rw[<-R.wl,ae]
    omega
   refine⟨a.x,cW,dx,_,_,J,R.s0 _ _ hx,p.cls,p.n,Kg,a.aw,_,J,R.wai,2,J,_,a6,λv5 G5 s5 i5=>⟨bj _,λe G6 s6 j ap=>?_⟩⟩;rw[show Xs [L2.T.str "await",.int b,.int N] none (some 2)=[.str "await",.int b]from vI _ _ _,<-b4]at i5;obtain⟨g5,x5,rfl,dn,c0⟩:=id i5;have m6:=(R.same s5).same s6;have a2:=(a3.mono s5).mono s6;refine⟨g5,jj x,kA b.toNat,J,m6.wai,i5.mono s6,by unfold jj;rw[ae];exact wc (by omega),λv7 bC=>?_,λa7 o hg=>?_⟩;obtain⟨q,hq,bK,rfl⟩:=pV.1 _ bC;obtain⟨zs,av,a1⟩:=(m6.lst q hq).1;have cc:zs.length<=60:=by
    have e1:=a1.length;rw[ae]at e1;have e2:q.1.2.length<=ko st.wait:=by
     have b9:(st.wait.map (·.1)).Nodup:=by rw[<-m6.wl,bp];exact m6.kd
     have a8:(q.1.1,q.1.2)∈st.wait:=by rw[<-m6.wl];exact List.mem_map_of_mem (f:=λz:(Nat×List (List Nat))×Addr=>z.1) hq
     rw[<-uj b9 a8];exact Kf
    omega
   refine⟨.inl ⟨J,_,aI.of av⟩,q.2,zs,_,J,J,av,wc (by omega),_,_,x.map λz=>if z.1.1=q.1.1 then((z.1.1,z.1.2++[h]),z.2)else z,J,?_⟩;rw[et,<-bK];exact m6.addW hq av a1 a2;have bN:=pV.2 a7;rw[Zu _ a7]at hg;have b8:jj x++[(kA b.toNat,V.ref e)]=jj (x++[((b.toNat,[]),e)]):=by unfold jj;rw[be];rfl
   rw[b8]at hg;have m5:=R.same s5;have U:∀{c:Addr}{i:List (List Nat)},bT G5 c i->e≠c:=λ{c i} ⟨vs,y,_⟩ z=>by rw[z,y]at j;cases j
   have b2:e ∉ a.as::a.ay::a.ao::a.ap::x.map (·.2):=λhm=>by rcases az.mp hm with z|z;rw[z,m5.run.2]at j;cases j;rcases az.mp z with z|z;exact U m5.rdy z;rcases az.mp z with z|z;exact U m5.wov z;rcases az.mp z with z|z;exact U m5.stp z;obtain⟨q,hq,y⟩:=bz.mp z;exact U (m5.lst q hq).1 y.symm
   have ca:H0 e=none:=by
    cases z:H0 e with
    |none=>rfl
    |some u=>rw[m5.s0 _ _ z]at j;cases j
   obtain⟨φ,ew⟩:=m6.wai.some;have bb:upd G6 a.aw o e=some (.lst []):=(upd_ne (λz=>by rw[z,ew]at ap;cases ap)).trans ap;refine⟨.inl ⟨J,_,aI.of bb⟩,e,[],_,J,J,bb,(by decide),_,_,x++[((b.toNat,[h]),e)],J,?_⟩;rw[et];exact m6.newW ap ca bw b2 bN hg a2
end
noncomputable abbrev Wl:Stmt:=bA 55
noncomputable def jV(Z:aB)(held:List ((List Int×Int)×V))(U:List (List Nat×Nat))(B:List Int)(n:Nat):WS (List Nat):=fm (mM Z) (wz held) n (newW U B)
inductive fK(P:Program)(w:World)(cU cP cR:Addr)(vs:List V)(H:Hp)(Q:VK)(e0:XK):Prop|mk:∀(H0:Hp)(xr ad as ah:Addr)(hs:aB)(L:RL)(done:List (List Nat×Nat))(sums:List Int)(held:List ((List Int×Int)×V)),vs=[.ref xr,.ref ah]->bF H0 H cU cP cR hs L xr ad as done sums->bP cN P w H0 ah held->dO hs->Wv (mM hs) (zi (plan hs)) (newW done sums)->sums.length=hs.b.toNat->(∀n ao H',zg H0 H'->H0 ao=none->Va H' ad as (jV hs held done sums n).done (jV hs held done sums n).sums->bT H' ao (jV hs held done sums n).wov->Wv (mM hs) (zi (plan hs)) (jV hs held done sums n)->(jV hs held done sums n).ready=[]->Q (.ref ao) H')->fK P w cU cP cR vs H Q e0
section
variable{K:W.Frag}{cS:Addr}
theorem Jg:aA ["run","held","weaver"] ["run","held"] (ze Wl):=.of
theorem Lb(D:bH K mg "woven_on" Wl)(G:aG K cW cD)(oI:fT P w K mg base "Weaver" cW 1 ["self","run","held"] (lD P w cW cU cP cR))(oW:bR P w K mg base cW "weave" 4 ["self"] (lC P w cW cU cP cR)):Ok P w K mg base "woven_on" 5 ["run","held"] (fK P w cU cP cR):=by
 refine wj D Jg ?_;rintro f av A t s H vs Q E l ⟨H0,M,ad,as,W,h,L,a,c,d,rfl,R,GH,PH,Z,v,k⟩ X;have nd:=Jg.nd;refine⟨_,zb (zr (i:=2) nd (mR oI (l.mono (by decide)) (za (pv 0) (za (pv 1) zc)))) (zb (we (X1 oW G.cls l (pv 2))) (zf (zj (zu (pv 2) J)))),?_⟩
 refine(λx C S z aq=>?_);have p:zg H (upd (upd H C (.own x)) x (.ins cW C [])):=λb o e=>by rw[upd_ne (zm e S),upd_ne (zm e z)];exact e
 have B:a.length<=1000:=by
  have q:=sr (mM h) Z;have q2:(zi (plan h)).length<=60:=by unfold zi;rw[ae];exact PH.few60
  have q3:a.length<=(zi (plan h)).length:=q;omega
 refine⟨H0,x,C,M,ad,as,W,h,L,a,c,d,J,zd,R.s.trans p,y7 R.s S,R.f,⟨p _ _ R.m.1,p _ _ R.m.2⟩,GH,B,λU ay aw ap G0 H2 N F m=>⟨J,?_⟩⟩;obtain⟨RF,⟨i,g⟩,_,u,_⟩:=id F;refine⟨x,i,_,J,m.s0 _ _ g,J,G0,⟨x,M,ad,as,W,U,ay,aw,ap⟩,h,L,d,newW a c,[],J,F,m,PH,Z,v,λr l=>(nomatch l),λn W' H3 j W3 aa y=>?_⟩;refine⟨x,cW,i,_,_,J,j.s0 _ _ g,G.cls,G.n,AW,?_⟩;exact k n U H3 (N.trans j.s0) (y7 N u) j.run j.wov W3 y
end
noncomputable def sF:Stmt:=bA 60
noncomputable abbrev Wm:Stmt:=(wf sF).getD 0 dF
noncomputable abbrev tS:Stmt:=(wf sF).getD 1 dF
noncomputable abbrev qA:Stmt:=(wf sF).getD 2 dF
noncomputable def dQ:List Str:=["run","woven"]
noncomputable def mU(B U:Addr):List (Str×V):=[(("run":Str),.ref B),("woven",.ref U)]
theorem En:(mU xr ao).lookup ("run":Str)=some (.ref xr):=rfl
theorem uv:(mU xr ao).lookup ("woven":Str)=some (.ref ao):=rfl
inductive aX(N:Addr->Prop)(H:Hp)(cS cU:Addr)(x:Addr)(st:WS (List Nat)):Prop|mk:∀dx xr ao dxu xp ad as am al,H x=some (.ins cS dx (mU xr ao))->H xr=some (.ins cU dxu (eZ xp ad as am al))->H ad=some (.dT (yt st.done))->bT H ao st.wov->N x->N xr->N ad->N ao->aX N H cS cU x st
theorem aX.keep{N j:Y->Prop}{cS:Y}{st:WS (O Nat)}(a:aX N H cS cU x st)(d:∀b o,N b->H b=some o->H' b=some o)(t:yw H H')(c:∀b,N b->j b):aX j H' cS cU x st:=by obtain⟨u,k,v,e,l,ad,as,w,y,s,r,q,⟨m,p,n⟩,i,h,g,f⟩:=a;exact⟨u,k,v,e,l,ad,as,w,y,d _ _ i s,d _ _ h r,d _ _ g q,⟨m,d _ _ f p,n.tups t (X4 _)⟩,c _ i,c _ h,c _ g,c _ f⟩
theorem aX.same{N:Y->Prop}{cS:Y}{st:WS (O Nat)}(a:aX N H cS cU x st)(s:zg H H'):aX N H' cS cU x st:=a.keep (λb o _ e=>s b o e) s.tups λ_ n=>n
noncomputable def ym(B:aB)(held:List ((List Int×Int)×V))(n:Nat):WS (List Nat):=jV B held (xi (Z1 (plan B))) (ja B) n
noncomputable def yo(h:List Nat)(p:Nat):List ((List Int×Int)×V):=[((hZ h,(p:Int)),.bl true)]
theorem Vc(a:aB):(ja a).length=a.b.toNat:=dk ..
theorem Xq{a:aB}(W:dO a):Wv (mM a) (zi (plan a)) (newW (xi (Z1 (plan a))) (ja a)):=by
 have e:newW (xi (Z1 (plan a))) (ja a)=nR (Z1 (plan a)) (ja a):=by unfold newW nR;congr 1;unfold zi xi;rw[bp];exact List.map_id _
 rw[e];refine FJ wW yT λh p g b c=>?_
 nomatch b
theorem aJ.keepO{f:aB}{L:RL}(p:aJ H cP cR f L x)(a:∀b o,(∀C d,o≠ .ins C d [])->H b=some o->H' b=some o):aJ H' cP cR f L x:=by obtain⟨c,h,F,E,D,B,A,y⟩:=p;have t:yw H H':=λb M e=>a b _ (λ_ _ z=>by cases z) e;refine⟨c,h,F,a _ _ (λ_ _ z=>by cases z) E,D.tups t (W6 _),a _ _ (λ_ _ z=>by cases z) B,A,λq w=>?_⟩;obtain⟨c,i,g,K,G,ac,r,m,l,k,j,n,v,u,s⟩:=y q w;exact⟨c,i,g,K,G,ac,a _ _ (λ_ _ z=>by cases z) r,m.tups t (Xp _),a _ _ (λ_ _ z=>by cases z) l,a _ _ (λ_ _ z=>by cases z) k,a _ _ (λ_ _ z=>by cases z) j,n,v,u,s⟩
inductive jB(cS cU cP cR:Addr)(vs:List V)(H:Hp)(Q:VK)(e0:XK):Prop|mk:∀(G:Hp)(x dx xp:Addr)(vone:V)(hs:aB)(L:RL)(h:List Nat)(p:Nat),vs=[.ref x,.ref xp,vone]->H x=some (.ins cS dx [])->zg G H->G x=none->aJ G cP cR hs L xp->dO hs->Is H (.tup [hT h,.int (p:Int)]) vone->(∀n H',zg G H'->Wv (mM hs) (zi (plan hs)) (ym hs (yo h p) n)->(ym hs (yo h p) n).ready=[]->aX (λa=>G a=none) H' cS cU x (ym hs (yo h p) n)->Q .non H')->jB cS cU cP cR vs H Q e0
section
variable{K:W.Frag}{cS:Addr}
theorem Lk:aA ["self","plan","one"] ["self","plan","one"] (ze Wm):=.of
theorem La(D:le K mg "Stop" "Stop.__init__" cS Wm)(CS:aG K cS dQ)(oF:Ok P w K mg base "first_run" 4 ["plan"] (fb cU cP cR))(oO:Ok P w K mg base "woven_on" 5 ["run","held"] (fK P w cU cP cR)):fT P w K mg base "Stop" cS 6 ["self","plan","one"] (jB cS cU cP cR):=by
 refine pX (k:=5) D Lk ?_;rintro f bd A a1 s H vs Q E hr ⟨G,x,l,xp,ap,hs,L,h,p,rfl,hx,sG,Gx,PA,PH,iv,k⟩ X;have a6:=qC hr;refine⟨_,zb (qb (pv 0) (yc oF (hr.mono (by decide)) (za (pv 1) zc)) J) (zf (qb (pv 0) (yc oO hr (za (zu (pv 0) J) (za (HX (τ:=cN) a6 (pv 2) wn) zc))) J)),?_⟩;refine⟨xp,hs,L,J,PA.same sG,PH,λa ad as H0 H1 v s1 F RF RM=>?_⟩;obtain⟨aa,aS,am,al,ba,r,N,R,g,C⟩:=id RF;have aK:=s1 _ _ (v _ _ hx);refine⟨x,cS,l,_,J,aK,CS.cls,CS.n,bO,?_⟩;rw[show qr "run" (.ref a) []=[(("run":Str),V.ref a)] by rfl];have c:=v _ _ hx;have av:ad≠x:=λz=>by rw[z,c]at g;cases g
 have a2:as≠x:=λz=>by rw[z,c]at C;cases C
 have B:a≠x:=λz=>by rw[z,hx]at F;cases F
 have g2:upd H1 x (.ins cS l [(("run":Str),V.ref a)]) x=_:=zd;have b2:Bt [x] H1 (upd H1 x (.ins cS l [(("run":Str),V.ref a)])):=Bt.upd (by simp);generalize upd H1 x (.ins cS l [(("run":Str),V.ref a)])=H2 at g2 b2⊢;have aq:zg G H2:=b2.same ((sG.trans v).trans s1) λm d=>by rw[ai.mp d];exact Gx
 have nx:∀{b:Addr},b≠x->b ∉ [x]:=λ{b} z d=>z (ai.mp d);refine⟨x,cS,l,_,_,J,g2,CS.cls,CS.n,J,λah o S hg=>?_⟩;have t2:yw H1 H2:=b2.tups λm d xs e=>by rw[ai.mp d,aK]at e;cases e
 have aw:Is H2 (.tup [hT h,.int (p:Int)]) ap:=((iv.mono v).mono s1).tups t2 ⟨vp _,trivial,trivial⟩;obtain⟨vo,xo,rfl,bb,bc⟩:=id aw;have sa:=zg.new S o;refine⟨vo,(hZ h,(p:Int)),J,aw.mono sa,hg,λo' M=>?_⟩;have t:zg H2 (upd (upd H2 ah o) ah o'):=λb u e=>by rw[upd_ne (zm e S),upd_ne (zm e S)];exact e
 generalize upd (upd H2 ah o) ah o'=H3 at t M⊢;have Z:=t _ _ (b2 _ _ (nx av) RM.1);have U:=t _ _ (b2 _ _ (nx a2) RM.2);have i:∀{b:Addr}{u:HO},H0 b=some u->b ∉ [ad,as]:=λ{b u} e d=>by rcases az.mp d with z|z;rw[z,g]at e;cases e;rw[ai.mp z,C]at e;cases e
 have tw:yw H3 (without [ad,as] H3):=λb xs e=>by rw[ye];exact e;intro d;rcases az.mp d with z|z;rw[z,Z]at e;cases e;rw[ai.mp z,U]at e;cases e
 have a5:ah ∉ [ad,as]:=λd=>by obtain⟨φ,e⟩:=M.some;rcases az.mp d with z|z;rw[z,Z]at e;cases e;rw[ai.mp z,U]at e;cases e
 have kp:∀b u,b≠x->H0 b=some u->without [ad,as] H3 b=some u:=λb u z e=>by rw[ye (i e)];exact t _ _ (b2 _ _ (nx z) (s1 _ _ e))
 have xw:without [ad,as] H3 x=some (.ins cS l [(("run":Str),V.ref a)]):=by rw[ye (i c)];exact t _ _ g2
 have a8:dA (without [ad,as] H3) cU cP cR hs L a ad as:=⟨aa,aS,am,al,ba.keepO (λb u z e=>kp b u (λy=>by rw[y,c]at e;exact z _ _ (Option.some.inj e).symm) e),kp _ _ B r,kp _ _ (λy=>by rw[y,c]at N;cases N) N,kp _ _ (λy=>by rw[y,c]at R;cases R) R,yf (by simp),yf (by simp)⟩
 refine⟨without [ad,as] H3,a,ad,as,ah,hs,L,_,_,yo h p,J,⟨a8,y9,Z,U⟩,M.by tw (ye a5),PH,Xq PH,Vc hs,λn W H4 s4 j rm l4 WV a7=>?_⟩;have ay:=s4 _ _ xw;refine⟨x,cS,l,_,J,ay,CS.cls,CS.n,bO,?_⟩;rw[show qr "woven" (.ref W) [(("run":Str),V.ref a)]=mU a W by rw[xa (by decide)];rfl];have a3:W≠x:=λz=>by rw[z,xw]at j;cases j
 have t5:yw H4 (upd H4 x (.ins cS l (mU a W))):=yw.upd ay (λ_ z=>by cases z);refine k n _ (λb u e=>?_) WV a7 ⟨l,a,W,aS,aa,ad,as,am,al,zd,?_,(upd_ne av).trans rm.1,l4.keep (upd_ne a3) t5,Gx,y7 sG F,y7 (sG.trans v) g,?_⟩;rw[upd_ne (λz=>by rw[z,Gx]at e;cases e)];refine s4 _ _ ?_;rw[ye (i (v _ _ (sG _ _ e)))];exact t _ _ (aq _ _ e);rw[upd_ne B];exact s4 _ _ (kp _ _ B r);show G W=none;cases z:G W with|none=>rfl| some u=>have q:=aq _ _ z;have q2:=v _ _ (sG _ _ z);rw[ye (i q2),t _ _ q]at j;cases j
theorem GD:aA ["self","other"] ["self","other"] (ze tS):=.of
inductive jF(cS cU:Addr)(vs:List V)(H:Hp)(Q:VK)(e0:XK):Prop|mk:∀(x:Addr)(st:WS (List Nat))(h:List Nat)(p:Nat)(vn:V),vs=[.ref x,vn]->aX (λ_=>True) H cS cU x st->Is H (.tup [hT h,.int (p:Int)]) vn->Q (.bl (!decide (p<yb st.done h))) H->jF cS cU vs H Q e0
theorem F5(D:q8 K cS "lacks" "Stop.lacks" tS)(e:aG K cS dQ)(v:aG K cU bV)(j:bR P w K mg base cU "has_done" 1 ["self","name"] (jG cU)):bR P w K mg base cS "lacks" 2 ["self","other"] (jF cS cU):=by refine Zf D GD ?_;rintro f r A b s H y Q E m ⟨x,st,h,p,i,rfl,⟨q,c,B,a,g,ad,as,t,u,o,d,n,z,_⟩,l,k⟩ X;refine⟨_,zf (zj (xK (qc j v.cls m (zu (pv 0) J) (za (pv 1) zc)))),?_⟩;exact⟨x,cS,q,_,_,J,o,e.cls,e.n,En,c,a,_,J,d,J,c,a,g,ad,as,t,u,st.done,h,p,i,J,d,n,l,_,J,k⟩
noncomputable def Xn(h:List Nat)(l:List (List Nat)):Nat->List Nat|0=>[]|i+1=>Xn h l i++if l[i]?=some h then[i]else[]
theorem V6(h:List Nat)(l:List (List Nat)):∀i,(Xn h l i).length=(l.take i).count h
 |0=>rfl
 | i+1=>by
   show(Xn h l i++if l[i]?=some h then[i]else[]).length=_;rw[c7,V6 h l i,cu,List.count_append]
   grind
theorem yZ{h:List Nat}{l:List (List Nat)}:∀{i p j:Nat},(Xn h l i)[p]?=some j->l[j]?=some h/\(l.take j).count h=p
 |0,p,j,e=>by cases e
 | i+1,p,j,e=>by
   have a:(Xn h l i++if l[i]?=some h then[i]else[])[p]?=some j:=e;by_cases c:p<(Xn h l i).length;rw[List.getElem?_append_left c]at a;exact yZ a;rw[List.getElem?_append_right (by omega)]at a;by_cases z:l[i]?=some h;rw[if_pos z]at a;have q:=(cp.mp a).1;have b:p-(Xn h l i).length=0:=by simp_all
   rw[b]at a;cases a;refine⟨z,?_⟩;rw[<-V6];omega
   simp_all
theorem CD(a b:O Nat):id (PyData.eqv (aO (hT a)) (aO (hT b)))=decide (a=b):=by
 show PyData.eqv (aO (tI (hZ a))) (aO (tI (hZ b)))=_;rw[rZ];by_cases c:a=b
 simp_all
 rw[c6 c,c6 (λz=>c (qo z))]
theorem rL{a:Type}(l:O a)(j:Nat):Xs l none (some ((j:Nat):Int))=l.take j:=by unfold Xs;rw[HT.qM,HT.nV];simp
theorem zP:aA ["self","other","places"] ["self","other"] (ze qA):=.of
inductive lE(cS cU:Addr)(vs:List V)(H:Hp)(Q:VK)(e0:XK):Prop|mk:∀(x:Addr)(st:WS (List Nat))(h:List Nat)(p:Nat)(vn:V),vs=[.ref x,vn]->aX (λ_=>True) H cS cU x st->Is H (.tup [hT h,.int (p:Int)]) vn->p<st.wov.count h->st.wov.length<=2000->(∀l H' (j:Nat),zg H H'->st.wov[j]?=some h->(st.wov.take j).count h=p->Is H' (.lst ((st.wov.take (j+1)).map hT)) (.ref l)->Q (.ref l) H')->lE cS cU vs H Q e0
theorem ET(D:q8 K cS "up_to" "Stop.up_to" qA)(T:Txt K mg)(F:aG K cS dQ):bR P w K mg base cS "up_to" 1 ["self","other"] (lE cS cU):=by
 refine Zf D zP ?_;rintro f av A G s H vs Q E hr ⟨x,st,h,p,vn,rfl,⟨dx,xr,ao,aq,xp,ad,as,am,al,h1,h2,h3,⟨os,m,d⟩,_⟩,iv,hp,ah,k⟩ X;have nd:=zP.nd;refine⟨_,zb (Jj (i:=2) (own:=["place","hand"]) (cap:=[1]) (g:=fe K 2 (bY (km 0) (bY (km 1) mJ))) J (yv (ze qA) J J (by decide+kernel) (by decide+kernel) (by decide+kernel) ⟨⟨_,J,.inl J,vm J⟩,trivial⟩)
   (Au J T.enumerate (za (zu (pv 0) J) zc))
   (λ_ _ _ _=>jw J (yn (zk (by show(["place","hand","other"]:List Str).Nodup;decide+kernel) J (Or.inl J)) (yn (zk (by show(["place","hand","other"]:List Str).Nodup;decide+kernel) J (Or.inl J)) ql)))
   (λ_ _ _ _=>js (zo (V2 (by exact hr.units)) (pv 1) (zt (r:=cL K) zp (pv 2) zh (λ_ _=>rfl)) (zx _)))
   (λ_ _ _ _=>pv 0) nd J J (by with_unfolding_all rfl))
  (zf (zj (jo wG (zu (pv 0) J) Za (k9 (yk wr (zt Zb (pv 2) (zt zp (pv 1) zh)) zh))))),?_⟩
 obtain⟨a5,aa,rfl,v,S⟩:=id iv;obtain⟨v1,rr,rfl,M,v2,r2,rfl,L,N⟩:=S;cases(N);cases(L);have r:=d.length;rw[ae]at r;refine⟨x,cS,dx,_,_,J,h1,F.cls,F.n,uv,ao,os,J,m,?_⟩;refine FR (λi B b=>zg H b/\B=(Xn h st.wov i).map λ(j:Nat)=>V.int j) ⟨zg.refl H,J⟩ (λi B b hi ⟨n,e⟩=>⟨n _ _ m,?_⟩) ?_ ?_;rw[e,ae,V6];have q:=List.count_le_length (a:=h) (l:=st.wov.take i);have q2:=List.length_take_le i st.wov;exact Nat.le_of_lt (Zq (by omega));rintro i z B b q hz ⟨n,rfl⟩ hq;have U:=zg.new hq (.tup [.int i,z]);have o:upd b q (.tup [.int i,z]) q=some (.tup [.int i,z]):=zd;generalize upd b q (.tup [.int i,z])=H3 at U o⊢;have a:=n.trans U;obtain⟨t,y,it⟩:=d.get' hz;rw[aj]at y;cases C:st.wov[i]? with|none=>rw[C]at y;cases y| some g=>rw[C]at y;cases y;refine⟨q,_,J,aE.of o,J,_,_,J,_,_,J,J,?_⟩;refine⟨a5,_,_,_,J,J,aE.of (a _ _ v),J,hT g,hT h,it.mono a,M.mono a,Wy _,Wy _,FU _,_,J,?_⟩;rw[CD];by_cases c:g=h;rw[bn c];refine ww ⟨a,?_⟩;show _=(Xn h st.wov i++if st.wov[i]?=some h then[i]else[]).map _;rw[C,c,if_pos J,be];rfl;rw[c6 c];refine yi ⟨a,?_⟩;show _=(Xn h st.wov i++if st.wov[i]?=some h then[i]else[]).map _;rw[C,if_neg (λz=>c (Option.some.inj z)),cq]
 rintro B b ⟨n,rfl⟩ l hl;have W:=zg.new hl (.lst ((Xn h st.wov os.length).map λ(j:Nat)=>V.int j));have u:upd b l (.lst ((Xn h st.wov os.length).map λ(j:Nat)=>V.int j)) l=_:=zd;generalize upd b l (.lst ((Xn h st.wov os.length).map λ(j:Nat)=>V.int (j:Int)))=H5 at W u⊢;have a:=n.trans W;have R:p<(Xn h st.wov os.length).length:=by rw[V6,r,cw];exact hp
 have ej:=bo R;obtain⟨e1,e2⟩:=yZ ej;refine⟨x,cS,dx,_,_,J,a _ _ h1,F.cls,F.n,uv,a5,_,_,_,J,J,aE.of (a _ _ v),J,l,_,_,_,J,J,aI.of u,xt (by rw[aj,ej];rfl),_,_,J,J,_,J,st.wov.map hT,⟨ao,os,J,a _ _ m,d.mono a⟩,λl2 H6 s6 ap Z=>?_⟩;have ec:Xs (st.wov.map hT) none (some (((Xn h st.wov os.length)[p]:Int)+1))=(st.wov.take ((Xn h st.wov os.length)[p]+1)).map hT:=(rL (st.wov.map hT) ((Xn h st.wov os.length)[p]+1)).trans (List.map_take ..).symm;rw[ec]at Z;exact k l2 H6 _ (a.trans s6) e1 e2 Z
end
end My
namespace L2
open PySem PySem.Spec PyProof.Rows
noncomputable def sT(xs:List Str):List T:=xs.map T.str
theorem Ql:∀xs:List Str,qh (sT xs)=xs.map PyData.str|[]=>by rfl| n::r=>by show qh (T.str n::sT r)=_;unfold qh;rw[Ql r];rfl
theorem AG:∀xs:List Str,(∀x∈xs,PyData.strOk x=true)->PyData.canLayAll0 (qh (sT xs))=true|[],_=>rfl| n::r,h=>by show PyData.canLayAll0 (qh (T.str n::sT r))=true;unfold qh aO PyData.canLayAll0;rw[AG r λx a=>h x (bv _ a)];simp[PyData.canLay0,h n c5]
theorem BN:∀xs:List Str,PyData.depthAll (qh (sT xs))=0|[]=>rfl| n::r=>by show PyData.depthAll (qh (T.str n::sT r))=0;unfold qh aO PyData.depthAll;rw[BN r];rfl
theorem FH:∀ns c:List Str,PyData.eqvAll (qh (sT ns)) (qh (sT c))=decide (ns=c):=λns c=>by
 rw[Ql,Ql];induction ns generalizing c with|nil=>cases c<;>rfl| cons a r d=>
   cases c with|nil=>rfl| cons b q=>
     simp only[cb,PyData.eqvAll,PyData.eqv,d q]
     grind
theorem IsL.strs{H:Hp}:∀{ns:List Str}{xs:List V},IsL H (sT ns) xs↔xs=ns.map V.str|[],xs=>Iff.rfl| n::r,xs=>by constructor;rintro⟨v,c,rfl,b,a⟩;rw[IsL.strs.mp a,(b)];rfl;rintro rfl;exact⟨_,_,J,J,IsL.strs.mpr J⟩
theorem AF(ns:O Str)(h:∀x∈ns,PyData.strOk x=true):(aO (.lst (sT ns))).canLay0=true:=by unfold aO PyData.canLay0;exact AG ns h
theorem IH(ns:O Str):(aO (.lst (sT ns))).depth<=20:=by unfold aO PyData.depth;rw[BN];decide
theorem FG(ns a:O Str):PyData.eqv (aO (.lst (sT ns))) (aO (.lst (sT a)))=decide (ns=a):=by unfold aO PyData.eqv;exact FH ns a
end L2
namespace My
open PySem PySem.Spec PyProof.Rows L2
variable{cP cR cU l p:Addr}{base:Heap}{H H0 H1:Hp}{ws:List Addr}{g:List Int}{ys:List V}{i q:Nat}{P:Program}{kd x:Str}{mg:Str->Option Value}{v:V}{w:World}
noncomputable abbrev Zm:Stmt:=bA 67
structure mC(mg:Str->Option Value):Prop where
 MEET:∃t,mg "MOST_MEETERS"=some (.int 16 t)
 PHAS:∃t,mg "MOST_PHASES"=some (.int 4 t)
noncomputable def eT(p:Nat):List Str:=(List.replicate p [("come":Str),"go"]).flatten
noncomputable def Ve(n p:Nat)(h:List Nat):List Str:=match h with|[k]=>if k<n then eT p else[]|_=>[]
noncomputable def pW(B:aB)(n p:Nat):Bool:=((List.range n).all λk=>decide ([k]∈zi (plan B))) && (zi (plan B)).all λh=>decide (Zh ((mM B).scr h)=Ve n p h)
noncomputable def Y1(B:aB)(n p:Int):Bool:=(decide (1<=n) && decide (n<=16)) && ((decide (0<=p) && decide (p<=4)) && pW B n.toNat p.toNat)
theorem Lf{L:RL}(h:List Nat):(yz (yj L) (kI (hZ h))).isSome=decide (h∈y8 L):=by
 induction L with|nil=>rfl| cons q r a=>
   show(yz ((kI (hZ q.1.1),V.ref q.2)::yj r) _).isSome=decide (h∈q.1.1::y8 r);by_cases e:q.1.1=h;rw[wg (by rw[e]),e,bn c5];rfl;rw[xu (λz=>e (qo (aT z))),a]
   grind
noncomputable def Y5(B:List Addr):List (List Int×V):=B.zipIdx.map λq=>([(q.2:Int)],.ref q.1)
theorem JZ(b:O Y)(a:Y):Y5 (b++[a])=Y5 b++[([(b.length:Int)],.ref a)]:=by
 unfold Y5
 grind
theorem AQ:(Y5 ws)[i]?=(ws[i]?).map λa=>([(i:Int)],V.ref a):=by
 unfold Y5
 grind
noncomputable def kj(B:List Addr):List (List aM×V):=(Y5 B).map λr=>(kI r.1,r.2)
theorem Kh:(kj ws)[i]?=(ws[i]?).map λa=>(kI (hZ [i]),V.ref a):=by unfold kj;rw[aj,AQ];cases ws[i]?<;>rfl
theorem BG(a:O Y):(kj a).length=a.length:=by unfold kj Y5;simp
theorem AR(d:O Y):((Y5 d).map λr=>kI r.1).Nodup:=by
 have e:((Y5 d).map λr=>kI r.1)=(List.range d.length).map λi=>kI (hZ [i]):=by
  refine List.ext_getElem? λi=>?_;rw[aj,AQ,aj];by_cases c:i<d.length;rw[bo c,List.getElem?_range c];rfl
  simp_all
 rw[e];refine List.Pairwise.map _ (λa b f z=>f ?_) List.nodup_range;have q:=qo (aT z)
 simp_all
theorem Gm(a:O Y):iN (Y5 a) []=kj a:=by rw[su];rfl;exact AR a
theorem yR{b:Type}[DecidableEq b]:∀{l:List (b×V)}{i:Nat}{k:b}{v:V},(l.map (·.1)).Nodup->l[i]?=some (k,v)->yz l k=some v|[],i,k,v,_,e=>by cases e|p::r,0,k,v,_,e=>by cases e;exact wg J| p::r,i+1,k,v,c,e=>by have a:=c9.mp c;rw[List.getElem?_cons_succ]at e;rw[xu (λz=>a.1 (by grind))];exact yR a.2 e
theorem Hz(b:List Addr)(h:List Nat):yz (kj b) (kI (hZ h))=match h with
  |[k]=>(b[k]?).map V.ref
  |_=>none:=by
 have g:((kj b).map (·.1)).Nodup:=by unfold kj;rw[bp];exact AR b
 have c:(∀k,h=[k]->b[k]?=none)->yz (kj b) (kI (hZ h))=none:=λn=>by
  cases e:yz (kj b) (kI (hZ h))with
  |none=>rfl
  | some v=>
    obtain⟨q,l,m⟩:=bz.mp (Vf e);obtain⟨i,f⟩:=List.mem_iff_getElem?.mp l;rw[Kh]at f;cases d:b[i]? with
    |none=>simp_all
    | some a=>
      rw[d]at f;cases f;have:=qo (aT m)
      simp_all
 match h,c with
 | [k],no=>
   show yz (kj b) (kI (hZ [k]))=(b[k]?).map V.ref;cases d:b[k]? with
   |none=>exact no λj e=>by cases e;exact d
   |some a=>exact yR g (by rw[Kh,d];rfl)
 |[],no=>exact no λk e=>by cases e
 |_::_::_,no=>exact no λk e=>by cases e
theorem Fx{e:aB}(W:dO e)(h:List Nat):∀x∈Zh ((mM e).scr h),PyData.strOk x=true:=λx g=>by obtain⟨d,k,a⟩:=List.mem_filterMap.mp g;obtain⟨i,j⟩:=List.mem_iff_getElem?.mp k;obtain⟨f,b,c⟩:=X7 j;cases d with| say y=>cases a;exact W.says f b _ c|_=>cases a
theorem Ds(p:Nat):∀x∈eT p,PyData.strOk x=true:=λx b=>by unfold eT at b;obtain⟨l,c,a⟩:=List.mem_flatten.mp b;rw[List.eq_of_mem_replicate c]at a;rcases az.mp a with e|e;rw[e];decide+kernel;rw[ai.mp e];decide+kernel
theorem Cu(p:Nat):(List.replicate p [V.str "come",V.str "go"]).flatten=(eT p).map V.str:=by unfold eT;simp
inductive l7(cP cR:Addr)(vs:List V)(H:Hp)(Q:VK)(e0:XK):Prop|mk:∀(x:Addr)(hs:aB)(L:RL)(n p:Int),vs=[.ref x,.int n,.int p]->aJ H cP cR hs L x->dO hs->Y1 hs n p=true->(∀H',zg H H'->Q (.bl true) H')->l7 cP cR vs H Q e0
section
variable{K:W.Frag}
theorem Ks:aA ["plan","n","p","wanted"] ["plan","n","p"] (ze Zm):=.of
theorem JS(D:bH K mg "is_made" Zm)(T:Txt K mg)(TM:mC mg)(CP:aG K cP aZ)(CR:aG K cR aR)(oW:Ok P w K mg base "is_within" 2 ["thing","least","most"] (spT mB))(oS:Ok P w K mg base "said_in" 1 ["deeds"] jA):Ok P w K mg base "is_made" 3 ["plan","n","p"] (l7 cP cR):=by
 refine wj (k:=2) D Ks ?_;rintro f cl A bC s H vs Q E hr ⟨x,m,L,n,p,rfl,PA,PH,im,k⟩ X;have hu:=jk hr;have bE:=sk hr;have nd:=Ks.nd;refine⟨_,zb (yg (PW.pt (Zt (xb (y6 (yc oW hr (za (pv 1) (za zh (za (xl TM.MEET) zc)))))) (j3 (xb (y6 (yc oW hr (za (pv 2) (za zh (za (xl TM.PHAS) zc))))))))) (zf (zj wn)) zn) (zb (zr (i:=3) nd (w9 (Bu J bE) J T.dict Qi (za (qj (own:=["number"]) (cap:=[2]) J (yv (ze Zm) J J (by decide+kernel) (by decide+kernel) (by decide+kernel) ⟨⟨_,J,.inl J,vm J⟩,trivial⟩) (wm J T.range (za (pv 1) zc)) (λ_ _ _ _=>zk (i:=0) (by show(["number","p"]:List Str).Nodup;decide+kernel)) (λ_ _ _ _=>wb) (λ_ _ _ _=>y0 (za (y0 (za (pv 0) zc)) (za (yk xI (vk (za zy (za zy zc))) (pv 1)) zc)))) zc)))
  (zb (yg (xb (y6 (Q1 (yd (je J) J T.all Z0 (za (qj (own:=["hand"]) (cap:=[0]) J (yv (ze Zm) J J (by decide+kernel) (by decide+kernel) (by decide+kernel) ⟨⟨_,J,.inl J,vm J⟩,trivial⟩) (Vw (pv 3)) (λ_ _ _ _=>zk (i:=0) (by show(["hand","plan"]:List Str).Nodup;decide+kernel)) (λ_ _ _ _=>wb) (λ_ _ _ _=>sL (t:=vN (Jq 0) (ln K (Jq 1) "roles")) (DX hu (pv 0) (zu (pv 1) J)))) zc))))) (zf (zj wn)) zn)
  (zf (zj (Q1 (yd (je J) J T.all Z0 (za (qj (own:=["hand","role"]) (cap:=[3]) (g:=fe K 2 (bY (km 0) (bY (km 1) mJ))) J (yv (ze Zm) J J (by decide+kernel) (by decide+kernel) (by decide+kernel) ⟨⟨_,J,.inl J,vm J⟩,trivial⟩) (Yh (zu (pv 0) J)) (λ_ _ _ _=>jw J (yn (zk (i:=0) (by show(["hand","role","wanted"]:List Str).Nodup;decide+kernel)) (yn (zk (i:=1) (by show(["hand","role","wanted"]:List Str).Nodup;decide+kernel)) ql)))
   (λ_ _ _ _=>wb) (λ_ _ _ _=>qg (V2 (by exact hr.units)) (ta:=rW jA [] E0 (Kk (ln K (Jq 1) "script") lr)) (yc oS (hr.mono (by decide)) (za (zu (pv 1) J) zc)) (V1 hu (pv 2) (pv 0) (vk zc) ⟨J,J,J,J⟩) (zx _))) zc))))))),?_⟩
 obtain⟨dp,vh,U,hp,ih,R,aq,bI⟩:=id PA;unfold Y1 at im;simp only[cg,decide_eq_true_eq]at im;obtain⟨c1,c2,im⟩:=im;refine⟨⟨n,1,16,J,c1.1,c1.2⟩,λH1 s1=>⟨_,J,yi ⟨⟨p,0,4,J,c2.1,c2.2⟩,λH2 s2=>⟨_,J,yi ?_⟩⟩⟩⟩;have bb:=s1.trans s2;have k:∀r,zg H r->Q (.bl (pW m n.toNat p.toNat)) r:=λr s'=>by rw[im];exact k r s'
 refine⟨n,J,(by omega),(by omega),?_⟩;refine j7 (n:=n.toNat) (λi B r=>zg H2 r/\∃bs j:List Addr,B=bs.map V.ref/\j.length=i/\Paired (dJ r) bs (Y5 j)/\∀a∈j,r a=some (.lst ((eT p.toNat).map V.str))) ⟨zg.refl _,[],[],J,J,.nil,λa ha=>nomatch ha⟩ (λi B r hi ⟨_,bs,j,e,el,bN,_⟩=>?_) ?_ ?_;have q:=Paired.length bN;rw[e,ae,q];unfold Y5;rw[ae,List.length_zipIdx,el];exact Nat.le_of_lt (wc (by omega));rintro i B H3 hi ⟨s3,bs,j,rfl,el,aa,Z⟩;refine W4 ?_;refine⟨bO,λkb H4 s4 ck b5=>⟨bO,λl5 H5 s5 a5 b2=>⟨l5,p,_,J,J,b2,(by omega),(by omega),(by show 2*p.toNat<=sizeLine;exact Nat.le_of_lt (wc (by omega))),λa6 h6=>⟨bO,λb7 H7 s7 b1 v=>?_⟩⟩⟩⟩;rw[Cu]at s7 b1;have W:=zg.new h6 (.lst ((eT p.toNat).map V.str));have aS:=((s4.trans s5).trans W).trans s7;have b6:H7 a6=some (.lst ((eT p.toNat).map V.str)):=s7 _ _ zd;refine⟨s3.trans aS,bs++[b7],j++[a6],by rw[be];rfl,by rw[c7,el];rfl,?_,λa ha=>?_⟩;rw[JZ];refine Paired.snoc (Vv aa aS) ⟨kb,v,?_⟩;have q:=s7 _ _ (W _ _ (s5 _ _ b5));rw[q,el];show some (HO.tup [V.int (0+(i:Int))])=some (.tup [V.int (i:Int)]);rw[di];rcases c4.mp ha with z|z;exact aS _ _ (Z a z);rw[ai.mp z];exact b6;rintro B H3 ⟨s3,bs,j,rfl,el,aa,Z⟩ l hl;have sl:=zg.new hl (.lst (bs.map V.ref));refine⟨l,bs,_,J,zd,Vv aa sl,λd H5 s5 a5 ap=>?_⟩;rw[Gm]at ap;have ba:=(s3.trans sl).trans s5;have aK:∀a∈j,H5 a=some (.lst ((eT p.toNat).map V.str)):=λa ha=>s5 _ _ (sl _ _ (Z a ha));have bd:=bb.trans ba;have Hd:H d=none:=y7 (bb.trans (s3.trans sl)) a5;clear aa Z s5 sl ba a5;refine⟨d,_,ap,trivial,λo=>?_⟩;have ah:upd H5 d (.frz o (.dT (kj j))) d=_:=zd;have sf:zg H (upd H5 d (.frz o (.dT (kj j)))):=λb u e=>by rw[upd_ne (zm e Hd)];exact bd b u e
 have S:∀{G:Hp},zg (upd H5 d (.frz o (.dT (kj j)))) G->zg H5 (upd G d (.dT (kj j))):=λ{G} s b u e=>by by_cases z:b=d;rw[z]at e⊢;rw[zd,<-e,ap];rw[upd_ne z];exact s _ _ (by rw[upd_ne z];exact e)
 generalize upd H5 d (.frz o (.dT (kj j)))=Hf at ah sf S⊢;refine⟨d,o,_,J,ah,?_⟩;refine uq (kvs:=kj j) (λi B r=>zg Hf r/\B=(List.range i).map λk=>V.bl (decide ([k]∈zi (plan m)))) ⟨zg.refl _,J⟩ (λi B r hi ⟨W,e⟩=>⟨W _ _ ah,by rw[e,ae,cz];rw[BG]at hi;exact Nat.le_of_lt (wc (by omega))⟩) ?_ ?_
 . rintro i kv B H6 b g hb ⟨W,rfl⟩;rw[Kh]at g;cases ea:j[i]? with|none=>rw[ea]at g;cases g|some aw=>rw[ea]at g;cases g;have bc:=sf.trans W;refine W4 ?_;refine⟨x,cP,dp,_,_,J,bc _ _ hp,CP.cls,CP.n,vj,U,_,J,DGet.t (bc _ _ R) hb,W,?_⟩;rw[Lf,kx aq,List.range_succ,be];rfl
 rintro B H6 ⟨W,rfl⟩ l2 b4;rw[BG,el];have s7:=zg.new b4 (.lst ((List.range n.toNat).map λk=>V.bl (decide ([k]∈zi (plan m)))));refine⟨l2,(List.range n.toNat).map λk=>decide ([k]∈zi (plan m)),J,aI.of (by rw[zd,bp];rfl),(W.trans s7) _ _ ah,_,J,?_⟩;have v:=S (W.trans s7);generalize upd (upd H6 l2 (.lst ((List.range n.toNat).map λk=>V.bl (decide ([k]∈zi (plan m)))))) d (.dT (kj j))=H8 at v⊢;have e8:(((List.range n.toNat).map λk=>decide ([k]∈zi (plan m))).all id)=(List.range n.toNat).all λk=>decide ([k]∈zi (plan m)):=by rw[List.all_map];rfl
 rw[e8];have M:=bd.trans v;unfold pW at k;cases c3:(List.range n.toNat).all λk=>decide ([k]∈zi (plan m))with|false=>rw[c3]at k;exact ww (k H8 M)|true=>
 rw[c3,Bool.true_and]at k;refine yi ?_;have F:=M _ _ R;refine⟨U,_,F,trivial,λo2=>?_⟩;have C:upd H8 U (.frz o2 (.dT (yj L))) U=some (.frz o2 (.dT (yj L))):=zd;have k1:∀{b:Addr}{u:HO},b≠U->H8 b=some u->upd H8 U (.frz o2 (.dT (yj L))) b=some u:=λ{b u} z e=>by rw[upd_ne z];exact e
 have Yo:∀{G:Hp},zg (upd H8 U (.frz o2 (.dT (yj L)))) G->zg H8 (upd G U (.dT (yj L))):=λ{G} s b u e=>by by_cases z:b=U;rw[z]at e⊢;rw[zd,<-e,F];rw[upd_ne z];exact s _ _ (k1 z e)
 generalize upd H8 U (.frz o2 (.dT (yj L)))=Hg at C k1 Yo⊢;have bM:=k1 (λz=>by rw[z,R]at hp;cases hp) (M _ _ hp);have bw:=k1 (λz=>by rw[z,R]at Hd;cases Hd) (v _ _ ap);have tg:yw H8 Hg:=λc zs e=>k1 (λz=>by rw[z,F]at e;cases e) e;have bD:∀a∈j,Hg a=some (.lst ((eT p.toNat).map V.str)):=λa ha=>k1 (λz=>by rw[z]at ha;have q:=v _ _ (aK _ ha);rw[F]at q;cases q) (v _ _ (aK a ha));have cc:L.length<=1000:=by have q:=PH.few;have e:=congrArg List.length aq;rw[ae]at e;show _;rw[e];exact q
 refine⟨x,cP,dp,_,_,J,bM,CP.cls,CP.n,vj,U,o2,_,J,C,?_⟩;refine uo (kvs:=yj L) (λi B r=>zg Hg r/\B=(y8 (L.take i)).map λh=>V.bl (decide (Zh ((mM m).scr h)=Ve n.toNat p.toNat h))) ⟨zg.refl _,J⟩ (λi B r hi ⟨s9,e⟩=>⟨s9 _ _ C,?_⟩) ?_ ?_;rw[e,ae];unfold y8;rw[ae,cx];exact Nat.le_of_lt (wc (by omega));rintro i kv B r g ⟨s9,rfl⟩ pp b bL hb;obtain⟨q,hq,rfl⟩:∃q,L[i]?=some q/\(kI (hZ q.1.1),V.ref q.2)=kv:=by unfold yj at g;rw[aj]at g;cases e:L[i]? with|none=>rw[e]at g;cases g|some z=>rw[e]at g;exact⟨z,J,Option.some.inj g⟩
 have bh:q∈L:=br hq;obtain⟨b9,vc,vs,ab,an,ac,r1,r2,_⟩:=bI q bh;have bJ:=s9 _ _ (k1 (λz=>by rw[z,R]at r1;cases r1) (M _ _ r1));have sp:=zg.new bL (.tup [.ref b,.ref q.2]);have bi:upd r pp (.tup [.ref b,.ref q.2]) pp=some (.tup [.ref b,.ref q.2]):=zd;have bx:=sp _ _ hb;generalize upd r pp (.tup [.ref b,.ref q.2])=cn at sp bi bx⊢;have a2:=s9.trans sp;have bg:=((r2.mono M).tups tg (Xp _)).mono a2;have bK:q.1∈plan m:=by rw[<-aq];exact List.mem_map_of_mem (f:=λz:(List Nat×Nat)×Addr=>z.1) bh
 rw[<-Kp bK]at bg;have ek:y8 (L.take (i+1))=y8 (L.take i)++[q.1.1]:=by unfold y8;rw[cu,hq,be];rfl
 rw[ek,be];refine⟨pp,_,J,aE.of bi,J,_,_,J,_,_,J,J,?_⟩;refine BV ?_;refine⟨q.2,cR,b9,_,_,J,sp _ _ bJ,CR.cls,CR.n,qi,vs,(mM m).scr q.1.1,J,bg,zQ PH.nw _,λl3 co a1 ca bk=>?_⟩;refine⟨d,J,.inr ⟨_,.inl ((a2.trans a1) _ _ bw)⟩,bj _,λav ay N b0 bl=>?_⟩;have t:=(a2.trans a1).trans N;refine⟨_,DGet.t (t _ _ bw) (N _ _ (a1 _ _ bx)),?_⟩;rw[Hz];have iL:Is ay (.lst (sT (Zh ((mM m).scr q.1.1)))) (.ref l3):=⟨l3,_,J,N _ _ bk,IsL.strs.mpr J⟩
 obtain⟨vw,b8,iw⟩:∃vw,((match q.1.1 with|[k]=>(j[k]?).map V.ref|_=>none:Option V).getD (.ref av))=vw/\Is ay (.lst (sT (Ve n.toNat p.toNat q.1.1))) vw:=by
  have a7:Is ay (.lst (sT [])) (.ref av):=⟨av,_,J,bl,J⟩
  generalize q.1.1=a3
  match a3 with| [kk]=>refine⟨_,J,?_⟩;show Is ay (.lst (sT (if kk<n.toNat then eT p.toNat else[]))) (((j[kk]?).map V.ref).getD (.ref av));by_cases c:kk<n.toNat;rw[if_pos c];have ea:=bo (show kk<j.length by omega);rw[ea];exact⟨j[kk],_,J,t _ _ (bD _ (List.getElem_mem _)),IsL.strs.mpr J⟩;rw[if_neg c,dq (by omega)];exact a7|[]=>exact⟨_,J,a7⟩|_::_::_=>exact⟨_,J,a7⟩
 rw [b8];have bB:∀y∈Ve n.toNat p.toNat q.1.1,PyData.strOk y=true:=by
  generalize q.1.1=a3
  match a3 with| [kk]=>show∀y∈(if kk<n.toNat then eT p.toNat else[]),_;by_cases c:kk<n.toNat;rw[if_pos c];exact Ds _;rw[if_neg c];exact λy hy=>nomatch hy|[]=>exact λy hy=>nomatch hy|_::_::_=>exact λy hy=>nomatch hy
 refine⟨_,_,iL,iw,AF _ (Fx PH _),AF _ bB,IH _,t,?_⟩;rw[FG];rfl;rintro B r ⟨s9,rfl⟩ l3 b3;have e0:(yj L).length=L.length:=by unfold yj;exact ae ..
 rw[e0,cw,kx aq];have a8:=zg.new b3 (.lst ((zi (plan m)).map λh=>V.bl (decide (Zh ((mM m).scr h)=Ve n.toNat p.toNat h))));refine⟨l3,(zi (plan m)).map λh=>decide (Zh ((mM m).scr h)=Ve n.toNat p.toNat h),J,aI.of (by rw[zd,bp];rfl),a8 _ _ (s9 _ _ C),?_⟩;have e:(((zi (plan m)).map λh=>decide (Zh ((mM m).scr h)=Ve n.toNat p.toNat h)).all id)=(zi (plan m)).all λh=>decide (Zh ((mM m).scr h)=Ve n.toNat p.toNat h):=by rw[List.all_map];rfl
 rw[e];exact k _ (M.trans (Yo (s9.trans a8)))
end
noncomputable abbrev Yq:Stmt:=bA 43
noncomputable abbrev Qo:Stmt:=bA 49
noncomputable abbrev Y9:Stmt:=bA 68
noncomputable abbrev Xv:Stmt:=bA 69
noncomputable abbrev Vn:Stmt:=bA 70
noncomputable abbrev Qu:Stmt:=bA 71
noncomputable abbrev tR:Stmt:=bA 72
structure fj(hs:aB):Prop where
 fl:pz hs
 pl:dO hs
inductive lU(vs:List V)(H:Hp)(Q:VK)(e0:XK):Prop|mk:∀hs v,vs=[v]->Is H (eH hs) v->fj hs->(∀H',zg H H'->Q .non H')->lU vs H Q e0
inductive gS(cP cR:Addr)(vs:List V)(H:Hp)(Q:VK)(e0:XK):Prop|mk:∀hs v,vs=[v]->Is H (eH hs) v->fj hs->(∀x L H',zg H H'->H x=none->aJ H' cP cR hs L x->Q (.ref x) H')->gS cP cR vs H Q e0
inductive jE(cP cR:Addr)(vs:List V)(H:Hp)(Q:VK)(e0:XK):Prop|mk:∀hs (v:V) (n p:Int),vs=[v,.int n,.int p]->Is H (eH hs) v->fj hs->Y1 hs n p=true->(∀x L H',zg H H'->H x=none->aJ H' cP cR hs L x->Q (.ref x) H')->jE cP cR vs H Q e0
section
variable{K:W.Frag}
theorem LJ:aA ["thing"] ["thing"] (ze Yq):=.of
theorem LH(D:bH K mg "need_house" Yq)(c:Ok P w K mg base "is_house" 22 ["thing"] (spT jO)):Ok P w K mg base "need_house" 23 ["thing"] lU:=by refine wj D LJ ?_;rintro f j A a s H l Q E g ⟨h,v,rfl,e,i,d⟩ X;refine⟨_,zf (yg (xb (y6 (yc c g (za (pv 0) zc)))) (zf Ze) zn),?_⟩;exact⟨⟨h,v,J,e,i.fl⟩,λk b=>⟨_,J,yi (d k b)⟩⟩
theorem KJ:aA ["house"] ["house"] (ze Qo):=.of
theorem I9(D:bH K mg "plan_of" Qo)(q:Ok P w K mg base "need_house" 23 ["thing"] lU)(p:fT P w K mg base "Plan" cP 24 ["self","house"] (lT cP cR)):Ok P w K mg base "plan_of" 26 ["house"] (gS cP cR):=by
 refine wj D KJ ?_;rintro f y A d s H C Q E l ⟨k,v,rfl,j,m,r⟩ X;refine⟨_,zb (we (yc q (l.mono (by decide)) (za (pv 0) zc))) (zf (zj (mR p l (za (pv 0) zc)))),?_⟩;refine⟨k,v,J,j,m,λn a=>?_⟩;refine(λx h c g t=>?_);have i:zg n (upd (upd n h (.own x)) x (.ins cP h [])):=λb o e=>by rw[upd_ne (zm e c),upd_ne (zm e g)];exact e
 refine⟨x,h,v,k,J,zd,(j.mono a).mono i,m.pl,λL B z PA=>⟨J,r x L B (λb o e=>?_) (y7 a c) PA⟩⟩;refine z b o (λu=>?_) (i _ _ (a _ _ e));rw[ai.mp u]at e;rw[a _ _ e]at c;cases c
theorem Vl:aA ["house","n","p","plan"] ["house","n","p"] (ze Y9):=.of
theorem Lp(D:bH K mg "made_plan" Y9)(i:Ok P w K mg base "plan_of" 26 ["house"] (gS cP cR))(h:Ok P w K mg base "is_made" 3 ["plan","n","p"] (l7 cP cR)):Ok P w K mg base "made_plan" 27 ["house","n","p"] (jE cP cR):=by refine wj D Vl ?_;rintro f q A a s H t Q E d ⟨c,v,n,p,rfl,o,e,l,k⟩ X;have j:=Vl.nd;refine⟨_,zb (zr (i:=3) j (yc i d (za (pv 0) zc))) (zb (yg (xb (y6 (yc h (d.mono (by decide)) (za (pv 3) (za (pv 1) (za (pv 2) zc)))))) (zf Ze) zn) (zf (zj (pv 3)))),?_⟩;refine⟨c,v,J,o,e,λx L u g m PA=>?_⟩;exact⟨x,c,L,n,p,J,PA,e.pl,l,λr b=>⟨_,J,yi (k x L r (g.trans b) m (PA.same b))⟩⟩
end
noncomputable def iO(N o q:Nat):List (List Int):=((List.range N).filter λi=>decide (i≠o)).map λ(i:Nat)=>[(i:Int),(o:Int),(q:Int)]
noncomputable def Je(N q o:Nat):List (List Int):=(List.range o).flatMap λo=>iO N o q
noncomputable def jl(N P:Nat):List (List Int):=(List.range P).flatMap λq=>Je N q N
theorem Ja{a:Type}(f:Nat->O a)(n:Nat):(List.range (n+1)).flatMap f=(List.range n).flatMap f++f n:=by rw[List.range_succ,List.flatMap_append];simp
theorem uC{a:Type}(f:Nat->List a)(c:Nat)(h:∀x,(f x).length<=c):∀n,((List.range n).flatMap f).length<=n*c|0=>bj _| n+1=>by rw[Ja,c7,Nat.succ_mul];exact Nat.add_le_add (uC f c h n) (h n)
theorem Kj(N o q:Nat):(iO N o q).length<=N:=by
 unfold iO
 grind
theorem BD(N q o:Nat):(Je N q o).length<=o*N:=uC _ N (λo=>Kj N o q) o
theorem AM(N P:Nat):(jl N P).length<=P*(N*N):=uC _ (N*N) (λq=>BD N q N) P
inductive gP(vs:List V)(H:Hp)(Q:VK)(e0:XK):Prop|mk:∀(N P:Nat),vs=[.int (N:Int),.int (P:Int)]->N<=16->P<=4->(∀l H',zg H H'->H l=none->Is H' (.lst ((jl N P).map tI)) (.ref l)->Q (.ref l) H')->gP vs H Q e0
section
variable{K:W.Frag}
theorem Kq:aA ["n","p","found","phase","other"] ["n","p"] (ze Xv):=.of
theorem JD(D:bH K mg "triples" Xv)(T:Txt K mg):Ok P w K mg base "triples" 1 ["n","p"] gP:=by
 refine wj (k:=0) D Kq ?_;rintro f aK A aa s H vs Q E hr ⟨N,P',rfl,hN,hP,k⟩ X;have nd:=Kq.nd;refine⟨_,zb (zr (i:=2) nd (vk zc)) (zb (wa PassesOwn.never J (wm J T.range (za (pv 1) zc)) (zk (i:=3) nd) (zf (wa PassesOwn.never J (wm J T.range (za (pv 0) zc)) (zk (i:=4) nd) (zf (we (Zv PySem.F.plainAttrs_list PySem.F.slot_list_extend PySem.F.type_list_extend Yk (pv 2) (za (qj (own:=["number"]) (cap:=[4,3]) J (yv (ze Xv) J J (by decide+kernel) (by decide+kernel) (by decide+kernel) ⟨⟨_,J,.inl J,vm J⟩,⟨_,J,.inl J,vm J⟩,trivial⟩) (wm J T.range (za (pv 0) zc)) (λ_ _ _ _=>zk (i:=0) (by show(["number","other","phase"]:O Str).Nodup;decide+kernel)) (λ_ _ _ _=>js (zo Wd (pv 0) (pv 1) (zx _))) (λ_ _ _ _=>y0 (za (pv 0) (za (pv 1) (za (pv 2) zc))))) zc)))))))
  (zf (zj (pv 2)))),?_⟩
 refine⟨bj _,λl H1 s1 M aq=>?_⟩;have ap:∀{G:Hp},zg (without [l] H1) G->zg H G:=λ{G} s b u e=>s _ _ (by rw[ye (λhm=>by rw[ai.mp hm,M]at e;cases e)];exact s1 _ _ e);refine⟨P',J,(by omega),(by omega),?_⟩;refine Zn (λi r G=>∃W C n,r=[some (.int (N:Int)),some (.int (P':Int)),some (.ref l),W,C]/\zg (without [l] H1) G/\G l=some (.lst n)/\IsL G ((jl N i).map tI) n) ⟨none,none,[],J,y9,aq,J⟩ ?_ ?_;rintro i r G hi ⟨W,C,n,rfl,Z,y,iG⟩;rw[(di _)];refine⟨N,J,(by omega),(by omega),?_⟩;refine Zn (λj r G=>∃C n,r=[some (.int (N:Int)),some (.int (P':Int)),some (.ref l),some (.int (i:Int)),C]/\zg (without [l] H1) G/\G l=some (.lst n)/\IsL G ((jl N i++Je N i j).map tI) n) ⟨C,n,J,Z,y,by rw[show Je N i 0=[]from rfl,cq];exact iG⟩ ?_ ?_;rintro j r G2 hj ⟨U,h,rfl,v,a,p⟩;rw[(di _)];refine⟨.inl ⟨J,_,aI.of a⟩,?_⟩;have ay:i<4:=by omega
 have aw:j<N:=by omega
 refine⟨N,J,(by omega),(by omega),?_⟩;refine j7 (λm g B=>zg G2 B/\IsL B ((iO m j i).map tI) g) ⟨zg.refl _,J⟩ (λm g B hm ⟨_,x⟩=>?_) ?_ ?_;have q:=x.length;rw[ae]at q;have q2:=Kj m j i;exact Nat.le_of_lt (wc (by omega));rintro m g B hm ⟨S,x⟩;rw[(di _)];have er:iO (m+1) j i=iO m j i++if m≠j then[[(m:Int),(j:Int),(i:Int)]]else[]:=by unfold iO;rw[List.range_succ,List.filter_append,be,List.filter_cons];by_cases c:m=j;rw[if_neg (by simp[c]),if_neg (by simp[c])];rfl;rw[if_pos (by simp[c]),if_pos c];rfl
 rw[er];refine⟨J,_,J,?_⟩;by_cases c:m=j;have e:(!decide (V.int (m:Int)=V.int (j:Int)))=false:=by rw[c];simp
 rw[e];refine yi ?_;rw[if_neg (by simp[c]),cq];exact⟨S,x⟩;have e:(!decide (V.int (m:Int)=V.int (j:Int)))=true:=by rw[c6 (λz=>c (by have:=V.int.inj z;omega))];rfl
 rw[e,if_pos c,be];refine ww ⟨bO,λt G4 F av ah=>⟨S.trans F,IsL.append (x.mono F) (IsL.one ⟨t,_,J,ah,IsL.ints.mpr J⟩)⟩⟩;rintro g B ⟨S,x⟩ z hz;have F:=zg.new hz (.lst g);have L:upd B z (.lst g) z=some (.lst g):=zd;generalize upd B z (.lst g)=G4 at F L⊢;have o:=S.trans F;have l1:=p.length;have l2:=x.length;rw[ae,c7]at l1;rw[ae]at l2;have b1:=AM N i;have b2:=BD N i j;have b3:=Kj (N:Int).toNat j i;have c1:i*(N*N)<=4*(16*16):=Nat.mul_le_mul (by omega) (Nat.mul_le_mul hN hN);have c2:j*N<=16*16:=Nat.mul_le_mul (by omega) hN;refine⟨l,z,h,g,J,J,o _ _ a,L,Nat.le_of_lt (Zq (by omega)),_,_,J,qa (v.trans o) (yf (by simp)),zd,?_⟩;have e:Je N i (j+1)=Je N i j++iO N j i:=Ja _ j;rw[e,<-List.append_assoc,be];have R:∀gs:O (O Int),qt (gs.map tI):=λgs=>by rw[qt.all];intro t ht;obtain⟨d,_,rfl⟩:=bz.mp ht;exact vp _
 have tt:yw G4 (upd G4 l (.lst (h++g))):=yw.upd (o _ _ a) (λ_ z=>by cases z);exact IsL.append ((p.mono o).tups tt (R _)) ((x.mono F).tups tt (R _));rintro r G2 ⟨U,h,rfl,v,a,p⟩;refine⟨_,_,h,J,v,a,?_⟩;have e:jl N (i+1)=jl N i++Je N i N:=Ja _ i;rw[e];exact p;rintro r G ⟨W,C,n,rfl,Z,y,iG⟩;exact(k l G (ap Z) M ⟨l,n,J,y,iG⟩)
end
noncomputable def qk(x:Str):aH->Bool|.say y=>decide (y=x)|_=>false
noncomputable def Xo(x:Str)(l:yx):Nat->List Nat|0=>[]|i+1=>Xo x l i++if((l[i]?).map (qk x)).getD false=true then[i]else[]
theorem V7(x:Str)(l:yx):∀i,(Xo x l i).length=(l.take i).countP (qk x)
 |0=>rfl
 | i+1=>by
   show(Xo x l i++if((l[i]?).map (qk x)).getD false=true then[i]else[]).length=_;rw[c7,V7 x l i,cu,List.countP_append]
   grind
theorem yY{x:Str}{l:yx}:∀{i p j:Nat},(Xo x l i)[p]?=some j->l[j]?=some (.say x)/\(l.take j).countP (qk x)=p/\j<i
 |0,p,j,e=>by cases e
 | i +1,p,j,e=>by
   have a:(Xo x l i++if((l[i]?).map (qk x)).getD false=true then[i]else[])[p]?=some j:=e;by_cases c:p<(Xo x l i).length;rw[List.getElem?_append_left c]at a;obtain⟨k,h,g⟩:=yY a
   grind
   rw[List.getElem?_append_right (by omega)]at a;by_cases z:((l[i]?).map (qk x)).getD false=true;rw[if_pos z]at a;have q:=(cp.mp a).1;have b:p-(Xo x l i).length=0:=by simp_all
   rw[b]at a;cases a;refine⟨?_,?_,eq _⟩;cases f:l[i]? with
   |none=>simp_all
   | some d=>
     rw[f]at z;cases d with
     |say y=>rw[ce z]
     |_=>cases z
   rw[<-V7];omega
   simp_all
noncomputable def pM(x:Str):L2.T:=.tup [.str "say",.str x]
theorem Fw(x:Str)(d:aH):PyData.eqv (aO (eD d)) (aO (pM x))=qk x d:=by cases d with| say y=>show PyData.eqv (.tuple [.str "say",.str y]) (.tuple [.str "say",.str x])=decide (y=x);simp[PyData.eqv,PyData.eqvAll];rfl| beg j a=>rfl| rai b k=>rfl| awa b k=>rfl| com b=>rfl| goo b=>rfl| lea b=>rfl| wor b=>rfl
theorem Aa{y:Str}(b:PyData.strOk x=true)(a:PyData.strOk y=true):(PyData.tuple [.str x,.str y]).canLay0=true:=by simp[PyData.canLay0,PyData.canLayAll0,b,a]
theorem Eg{i:Int}(a:PyData.strOk x=true):(PyData.tuple [.str x,.int i]).canLay0=true:=by simp[PyData.canLay0,PyData.canLayAll0,a]
theorem xB{i j:Int}(a:PyData.strOk x=true):(PyData.tuple [.str x,.int i,.int j]).canLay0=true:=by simp[PyData.canLay0,PyData.canLayAll0,a]
theorem Ef{d:aH}(h:f9 d)(a:∀x,d=.say x->PyData.strOk x=true):(aO (eD d)).canLay0=true:=by cases d with|say y=>exact Aa (by decide+kernel) (a y J)|rai b k=>exact xB (by decide+kernel)|awa b k=>exact xB (by decide+kernel)|wor b=>exact Eg (by decide+kernel)|com b=>exact h.elim|goo b=>exact h.elim|lea b=>exact h.elim|beg j c=>exact h.elim
theorem Fb(a:PyData.strOk x=true):(aO (pM x)).canLay0=true:=Aa (by decide+kernel) a
theorem Hj(x:Str):(aO (pM x)).depth<=20:=by show(PyData.tuple [.str "say",.str x]).depth<=20;simp[PyData.depth,PyData.depthAll]
inductive iZ(cP cR:Addr)(vs:List V)(H:Hp)(Q:VK)(e0:XK):Prop|mk:∀(x:Addr)(hs:aB)(L:RL)(k q:Nat)(wd:Str),vs=[.ref x,.int (k:Int),.str wd,.int (q:Int)]->aJ H cP cR hs L x->dO hs->[k]∈zi (plan hs)->PyData.strOk wd=true->q<((mM hs).scr [k]).countP (qk wd)->(∀v H' (j:Nat),zg H H'->((mM hs).scr [k])[j]?=some (.say wd)->(((mM hs).scr [k]).take j).countP (qk wd)=q->Is H' (.tup [hT [k],.int (j:Int)]) v->Q v H')->iZ cP cR vs H Q e0
inductive fc(wd:Str)(f:Nat->Nat->Nat->Nat)(cP cR:Addr)(vs:List V)(H:Hp)(Q:VK)(e0:XK):Prop|mk:∀(x:Addr)(hs:aB)(L:RL)(i o q:Nat)(vt:V),vs=[.ref x,vt]->aJ H cP cR hs L x->dO hs->Is H (tI [(i:Int),(o:Int),(q:Int)]) vt->[f i o q]∈zi (plan hs)->q<((mM hs).scr [f i o q]).countP (qk wd)->(∀v H' (j:Nat),zg H H'->((mM hs).scr [f i o q])[j]?=some (.say wd)->(((mM hs).scr [f i o q]).take j).countP (qk wd)=q->Is H' (.tup [hT [f i o q],.int (j:Int)]) v->Q v H')->fc wd f cP cR vs H Q e0
section
variable{K:W.Frag}
theorem BA:aA ["plan","number","word","phase","script","places"] ["plan","number","word","phase"] (ze Vn):=.of
theorem HP(D:bH K mg "say_of" Vn)(T:Txt K mg)(CP:aG K cP aZ)(CR:aG K cR aR):Ok P w K mg base "say_of" 1 ["plan","number","word","phase"] (iZ cP cR):=by
 refine wj (k:=0) D BA ?_;rintro f a8 A aa s H vs Q E hr ⟨x,b,L,k,q,a,rfl,PA,PH,hh,ah,hq,kk⟩ X;have nd:=BA.nd;have hu:=jk hr;refine⟨_,zb (zr (i:=4) nd (zu (wo hu (zu (pv 0) J) (y0 (za (pv 1) zc))) J)) (zb (Jj (i:=5) (own:=["place","deed"]) (cap:=[2]) (g:=fe K 2 (bY (km 0) (bY (km 1) mJ))) J (yv (ze Vn) J J (by decide+kernel) (by decide+kernel) (by decide+kernel) ⟨⟨_,J,.inl J,vm J⟩,trivial⟩)
   (J8 J T.enumerate (za (pv 4) zc))
   (λ_ _ _ _=>jw J (yn (zk (i:=0) (by show(["place","deed","word"]:List Str).Nodup;decide+kernel)) (yn (zk (i:=1) (by show(["place","deed","word"]:List Str).Nodup;decide+kernel)) ql)))
   (λ_ _ _ _=>js (zo (Ge (by exact hr.units)) (pv 1) (y0 (za zy (za (pv 2) zc))) (zx _)))
   (λ_ _ _ _=>pv 0) nd J J (by with_unfolding_all rfl))
  (zf (zj (y0 (za (y0 (za (pv 1) zc)) (za (zt Zb (pv 5) (pv 3)) zc)))))),?_⟩
 obtain⟨dp,vv,ar,rl,hp,a3,u,a5,vc,vs,ab,an,ac,r1,r2,_⟩:=PA.role hh;refine⟨x,cP,dp,_,_,J,hp,CP.cls,CP.n,vj,bO,λr H1 Z a7 a1=>?_⟩;have i1:Is H1 (tI (hZ [k])) (.ref r):=⟨r,_,J,a1,IsL.ints.mpr J⟩
 obtain⟨bh,eb,a2⟩:=ke i1;cases eb;refine⟨ar,_,J,u▸DGet.t (Z _ _ a3) a2,rl,cR,a5,_,_,J,Z _ _ r1,CR.cls,CR.n,qi,?_⟩;obtain⟨aS,h,rfl,M,C⟩:=r2.mono Z;have N:=C.length;rw[ae]at N;have sl:=zQ PH.nw [k];refine⟨aS,h,J,aE.of M,?_⟩;refine Fd (xs:=h) (λi U g=>zg H1 g/\U=(Xo a ((mM b).scr [k]) i).map λ(j:Nat)=>V.int (j:Int)) ⟨zg.refl _,J⟩ (λi U g hi ⟨p,e⟩=>⟨aE.of (p _ _ M),?_⟩) ?_ ?_;rw[e,ae,V7];have q1:=List.countP_le_length (p:=qk a) (l:=((mM b).scr [k]).take i);have q2:=List.length_take_le' i ((mM b).scr [k]);exact Nat.le_of_lt (Zq (by omega));rintro i z U g qp hz ⟨p,rfl⟩ av;have sp:=zg.new av (.tup [.int i,z]);have B:upd g qp (.tup [.int i,z]) qp=some (.tup [.int i,z]):=zd;generalize upd g qp (.tup [.int i,z])=H3 at sp B⊢;have W:=p.trans sp;obtain⟨t,R,it⟩:=C.get' hz;rw[aj]at R;cases S:((mM b).scr [k])[i]? with|none=>rw[S]at R;cases R| some d=>rw[S]at R;cases R;obtain⟨sc,v,G⟩:=X7 S;refine⟨qp,_,J,aE.of B,J,_,_,J,_,_,J,J,?_⟩;refine⟨bO,λtq H6 n ay aq=>⟨eD d,pM a,(it.mono W).mono n,⟨tq,_,J,aq,IsL.two J J⟩,Ef (PH.nw.deeds sc v d G) (λy ey=>PH.says sc v y (ey▸G)),Fb ah,Hj a,_,J,?_⟩⟩;rw[(Fw a d)];have o:=W.trans n;cases c:qk a d with| true=>refine ww ⟨o,?_⟩;show _=(Xo a ((mM b).scr [k]) i++if((((mM b).scr [k])[i]?).map (qk a)).getD false=true then[i]else[]).map _;rw[S];show _=(Xo a ((mM b).scr [k]) i++if qk a d=true then[i]else[]).map _;rw[if_pos c,be];rfl| false=>refine yi ⟨o,?_⟩;show _=(Xo a ((mM b).scr [k]) i++if((((mM b).scr [k])[i]?).map (qk a)).getD false=true then[i]else[]).map _;rw[S];show _=(Xo a ((mM b).scr [k]) i++if qk a d=true then[i]else[]).map _;rw[if_neg (by rw[c];exact bu),cq]
 rintro U g ⟨p,rfl⟩ l hl;have m:=zg.new hl (.lst ((Xo a ((mM b).scr [k]) h.length).map λ(j:Nat)=>V.int (j:Int)));have F:upd g l (.lst ((Xo a ((mM b).scr [k]) h.length).map λ(j:Nat)=>V.int (j:Int))) l=_:=zd;generalize upd g l (.lst ((Xo a ((mM b).scr [k]) h.length).map λ(j:Nat)=>V.int (j:Int)))=H5 at m F⊢;have W:=p.trans m;have aw:q<(Xo a ((mM b).scr [k]) h.length).length:=by rw[V7,N,cw];exact hq
 have ej:=bo aw;obtain⟨e1,e2,_⟩:=yY ej;refine⟨bO,λk6 H6 n ay aK=>⟨l,_,_,_,J,J,aI.of (n _ _ F),xt (by rw[aj,ej];rfl),bO,λv7 H7 s7 a6 ap=>?_⟩⟩;refine kk _ H7 _ (Z.trans (W.trans (n.trans s7))) e1 e2 ⟨v7,_,J,ap,IsL.two ⟨k6,_,J,s7 _ _ aK,IsL.ints.mpr J⟩ J⟩
theorem KE:aA ["plan","triple"] ["plan","triple"] (ze Qu):=.of
theorem GA:aA ["plan","triple"] ["plan","triple"] (ze tR):=.of
theorem JO(D:bH K mg "come_of" Qu)(d:Ok P w K mg base "say_of" 1 ["plan","number","word","phase"] (iZ cP cR)):Ok P w K mg base "come_of" 2 ["plan","triple"] (fc "come" (λ_ o _=>o) cP cR):=by refine wj D KE ?_;rintro f n A c s H u Q E k ⟨x,j,L,i,o,q,t,rfl,PA,p,g,m,l,e⟩ X;refine⟨_,zf (zj (yc d k (za (pv 0) (za (zt zp (pv 1) zh) (za zy (za (zt zp (pv 1) zh) zc)))))),?_⟩;obtain⟨b,r,rfl,a,h⟩:=g;rw[IsL.ints.mp h]at a;exact⟨b,_,_,_,J,J,aE.of a,J,b,_,_,_,J,J,aE.of a,J,x,j,L,o,q,"come",J,PA,p,m,by decide+kernel,l,e⟩
theorem F3(D:bH K mg "go_of" tR)(d:Ok P w K mg base "say_of" 1 ["plan","number","word","phase"] (iZ cP cR)):Ok P w K mg base "go_of" 2 ["plan","triple"] (fc "go" (λi _ _=>i) cP cR):=by refine wj D GA ?_;rintro f n A c s H u Q E k ⟨x,j,L,i,o,q,t,rfl,PA,p,g,m,l,e⟩ X;refine⟨_,zf (zj (yc d k (za (pv 0) (za (zt zp (pv 1) zh) (za zy (za (zt zp (pv 1) zh) zc)))))),?_⟩;obtain⟨b,r,rfl,a,h⟩:=g;rw[IsL.ints.mp h]at a;exact⟨b,_,_,_,J,J,aE.of a,J,b,_,_,_,J,J,aE.of a,J,x,j,L,i,q,"go",J,PA,p,m,by decide+kernel,l,e⟩
end
noncomputable abbrev tW:Stmt:=bA 73
noncomputable abbrev k8:Stmt:=bA 74
noncomputable abbrev sS:Stmt:=bA 75
noncomputable abbrev Yu:Stmt:=bA 76
theorem dA.same{b G:Hp}{cU cP cR:Y}{a:aB}{L:RL}{x ad as:Y}(r:dA b cU cP cR a L x ad as)(s:zg b G)(e:G ad=none)(d:G as=none):dA G cU cP cR a L x ad as:=by obtain⟨c,i,j,k,PA,h,g,f,_,_⟩:=r;exact⟨c,i,j,k,PA.same s,s _ _ h,s _ _ g,s _ _ f,e,d⟩
theorem K5{d:Hp}{q:aB}{L:RL}{x ad as o:Y}{c:O (O Nat×Nat)}{a:O Int}(s:dA H0 cU cP cR q L x ad as)(u:zg H0 H1)(r:Va H1 ad as c a)(j:zg H1 d)(g:bP cN P w d o []):bF (without [ad,as] d) d cU cP cR q L x ad as c a/\bP cN P w (without [ad,as] d) o []/\zg H0 (without [ad,as] d):=by
 obtain⟨A,E,F,G,PA,D,C,B,n,k⟩:=id s;have h:=j _ _ r.1;have f:=j _ _ r.2;have p:=(u.trans j).without λm i=>by rcases az.mp i with z|z;rw[z];exact n;rw[ai.mp z];exact k
 have t:yw d (without [ad,as] d):=λb y e=>by rw[ye];exact e;intro i;rcases az.mp i with z|z;rw[z,h]at e;cases e;rw[ai.mp z,f]at e;cases e
 have l:o ∉ [ad,as]:=λi=>by obtain⟨v,e⟩:=g.some;rcases az.mp i with z|z;rw[z,h]at e;cases e;rw[ai.mp z,f]at e;cases e
 exact⟨⟨s.same p (yf (by simp)) (yf (by simp)),y9,h,f⟩,g.by t (ye l),p⟩
inductive ml(cP cR:Addr)(vs:List V)(H:Hp)(Q:VK)(e0:XK):Prop|mk:∀(xp:Addr)(hs:aB)(L:RL),vs=[.ref xp]->aJ H cP cR hs L xp->dO hs->(∀n H',zg H H'->(ym hs [] n).ready=[]->Q (.bl (Y2 hs (ym hs [] n).done)) H')->ml cP cR vs H Q e0
section
variable{K:W.Frag}{cS cW:Addr}
theorem zL:aA ["plan","run"] ["plan"] (ze sS):=.of
theorem EM(D:bH K mg "ends_with_all_done" sS)(CU:aG K cU bV)(C:Ok P w K mg base "first_run" 4 ["plan"] (fb cU cP cR))(B:Ok P w K mg base "woven_on" 5 ["run","held"] (fK P w cU cP cR))(F:bR P w K mg base cU "has_done_all" 1 ["self"] (jH cU cP cR)):Ok P w K mg base "ends_with_all_done" 6 ["plan"] (ml cP cR):=by refine wj D zL ?_;rintro f S A e s H vs Q E h ⟨t,a,L,rfl,PA,b,k⟩ X;have G:=zL.nd;refine⟨_,zb (zr (i:=1) G (yc C (h.mono (by decide)) (za (pv 0) zc))) (zb (we (yc B h (za (pv 1) (za (Vy (τ:=cN)) zc)))) (zf (zj (X1 F CU.cls (h.mono (by decide)) (pv 1))))),?_⟩;refine⟨t,a,L,J,PA,b,λc ad as H0 H1 y x M W U=>?_⟩;refine(λq o i p=>?_);have m:=zg.new i o;generalize upd H1 q o=H2 at m p⊢;obtain⟨l,GH,u⟩:=K5 W x U m p;refine⟨_,c,ad,as,q,a,L,_,_,[],J,l,GH,b,Xq b,Vc a,λn ao H3 d R z l3 WV g=>?_⟩;obtain⟨r,j,am,al,_,N,_⟩:=id l.f;refine⟨c,j,_,J,d _ _ N,J,_,c,ad,as,a,L,_,_,J,⟨l.f,d,z⟩,b,λZ v=>?_⟩;exact k n Z (y.trans (u.trans (d.trans v))) g
end
theorem Jb(x:Str):∀s:yx,s.countP (qk x)=(Zh s).count x
 |[]=>rfl
 | d ::r=>by
   rw[List.countP_cons,Jb x r];cases d with
   | say y=>
     show _+(if decide (y=x)=true then 1 else 0)=(y::Zh r).count x
     grind
   |_=>rfl
theorem GW(p:Nat):(eT p).count ("come":Str)=p/\(eT p).count ("go":Str)=p:=by
 induction p with|zero=>exact⟨J,J⟩| succ n a=>
   have e:eT (n+1)=[("come":Str),"go"]++eT n:=by rfl
   have b:([("come":Str),"go"]).count ("come":Str)=1:=by rfl
   grind
theorem Vh{N P:Nat}(h:g∈jl N P):∃i o q:Nat,g=[(i:Int),(o:Int),(q:Int)]/\i<N/\o<N/\q<P:=by
 obtain⟨q,c,b⟩:=List.mem_flatMap.mp h;obtain⟨o,d,a⟩:=List.mem_flatMap.mp b;obtain⟨i,e,rfl⟩:=bz.mp a
 grind
structure mG(hs:aB)(n p:Int)(N P:Nat):Prop where
 en:n=(N:Int)
 ep:p=(P:Int)
 n16:N<=16
 p4:P<=4
 there:∀k,k<N->[k]∈zi (plan hs)
 says:∀k,k<N->((mM hs).scr [k]).countP (qk "come")=P/\((mM hs).scr [k]).countP (qk "go")=P
theorem Ab{b:aB}{n p:Int}(h:Y1 b n p=true):∃N P,mG b n p N P:=by unfold Y1 pW at h;simp only[cg,decide_eq_true_eq]at h;obtain⟨⟨l,j⟩,⟨i,g⟩,d,c⟩:=h;have a:=λk hk=>ce (cy.mp d k (da.mpr hk));refine⟨n.toNat,p.toNat,by omega,by omega,by omega,by omega,a,λk hk=>?_⟩;have e:=ce (cy.mp c [k] (a k hk));have f:Ve n.toNat p.toNat [k]=eT p.toNat:=if_pos hk;rw[Jb,Jb,e,f];exact GW _
def Wj(U:aB)(B:Str)(k q j:Nat):Prop:=((mM U).scr [k])[j]?=some (.say B)/\(((mM U).scr [k]).take j).countP (qk B)=q
structure eU(hs:aB)(a o q:Nat)(d:Bool)(st:WS (List Nat)):Prop where
 is:∃n jc jg,Wj hs "come" o q jc/\Wj hs "go" a q jg/\st=ym hs (yo [o] jc) n/\decide (jg<yb st.done [a])=d
 rdy:st.ready=[]
 wv:Wv (mM hs) (zi (plan hs)) st
def rK(U:aB)(N:Addr->Prop)(H:Hp)(B:List (List aM×V))(g:List Int):Prop:=∃a o q l st,g=[((a:Nat):Int),((o:Nat):Int),((q:Nat):Int)]/\yz B (kI g)=some (.ref l)/\N l/\bT H l st.wov/\eU U a o q false st
def rE(Z:aB)(U:List (List Int))(N:Addr->Prop)(H:Hp)(B:List (List aM×V)):Prop:=B.map (·.1)=U.map kI/\∀g∈U,rK Z N H B g
inductive lG(vs:List V)(H:Hp)(Q:VK)(e0:XK):Prop| mk:∀hs (v:V) (n p:Int),vs=[v,.int n,.int p]->Is H (eH hs) v->fj hs->Y1 hs n p=true->
   (∀n0 a r H',zg H H'->(ym hs [] n0).ready=[]->Y2 hs (ym hs [] n0).done=false->H' a=some (.tup (.str "stuck"::r))->Q (.ref a) H')->
   (∀x o q st a r H',zg H H'->x<n.toNat->o<n.toNat->q<p.toNat->eU hs x o q true st->H' a=some (.tup (.str "early"::r))->Q (.ref a) H')->
   (∀a d prow H',zg H H'->H d=none->H' a=some (.tup [.str "holds",.ref d])->H' d=some (.dT prow)->rE hs (jl n.toNat p.toNat) (λ_=>True) H' prow->Q (.ref a) H')->lG vs H Q e0
theorem bT.by{H a:Hp}{l:Y}{b:O (O Nat)}(x:bT H l b)(d:∀o,H l=some o->a l=some o)(t:yw H a):bT a l b:=by obtain⟨c,f,e⟩:=x;exact⟨c,d _ f,e.tups t (X4 _)⟩
theorem Fo(N P:Nat):(jl N P).Nodup:=by
 have f:∀{a b c x y z:Nat},([(a:Int),(b:Int),(c:Int)]:O Int)=[(x:Int),(y:Int),(z:Int)]->a=x/\b=y/\c=z:=λe=>by injection e with m e;injection e with l e;injection e with r;omega
 have n:∀o q,(iO N o q).Nodup:=λo q=>List.Pairwise.map _ (λa b h e=>h (f e).1) (List.Pairwise.filter _ List.nodup_range);have d:∀{o q g},g∈iO N o q->∃a:Nat,g=[(a:Int),(o:Int),(q:Int)]:=λh=>by obtain⟨a,_,e⟩:=bz.mp h;exact⟨a,e.symm⟩
 have i:∀q,(Je N q N).Nodup:=λq=>List.pairwise_flatMap.mpr ⟨λo _=>n o q,List.Pairwise.imp (λh x k y j e=>by obtain⟨a,m⟩:=d k;obtain⟨b,l⟩:=d j;exact h (f (m.symm.trans (e.trans l))).2.1) List.nodup_range⟩
 refine List.pairwise_flatMap.mpr ⟨λq _=>i q,List.Pairwise.imp (λh x k y j e=>?_) List.nodup_range⟩;obtain⟨o,_,k⟩:=List.mem_flatMap.mp k;obtain⟨p,_,j⟩:=List.mem_flatMap.mp j;obtain⟨a,m⟩:=d k;obtain⟨b,l⟩:=d j;exact h (f (m.symm.trans (e.trans l))).2.2
theorem aT:∀{a b:List Int},kI a=kI b->a=b|[],[],_=>rfl|[],_::_,e=>by cases e|_::_,[],e=>by cases e| x::g,y::f,e=>by injection e with c d;injection c with c;rw[c,aT d]
section
variable{K:W.Frag}{cS cW:Addr}
theorem rp(l:O (O Nat))(h:O Nat):l.count h=@List.count _ instBEqOfDecidableEq h l:=by
 unfold List.count
 grind
theorem zC(i:Is H (tI g) v):∃b,v=.ref b/\H b=some (.tup ((kI g).map kV)):=by
 obtain⟨b,d,rfl,c,a⟩:=i;rw[IsL.ints.mp a,<-Wg]at c
 simp_all
theorem uk{t:TS}{D:Ends}{a:L2.St}(R:L2.St->Hp->Prop)(b:∀σ' H',R σ' H'->D.nx σ' H')(g:(∀σ' H',R σ' H'->D.nx σ' H')->t D a H):t D a H:=g b
theorem A6:aA ["house","n","p","plan","run","woven","stops","papers","triple","come","go"] ["house","n","p"] (ze tW):=.of
theorem Ga(D:bH K mg "tried" tW)(T:Txt K mg)(CU:aG K cU bV)(CS:aG K cS dQ)(oP:Ok P w K mg base "made_plan" 27 ["house","n","p"] (jE cP cR))(oF:Ok P w K mg base "first_run" 4 ["plan"] (fb cU cP cR))(oO:Ok P w K mg base "woven_on" 5 ["run","held"] (fK P w cU cP cR))(oA:bR P w K mg base cU "has_done_all" 1 ["self"] (jH cU cP cR))(oR:Ok P w K mg base "triples" 1 ["n","p"] gP) (oC:Ok P w K mg base "come_of" 2 ["plan","triple"] (fc "come" (λ_ o _=>o) cP cR)) (oG:Ok P w K mg base "go_of" 2 ["plan","triple"] (fc "go" (λi _ _=>i) cP cR)) (oS:fT P w K mg base "Stop" cS 6 ["self","plan","one"] (jB cS cU cP cR)) (oL:bR P w K mg base cS "lacks" 2 ["self","other"] (jF cS cU)) (oU:bR P w K mg base cS "up_to" 1 ["self","other"] (lE cS cU)):
  Ok P w K mg base "tried" 28 ["house","n","p"] lG:=by
 refine wj (k:=27) D A6 ?_;rintro f fv A c2 s H vs Q E hr ⟨t,v,n,p,rfl,hv,hG,im,dg,dn,dh⟩ X;have nd:=A6.nd;have hu:=jk hr;have aw:=qC hr;refine⟨_,zb (zr (i:=3) nd (yc oP hr (za (pv 0) (za (pv 1) (za (pv 2) zc))))) (zb (zr (i:=4) nd (yc oF (hr.mono (by decide)) (za (pv 3) zc))) (zb (zr (i:=5) nd (yc oO (hr.mono (by decide)) (za (pv 4) (za (Vy (τ:=cN)) zc)))) (zb (yg (xb (y6 (X1 oA CU.cls (hr.mono (by decide)) (pv 4)))) (zf (zj (y0 (za zy (za (pv 5) zc))))) zn) (zb (zr (i:=6) nd (Vy (τ:=cN))) (zb (zr (i:=7) nd Xi) (zb (wa PassesOwn.never J (vy (yc oR (hr.mono (by decide)) (za (pv 1) (za (pv 2) zc)))) (zk (i:=8) nd) (zb (zr (i:=9) nd (yc oC (hr.mono (by decide)) (za (pv 3) (za (pv 8) zc)))) (zb (zr (i:=10) nd (yc oG (hr.mono (by decide)) (za (pv 3) (za (pv 8) zc)))) (zb (yg (Xf (HW (τ:=cN) aw (pv 9) (pv 6))) (zf (zI (τ:=cN) aw (pv 6) (pv 9) (mR oS (hr.mono (by decide)) (za (pv 3) (za (pv 9) zc))) J)) zn) (zb (yg (xb (y6 (qc oL CS.cls (hr.mono (by decide)) (Vz (τ:=cN) aw (pv 6) (pv 9) (λ_ _=>rfl)) (za (pv 10) zc)))) (zf (zj (yk Ae (y0 (za zy (za (qc oU CS.cls (hr.mono (by decide)) (Vz (τ:=cN) aw (pv 6) (pv 9) (λ_ _=>rfl)) (za (pv 10) zc)) zc))) (pv 8)))) zn) (zf (Yw hu (pv 7) (pv 8) (w9 Lh (by rfl) T.list Qh (za (zu (Vz (τ:=cN) aw (pv 6) (pv 9) (λ_ _=>rfl)) J) zc)) J)))))))
  (zf (zj (y0 (za zy (za (pv 7) zc))))))))))),?_⟩
 refine⟨t,v,n,p,J,hv,hG,im,λxp L H1 s1 eu PA=>?_⟩;obtain⟨N,P',M⟩:=Ab im;obtain rfl:=M.en;obtain rfl:=M.ep;have PH:=hG.pl;refine⟨xp,t,L,J,PA,PH,λxr ad as H0 H2 c1 s2 et RF RM=>?_⟩;refine(λah o dN R=>?_);have s3:=zg.new dN o;generalize upd H2 ah o=H3 at s3 R⊢;obtain⟨RA,GH,sw⟩:=K5 RF s2 RM s3 R;refine⟨_,xr,ad,as,ah,t,L,_,_,[],J,RA,GH,PH,Xq PH,Vc t,λn0 ao H4 W fl rm l4 f1 du=>?_⟩;obtain⟨er,d2,am,al,_,hx,_⟩:=id RA.f;have bL:zg H1 H4:=c1.trans (sw.trans W);refine⟨xr,d2,_,J,W _ _ hx,J,_,xr,ad,as,t,L,_,_,J,⟨RA.f,W,rm⟩,PH,λH5 s5=>⟨_,J,?_⟩⟩;have c0:=s1.trans (bL.trans s5);cases dT:Y2 t (jV t [] (xi (Z1 (plan t))) (ja t) n0).done with|false=>exact ww ⟨bO,λq6 H6 s6 e7 h6=>dg n0 _ _ H6 (c0.trans s6) du dT h6⟩|true=>
 refine yi ?_;intro d bN bh bg;have s6:=zg.new bh bN;generalize upd H5 d bN=H6 at s6 bg⊢;intro j bi;have s7:=zg.new bi (.dT []);have h7:upd H6 j (.dT []) j=some (.dT []):=zd;generalize upd H6 j (.dT [])=H7 at s7 h7⊢;refine⟨N,P',J,M.n16,M.p4,λlt Hb s8 e6 i8=>?_⟩;obtain⟨lt',Z,el,aa,ix⟩:=i8;cases el;have b5:=ix.length;rw[ae]at b5;have gb:bP cN P w Hb d []:=(bg.same s7).same s8;have pb:Hb j=some (.dT []):=s8 _ _ h7;obtain⟨ei,eb⟩:=gb.some;have b2:j≠d:=λz=>by rw[z,eb]at pb;cases pb
 have a1:zg H1 H5:=bL.trans s5;have cv:zg H5 Hb:=s6.trans (s7.trans s8);have c3:H5 d=none:=bh;have b3:H5 j=none:=y7 s6 bi;have bx:zg H5 (without [d,j] Hb):=cv.without λm hm=>by rcases az.mp hm with z|z;rw[z];exact c3;rw[ai.mp z];exact b3
 have ca:without [d,j] Hb lt=some (.lst Z):=by rw[ye];exact aa;intro hm;rcases az.mp hm with z|z;rw[z,eb]at aa;cases aa;rw[ai.mp z,pb]at aa;cases aa
 have tw:yw Hb (without [d,j] Hb):=λb ys e=>by rw[ye];exact e;intro hm;rcases az.mp hm with z|z;rw[z,eb]at e;cases e;rw[ai.mp z,pb]at e;cases e
 have ec:(jl N P').length<=1024:=by have q1:=AM N P';have q2:P'*(N*N)<=4*(16*16):=Nat.mul_le_mul M.p4 (Nat.mul_le_mul M.n16 M.n16);omega
 refine⟨lt,J,⟨Z,aI.of aa⟩,?_⟩;let d6:Nat->L2.St->Hp->Prop:=λi σ G=>∃(x8 x9 bl:Option V)(B:List ((List Int×Int)×V))(r:List (List aM×V)),σ=[some v,some (.int (N:Int)),some (.int (P':Int)),some (.ref xp),some (.ref xr),some (.ref ao),some (.ref d),some (.ref j),x8,x9,bl]/\zg (without [d,j] Hb) G/\bP cN P w G d B/\G j=some (.dT r)/\B.length<=i/\r.length<=i/\
  (∀k v,yz B k=some v->∃Z n h p,v=.ref Z/\aX (λa=>a≠d/\a≠j) G cS cU Z (ym t (yo h p) n)/\Wv (mM t) (zi (plan t)) (ym t (yo h p) n)/\k=(hZ h,(p:Int))/\(ym t (yo h p) n).ready=[])/\rE t ((jl N P').take i) (λa=>a≠d/\a≠j) G r
 refine kf (K:=K) (a:=lt) (xs:=Z) d6
  ⟨none,none,none,[],[],J,y9,gb,pb,bj _,bj _,(λk v e=>by cases e),J,λg R=>by cases R⟩ (λi σ G _ ⟨_,_,_,_,_,_,sG,_⟩=>aI.of (sG _ _ ca)) ?_ ?_
 . rintro i vt σ G b6 ⟨x8,x9,bl,B,r,rfl,sG,gG,pG,ey,ez,dt,aK,a3⟩;have hi:i<Z.length:=(cp.mp b6).1;obtain⟨tt,ay,dp⟩:=ix.get' b6;rw[aj]at ay;cases eg:(jl N P')[i]? with|none=>rw[eg]at ay;cases ay|some g=>
   rw[eg]at ay;cases ay;obtain⟨a,o,q,rfl,ha,ho,hq⟩:=Vh (br eg);have bC:Is G (tI [(a:Int),(o:Int),(q:Int)]) vt:=(dp.tups tw (vp _)).mono sG;have bI:aJ G cP cR t L xp:=PA.same (a1.trans (bx.trans sG));refine⟨xp,t,L,a,o,q,vt,J,bI,PH,bC,M.there o ho,by rw[(M.says o ho).1];exact hq,λvc G1 F t1 cl bd ic=>?_⟩;refine⟨xp,t,L,a,o,q,vt,J,bI.same t1,PH,bC.mono t1,M.there a ha,by rw[(M.says a ha).2];exact hq,λvg G2 jg t2 cc bb ig=>?_⟩;have U:=t1.trans t2;have bK:=sG.trans U;have a5:=gG.same U;have bB:=U _ _ pG;have av:Is G2 (.tup [hT [o],.int (F:Int)]) vc:=ic.mono t2;obtain⟨bc,xc,rfl,fa,e9⟩:=id av;have a8:∀k v,yz B k=some v->∃Z n h p,v=.ref Z/\aX (λa=>a≠d/\a≠j) G2 cS cU Z (ym t (yo h p) n)/\Wv (mM t) (zi (plan t)) (ym t (yo h p) n)/\k=(hZ h,(p:Int))/\(ym t (yo h p) n).ready=[]:=λk v e=>by obtain⟨Z,n,h,p,e1,e2,e3⟩:=dt k v e;exact⟨Z,n,h,p,e1,e2.same U,e3⟩
   have ba:∀g∈(jl N P').take i,rK t (λa=>a≠d/\a≠j) G2 r g:=λg R=>by obtain⟨a,o,q,l,st,e1,e2,e3,e4,e5⟩:=a3 g R;exact⟨a,o,q,l,st,e1,e2,e3,e4.by (U _) U.tups,e5⟩
   dsimp only[km,pK,Ends.sq,nD,tC,pU];refine uk (t:=pJ _ _ _) (λbJ G3=>∃(y:List ((List Int×Int)×V))(vs:V),bJ=[some v,some (.int (N:Int)),some (.int (P':Int)),some (.ref xp),some (.ref xr),some (.ref ao),some (.ref d),some (.ref j),some vt,some (.ref bc),some vg]/\zg (without [d,j] Hb) G3/\yw G2 G3/\bP cN P w G3 d y/\G3 j=some (.dT r)/\(∀g∈(jl N P').take i,rK t (λa=>a≠d/\a≠j) G3 r g)/\y.length<=i+1/\ (∀k v,yz y k=some v->∃Z n h p,v=.ref Z/\aX (λa=>a≠d/\a≠j) G3 cS cU Z (ym t (yo h p) n)/\Wv (mM t) (zi (plan t)) (ym t (yo h p) n)/\k=(hZ h,(p:Int))/\(ym t (yo h p) n).ready=[])/\yz y (hZ [o],(F:Int))=some vs) ?_ (λfin=>?_)
   rintro bJ G3 ⟨y,vs,rfl,C,bw,g3,p3,b7,bD,a7,ev⟩;obtain⟨S,n',h',p',rfl,SA,a6,ek,bM⟩:=a7 _ _ ev;obtain rfl:[o]=h':=qo (congrArg Prod.fst ek);obtain rfl:F=p':=Int.ofNat.inj (congrArg Prod.snd ek);have aq:Is G3 (.tup [hT [o],.int (F:Int)]) (.ref bc):=av.tups bw ⟨vp _,trivial,trivial⟩;have b4:Is G3 (.tup [hT [a],.int (jg:Int)]) vg:=ig.tups bw ⟨vp _,trivial,trivial⟩;have dr:Is G3 (tI [(a:Int),(o:Int),(q:Int)]) vt:=(bC.mono U).tups bw (vp _);obtain⟨bt,rfl,cn⟩:=zC dr;have cs:aX (λ_=>True) G3 cS cU S (ym t (yo [o] F) n'):=SA.keep (λ_ _ _ e=>e) (yw.refl _) λ_ _=>trivial;obtain⟨bE,eo,d3,ed,ea,f0,fx,fy,fL,z1,z2,z3,⟨os,z4,z5⟩,_⟩:=id SA;have ew:(ym t (yo [o] F) n').wov.length<=1200:=by have q:=a6.most;have q2:tot (mM t) (zi (plan t))=Xr t.ss (plan t):=Yd (jh t);have q4:Xr t.ss (plan t)<=1200:=PH.deeds;omega
   refine⟨d,bc,y,(hZ [o],(F:Int)),.ref S,J,J,g3,aq,ev,S,bE,_,J,z1,J,S,_,[a],jg,vg,J,cs,b4,_,J,?_⟩;by_cases c:jg<yb (ym t (yo [o] F) n').done [a];rw[bn c];refine ww ?_;refine⟨d,bc,y,(hZ [o],(F:Int)),.ref S,J,J,g3,aq,ev,S,bE,_,J,z1,J,S,_,[a],jg,vg,J,cs,b4,by rw[rp,a6.cnt];exact c,by omega,λl4 G4 j4 W e4 fn i4=>⟨bO,λp5 G5 s5 e8 dv=>?_⟩⟩;refine⟨p5,bt,_,_,J,J,aE.of dv,aE.of ((W.trans s5) _ _ cn),by simp,bO,(λz=>by cases z),λ_ p6 h6=>?_⟩;exact dn a o q _ p6 _ _ (s1.trans (a1.trans (bx.trans (C.trans ((W.trans s5).trans (zg.new h6 _)))))) ha ho hq ⟨⟨n',F,jg,⟨cl,bd⟩,⟨cc,bb⟩,J,bn c⟩,bM,a6⟩ zd;rw[c6 c];refine yi ?_;refine⟨d,bc,y,(hZ [o],(F:Int)),.ref S,J,J,g3,aq,ev,S,cS,bE,_,_,J,z1,CS.cls,CS.n,uv,d3,os,J,.inl (aI.of z4),λl4 aS=>?_⟩;have W:=zg.new aS (.lst os);have co:upd G3 l4 (.lst os) l4=some (.lst os):=zd;generalize upd G3 l4 (.lst os)=G4 at W co⊢;have b8:[(a:Int),(o:Int),(q:Int)] ∉ (jl N P').take i:=λz=>by have nd:=Fo N P';rw[<-List.take_append_drop i (jl N P'),List.nodup_append]at nd;exact nd.2.2 _ z _ (br (i:=0) (by rw[List.getElem?_drop];exact eg)) J
   have b9:yz r (kI [(a:Int),(o:Int),(q:Int)])=none:=by cases e:yz r (kI [(a:Int),(o:Int),(q:Int)])with|none=>rfl| some u=>have:=Vf e;rw[aK]at this;obtain⟨g,R,eg⟩:=bz.mp this;exact absurd (aT eg▸R) b8
   obtain⟨ej,d1⟩:=g3.some;have b0:l4≠d/\l4≠j:=⟨(λz=>by rw[z,d1]at aS;cases aS),λz=>by rw[z,p3]at aS;cases aS⟩
   refine⟨j,_,J,Jc.t (W _ _ p3) (W _ _ cn) (Zq (by omega)),?_⟩;have p4:=W _ _ p3;have g4:=g3.same W;have t5:yw G4 (upd G4 j (.dT (vi r (kI [(a:Int),(o:Int),(q:Int)]) (.ref l4)))):=yw.upd p4 (λ_ z=>by cases z);have lp:=xy r (kI [(a:Int),(o:Int),(q:Int)]) (.ref l4);refine⟨_,_,_,y,_,J,qa (C.trans W) (yf (by simp)),g4.by t5 (upd_ne (ak b2)),zd,bD,by omega,λk' v' e'=>?_,?_,λg R=>?_⟩
   . obtain⟨bk,n2,h2,p2,r1,r2,r3⟩:=a7 k' v' e';exact⟨bk,n2,h2,p2,r1,(r2.same W).keep (λb u nb e=>by rw[upd_ne nb.2];exact e) t5 (λ_ nb=>nb),r3⟩
   . rw[Zu _ b9,be,aK,cu,eg];simp
   . rw[cu,eg]at R;rcases c4.mp R with R|R
     . obtain⟨a2,o2,q2,l2,ap,e1,e2,e3,e4,e5⟩:=b7 g R;refine⟨a2,o2,q2,l2,ap,e1,?_,e3,(e4.by (W _) W.tups).by (λu e=>by rw[upd_ne e3.2];exact e) t5,e5⟩;rw[j0,if_neg (λz=>b8 (by have z:=aT z;rw[<-z];exact R))];exact e2
     . obtain rfl:g=[(a:Int),(o:Int),(q:Int)]:=by simpa using R
       exact⟨a,o,q,l4,_,J,by rw[j0,if_pos J],b0,(bT.mk os co (z5.mono W)).by (λu e=>by rw[upd_ne b0.2];exact e) t5,⟨n',F,jg,⟨cl,bd⟩,⟨cc,bb⟩,J,c6 c⟩,bM,a6⟩
   refine⟨d,bc,B,(hZ [o],(F:Int)),J,J,a5,av,_,J,?_⟩;cases ev:yz B (hZ [o],(F:Int))with|some vs=>exact yi (fin _ G2 ⟨B,vs,J,bK,yw.refl _,a5,bB,ba,by omega,a8,ev⟩)| none=>
     refine ww ?_;refine(λx dx hx dK eG=>?_);have sn:zg G2 (upd (upd G2 dx (.own x)) x (.ins cS dx [])):=λb o e=>by rw[upd_ne (zm e hx),upd_ne (zm e dK)];exact e
     refine⟨G2,x,dx,xp,.ref bc,t,L,[o],F,J,zd,sn,hx,bI.same U,PH,av.mono sn,λn3 G3 C d4 bD SA=>⟨J,?_⟩⟩;have g3:=a5.same C;have aq:=av.mono C;have p3:=C _ _ bB;refine⟨d,bc,B,(hZ [o],(F:Int)),J,J,g3,aq,Zq (by omega),λo' dE=>?_⟩;have lp:=xy B (hZ [o],(F:Int)) (.ref x);obtain⟨en,e2⟩:=a5.some;have b1:∀b,G2 b=none->b≠d/\b≠j:=λb nb=>⟨(λz=>by rw[z,e2]at nb;cases nb),(λz=>by rw[z,bB]at nb;cases nb)⟩
     refine fin _ (upd G3 d o') ⟨vi B (hZ [o],(F:Int)) (.ref x),.ref x,J,qa (bK.trans C) (yf (by simp)),C.tups.trans g3.tups,dE,(upd_ne b2).trans p3,(λg R=>by obtain⟨a2,o2,q2,l2,ap,e1,e2,e3,e4,e5⟩:=ba g R;exact⟨a2,o2,q2,l2,ap,e1,e2,e3,(e4.by (C _) C.tups).by (λu e=>by rw[upd_ne e3.1];exact e) g3.tups,e5⟩),by omega,λk' v' e'=>?_,by rw[j0,if_pos J]⟩
     rw[j0]at e';by_cases ck:k'=(hZ [o],(F:Int));rw[if_pos ck]at e';cases e';exact⟨x,n3,[o],F,J,SA.keep (λb u nb e=>by rw[upd_ne (b1 b nb).1];exact e) g3.tups b1,d4,ck,bD⟩;rw[if_neg ck]at e';obtain⟨bk,n2,h2,p2,r1,r2,r3⟩:=a8 k' v' e';exact⟨bk,n2,h2,p2,r1,(r2.same C).keep (λb u nb e=>by rw[upd_ne nb.1];exact e) g3.tups (λ_ nb=>nb),r3⟩
 rintro σ G ⟨x8,x9,bl,B,r,rfl,sG,gG,pG,_,_,_,aK,a3⟩;rw[b5,cw]at aK a3;exact⟨bO,λq9 H9 s9 e0 h9=>dh _ _ r H9 (s1.trans (a1.trans (bx.trans (sG.trans s9)))) (y7 s1 (y7 a1 b3)) h9 (s9 _ _ pG) ⟨aK,λg R=>by obtain⟨a2,o2,q2,l2,ap,e1,e2,e3,e4,e5⟩:=a3 g R;exact⟨a2,o2,q2,l2,ap,e1,e2,trivial,e4.by (s9 _) s9.tups,e5⟩⟩⟩
end
noncomputable def uJ(n i q:Nat):List aH:=[.rai 0 1,.awa 0 ((n:Int)*((q:Int)+1))]
noncomputable def dG(n i:Nat):List Nat:=(List.range n).filter λj=>decide (j≠i)
noncomputable def mZ(n i q:Nat):List aH:=.rai (i:Int) 1::(dG n i).map λj:Nat=>aH.awa (j:Int) ((q:Int)+1)
noncomputable def fS(n i:Nat):List Nat:=[2*i+1,2*i+2].filter λj=>decide (j<n)
noncomputable def mX(n i q:Nat):List aH:=(fS n i).map (λj:Nat=>aH.awa (j:Int) ((q:Int)+1))++[.rai (i:Int) 1]++(if i=0 then[]else[.awa 0 ((q:Int)+1)])
theorem qD{b k:Int}(h:H p=some (.tup [.str "raise",.int b,.int k])):Is H (eD (.rai b k)) (.ref p):=⟨p,_,J,h,_,_,J,J,_,_,J,J,_,_,J,J,J⟩
theorem nJ{b k:Int}(h:H p=some (.tup [.str "await",.int b,.int k])):Is H (eD (.awa b k)) (.ref p):=⟨p,_,J,h,_,_,J,J,_,_,J,J,_,_,J,J,J⟩
theorem wZ(h:H p=some (.tup [.str "say",.str x])):Is H (eD (.say x)) (.ref p):=⟨p,_,J,h,_,_,J,J,_,_,J,J,J⟩
theorem nK{xs:O V}{a:O T}(h:H l=some (.lst xs))(i:IsL H a xs):Is H (.lst a) (.ref l):=⟨l,xs,J,h,i⟩
theorem qy{H:Hp}:∀{c b:List T}{xs a:List V},IsL H c xs->IsL H b a->IsL H (c++b) (xs++a)|[],b,xs,a,h,g=>by cases(h);exact g| t::c,b,xs,a,h,g=>by obtain⟨v,r,rfl,e,d⟩:=h;exact⟨v,r++a,J,e,qy d g⟩
theorem ji{t:T}(h:Is H t v):IsL H [t] [v]:=⟨v,[],J,h,J⟩
theorem Qe{i j:Int}(d:0<=i)(c:i<=1000)(b:0<=j)(a:j<=1000):jQ i j:=by unfold jQ;omega
theorem As(n i:Nat):(List.range (n+1)).filter (λj=>decide (j≠i))=(List.range n).filter (λj=>decide (j≠i))++if n≠i then[n]else[]:=by
 rw[List.range_succ,List.filter_append]
 grind
theorem EX(n i:Nat):(dG n i).length<=n:=by
 unfold dG
 grind
theorem yF(n i:Nat):(fS n i).length<=2:=by unfold fS;grind
theorem DF{X:Cx}:qV X .Mult (rI jQ λi j=>.int (i*j)):=by intro a s b H x y v u Q I d c h;exact E9 a s b H x y v u Q I d c h
theorem dM.mems(a:O fY):qt (a.map pE):=by rw[qt.all];intro t b;obtain⟨m,_,rfl⟩:=bz.mp b;exact⟨trivial,trivial,trivial⟩
theorem dM.deed(d:aH):dM (eD d):=by cases d with| beg j a=>exact⟨trivial,trivial,dM.mems a,trivial⟩|_=>first|exact⟨trivial,trivial,trivial⟩|exact⟨trivial,trivial,trivial,trivial⟩
theorem dM.deeds(b:O aH):qt (b.map eD):=by rw[qt.all];intro t a;obtain⟨m,_,rfl⟩:=bz.mp a;exact dM.deed m
structure Gr(H0 H:Hp)(l:Addr)(ds:List aH)(ys:List V):Prop where
 same:zg H0 H
 at':H l=some (.lst ys)
 it:IsL H (ds.map eD) ys
theorem Gr.len{a:O aH}(g:Gr H0 H l a ys):ys.length=a.length:=by have:=g.it.length;rw[ae]at this;exact this
theorem Gr.apps{c es:O aH}{a:O V}(h:H0 l=none)(g:Gr H0 H l c ys)(s:zg H H1)(i:IsL H1 (es.map eD) a):Gr H0 (upd H1 l (.lst (ys++a))) l (c++es) (ys++a):=by
 have d:yw H1 (upd H1 l (.lst (ys++a))):=λb f e=>by rw[upd_ne (λz=>by rw[z,s _ _ g.at']at e;cases e)];exact e
 refine⟨λb o e=>?_,zd,?_⟩;rw[upd_ne (λz=>by simp_all)];exact s _ _ (g.same _ _ e);rw[be];exact qy (IsL.tups d (dM.deeds c) (g.it.mono s)) (IsL.tups d (dM.deeds es) i)
theorem Gr.app{a:O aH}{d:aH}(b:H0 l=none)(g:Gr H0 H l a ys)(s:zg H H1)(i:Is H1 (eD d) v):Gr H0 (upd H1 l (.lst (ys++[v]))) l (a++[d]) (ys++[v]):=g.apps b s (ji i)
theorem Gr.nil(a:H l=none):Gr H (upd H l (.lst [])) l [] []:=⟨zg.new a _,zd,J⟩
theorem Vj{n:Nat}(h:n<1000):n<sizeLine:=cf h (xj (ag 1000))
theorem Yo{a n:Nat}(h:a<n):((i:Int)-(a:Int))%(n:Int)=(((i+n-a)%n:Nat):Int):=by rw[Int.natCast_emod,Int.ofNat_sub (by omega),Int.natCast_add,show((i:Int)+n-a)=(i-a)+n by omega,Int.add_emod_right]
noncomputable def lB(n i q:Nat):Nat->Nat->Nat->List aH|0,_,_=>[]|f+1,k,B=>if B<n then aH.rai ((k*n+i:Nat):Int) 1::.awa ((k*n+(i+n-B)%n:Nat):Int) ((q:Int)+1)::lB n i q f (k+1) (2*B)else[]
noncomputable def oY(n i q:Nat):List aH:=lB n i q 5 0 1
noncomputable def mT(n:Nat):Nat->Nat->Nat|0,_=>0|f+1,B=>if B<n then mT n f (2*B)+1 else 0
theorem Fj{n:Nat}:∀{f k a:Nat},n<=a->lB n i q f k a=[]|0,_,_,_=>rfl|f+1,k,a,h=>by unfold lB;rw[if_neg (by omega)]
def K4(kd:Str):Prop:=kd="shared"\/kd="own"\/kd="spread"\/kd="tree"
noncomputable def mY(kd:Str)(n i q:Nat):List aH:=if kd="shared" then uJ n i q else if kd="own" then mZ n i q else if kd="spread" then oY n i q else mX n i q
noncomputable def one(kd:Str)(n i q:Nat):List aH:=.say "come"::mY kd n i q++[.say "go"]
noncomputable def eW(kd:Str)(n i p:Nat):List aH:=(List.range p).flatMap (one kd n i)
theorem zR{n i q:Nat}:∀(f k a:Nat),(lB n i q f k a).length<=2*f
 |0,_,_=>ag 0
 | f+1,k,a=>by
   unfold lB;by_cases h:a<n;rw[if_pos h,df,df];have:=zR (n:=n) (i:=i) (q:=q) f (k+1) (2*a);omega
   grind
theorem io{n:Nat}(h:i<n):(dG n i).length+1<=n:=by
 unfold dG;have a:=(List.length_filter_lt_length_iff_exists (p:=λj=>decide (j≠i))).mpr ⟨i,da.mpr h,by simp⟩
 grind
theorem yH{n:Nat}(d:i<n)(e:n<=16):(mY kd n i q).length<=16:=by
 unfold mY;by_cases c:kd="shared";rw[if_pos c];show 2<=16;decide;rw[if_neg c];by_cases b:kd="own";rw[if_pos b];unfold mZ;rw[df,ae];have:=io d;omega;rw[if_neg b];by_cases a:kd="spread";rw[if_pos a];have:=zR (n:=n) (i:=i) (q:=q) 5 0 1;unfold oY;omega;rw[if_neg a];unfold mX;rw[c7,c7,ae];have:=yF n i
 grind
theorem EV{n:Nat}(b:i<n)(a:n<=16):(one kd n i q).length<=18:=by
 unfold one;rw[c7,df];have:=yH (kd:=kd) (q:=q) b a
 simp_all
theorem Aj(kd:Str)(n i p:Nat):eW kd n i (p+1)=eW kd n i p++one kd n i p:=by unfold eW;rw[List.range_succ,List.flatMap_append];simp
theorem yI{kd:Str}{n i:Nat}(b:i<n)(a:n<=16):∀p,(eW kd n i p).length<=18*p|0=>ag 0| p+1=>by rw[Aj,c7];have:=yI (kd:=kd) b a p;have:=EV (kd:=kd) (q:=p) b a;omega
noncomputable def bt(n:Nat):Nat:=Builtin.Int.intBits ((n:Int)-1)
noncomputable def dU(kd:Str)(n:Nat):Int:=if kd="shared" then 1 else if kd="spread" then(n:Int)*(bt n:Int)else(n:Int)
noncomputable def hk(kd:Str)(n p:Nat):aB:=⟨dU kd n,0,(List.range n).map λi=>((i:Nat),([]:List fY)),(List.range n).map λi=>eW kd n i p⟩
theorem Lc(j:Nat):(List.range (j+1)).map (λi=>eC ((i:Nat),([]:O fY)))=(List.range j).map (λi=>eC ((i:Nat),([]:O fY)))++[eC (j,[])]:=by rw[List.range_succ,be];rfl
theorem Ls(kd:Str)(n p j:Nat):(List.range (j+1)).map (λi=>eS (eW kd n i p))=(List.range j).map (λi=>eS (eW kd n i p))++[eS (eW kd n j p)]:=by rw[List.range_succ,be];rfl
end My
namespace My
variable{l s0:List Int}
section
variable{A D:Type}[DecidableEq A]
noncomputable def vx(l:List (Nat×List A)):List A:=l.flatMap (·.2)
theorem yD{l:O (Nat×O A)}{h:A}:h∈vx l↔∃r∈l,h∈r.2:=List.mem_flatMap
theorem tE{b:Nat}:∀(l:List (Nat×List A)),(vx l).Perm (Y7 l b++vx (Zo l b))
 |[]=>.refl _
 | (c,a)::r=>by
   unfold Y7 Zo;by_cases e:c=b
   . rw[if_pos e,if_pos e];exact .refl _
   . rw[if_neg e,if_neg e];show(a++vx r).Perm (Y7 r b++(a++vx (Zo r b)));refine((tE (b:=b) r).append_left a).trans ?_;rw[<-List.append_assoc,<-List.append_assoc];exact List.perm_append_comm.append_right _
theorem qF{b:Nat}{h:A}:∀(l:List (Nat×List A)),(vx (kh l b h)).Perm (h::vx l)
 |[]=>.refl _
 | (c,a)::r=>by
   unfold kh;by_cases e:c=b
   . rw[if_pos e];show(a++[h]++vx r).Perm (h::(a++vx r));rw[List.append_assoc];exact List.perm_middle
   . rw[if_neg e];show(a++vx (kh r b h)).Perm (h::(a++vx r));exact((qF r).append_left a).trans List.perm_middle
theorem tD{b:Nat}:∀{l:List (Nat×List A)},(l.map (·.1)).Nodup->((Zo l b).map (·.1)).Nodup/\∀r∈Zo l b,r∈l/\r.1≠b
 |[],_=>⟨List.nodup_nil,λ_ h=>nomatch h⟩
 | (c, m)::q,j=>by
   obtain⟨i,g⟩:=c9.mp j;unfold Zo;by_cases e:c=b
   . rw[if_pos e];exact⟨g,λr a=>⟨bv _ a,λz=>i (by show c∈_;rw[e,<-z];exact List.mem_map_of_mem (f:=(·.1)) a)⟩⟩
   . rw[if_neg e];obtain⟨k,d⟩:=tD (b:=b) g;refine⟨c9.mpr ⟨λz=>?_,k⟩,λr a=>?_⟩
     . obtain⟨r,a,f⟩:=bz.mp z;exact i (by show c∈_;have f:r.1=c:=f;rw[<-f];exact List.mem_map_of_mem (f:=(·.1)) (d r a).1)
     . rcases az.mp a with z|z
       . rw[z];exact⟨c5,e⟩
       . exact⟨bv _ (d r z).1,(d r z).2⟩
theorem yC{b:Nat}{h:A}:∀{l:List (Nat×List A)},(l.map (·.1)).Nodup->((kh l b h).map (·.1)).Nodup/\(∀k∈(kh l b h).map (·.1),k=b\/k∈l.map (·.1))/\∀r∈kh l b h,∀x∈r.2,(x=h/\r.1=b)\/∃q∈l,q.1=r.1/\x∈q.2
 |[],_=>⟨by simp[kh],by simp[kh],by simp[kh]⟩
 | (c, s)::q,j=>by
   obtain⟨g,f⟩:=c9.mp j;unfold kh;by_cases e:c=b
   . rw[if_pos e];refine⟨c9.mpr ⟨g,f⟩,λk hk=>.inr hk,λr d x a=>?_⟩;rcases az.mp d with z|z
     . rw[z]at a⊢;rcases c4.mp a with y|y
       . exact .inr ⟨_,c5,J,y⟩
       . exact .inl ⟨ai.mp y,e⟩
     . exact .inr ⟨_,bv _ z,J,a⟩
   . rw[if_neg e];obtain⟨n,i,m⟩:=yC (b:=b) (h:=h) f;refine⟨c9.mpr ⟨λz=>?_,n⟩,λk hk=>?_,λr d x a=>?_⟩
     . rcases i _ z with y|y
       . exact e y
       . exact g y
     . rcases az.mp hk with z|z
       . exact .inr (by rw[z];exact c5)
       . exact(i k z).imp id (bv _)
     . rcases az.mp d with z|z
       . rw[z]at a⊢;exact .inr ⟨_,c5,J,a⟩
       . exact(m r z x a).imp id λ⟨y,o,p⟩=>⟨y,bv _ o,p⟩
variable(M:dB A D)
inductive Lg(held:A->Nat->Bool)(d0:List (A×Nat))(s0:List Int):List A->List (A×Nat)->List Int->Prop|nil:Lg held d0 s0 [] d0 s0|snoc:∀{s:WS A}{h:A}{x:D},Lg held d0 s0 s.wov s.done s.sums->h∈zi s.done->Zg M s h=true->cQ M s h=some x->held h (yb s.done h)=false->Lg held d0 s0 (s.wov++[h]) (jm M s h) (aN s.sums (M.ra x))
structure WI(held:A->Nat->Bool)(d0:List (A×Nat))(s0:List Int)(s:WS A):Prop where
 one:(s.ready++(vx s.wait++s.stop)).Nodup
 key:(s.wait.map (·.1)).Nodup
 cov:∀h∈zi s.done,h∈s.ready\/h∈vx s.wait\/h∈s.stop\/cQ M s h=none
 wt:∀r∈s.wait,∀h∈r.2,∃x m,cQ M s h=some x/\M.aw x=some (r.1,m)/\¬m<=s.sums.getD r.1 0
 st:∀h∈s.stop,held h (yb s.done h)=true
 lg:Lg M held d0 s0 s.wov s.done s.sums
theorem Gk{s:WS A}{h:A}{x:D}(a:cQ M s h=some x)(m:¬Zg M s h=true):∃b k,M.aw x=some (b,k)/\¬k<=s.sums.getD b 0:=by unfold Zg at m;rw[a]at m;cases e:M.aw x with|none=>simp[e]at m|some q=>exact⟨q.1,q.2,J,by simpa[e]using m⟩
theorem JH{r:Option (Nat×Int)}{b:Nat}(h:∀c k,r=some (c,k)->c≠b):(aN l r).getD b 0=l.getD b 0:=by cases r with|none=>rfl|some p=>simp[aN,c8,List.getElem?_set_ne (h p.1 p.2 J)]
theorem WI.stopped{held:A->Nat->Bool}{d:O (A×Nat)}{s:WS A}(W:WI M held d s0 s){r:O A}{h:A}(b:s.ready=r++[h])(hh:held h (yb s.done h)=true):WI M held d s0 {s with ready:=r,stop:=s.stop++[h]}:=by
 refine⟨?_,W.key,λx a=>?_,W.wt,λx a=>?_,W.lg⟩
 . have o:=W.one;rw[b]at o;refine(List.Perm.nodup_iff ?_).mp o;show(r++[h]++(vx s.wait++s.stop)).Perm (r++(vx s.wait++(s.stop++[h])));rw[List.append_assoc,<-List.append_assoc (vx s.wait)];exact List.perm_append_comm.append_left r
 . rcases W.cov x a with c|c|c|c
   . rw[b]at c;rcases c4.mp c with y|y
     . exact .inl y
     . exact .inr (.inr (.inl (d7 _ y)))
   . exact .inr (.inl c)
   . exact .inr (.inr (.inl (dj _ c)))
   . exact .inr (.inr (.inr c))
 . rcases c4.mp a with y|y
   . exact W.st x y
   . rw[ai.mp y];exact hh
theorem WI.turn {held:A->Nat->Bool} {S:List (A×Nat)} {s:WS A} (K:∀h p,M.bg h p=none) (W:WI M held S s0 s) {r:List A} {h:A} (l:s.ready=r++[h]) (hk:h∈zi s.done):WI M held S s0 (jn M held {s with ready:=r} h):=by
 have o:=W.one;rw[l]at o;have H:(h::(r++(vx s.wait++s.stop))).Nodup:=(List.Perm.nodup_iff (by rw[List.append_assoc];exact List.perm_middle)).mp o;obtain⟨L,D⟩:=c9.mp H;have Z:h ∉ vx s.wait:=λz=>L (d7 _ (dj _ z));have ns:h ∉ s.stop:=λz=>L (d7 _ (d7 _ z));unfold jn;cases e:cQ M {s with ready:=r} h with
 | none=>
   by_cases c:held h (yb s.done h)=true
   . simp only[c,if_true];exact W.stopped M l c
   . simp only[c,if_false,Bool.false_eq_true];refine⟨D,W.key,λx a=>?_,W.wt,W.st,W.lg⟩;rcases W.cov x a with c|c
     . rw[l]at c;rcases c4.mp c with y|y
       . exact .inl y
       . rw[ai.mp y];exact .inr (.inr (.inr e))
     . exact .inr c
 | some d =>
   have R:cQ M s h=some d:=e;by_cases c:held h (yb s.done h)=true
   . simp only[c,if_true];exact W.stopped M l c
   . simp only[c,if_false,Bool.false_eq_true];by_cases m:Zg M {s with ready:=r} h=true
     . simp only[m,if_true];have F:jm M {s with ready:=r} h=v4 s.done h (yb s.done h+1):=by unfold jm;rw[K];rfl
       have P:∀x,x≠h->yb (v4 s.done h (yb s.done h+1)) x=yb s.done x:=λx a=>by rw[Zc,if_neg (λz=>a z.symm)]
       have N:∀x,x≠h->cQ M (Ye M {s with ready:=r} h d) x=cQ M s x:=λx a=>by unfold cQ Ye;rw[F];show(M.scr x)[yb (v4 s.done h _) x]?=_;rw[P x a]
       have X:∀x,x∈Zd {s with ready:=r} (M.ra d)++vx (jb {s with ready:=r} (M.ra d))↔x∈vx s.wait:=λx=>by
        cases q:M.ra d with
        |none=>exact c4.trans ⟨λz=>z.elim (λy=>nomatch y) id,.inr⟩
        |some p=>exact(tE s.wait).mem_iff.symm
       refine⟨?_,?_,λx a=>?_,λq f x a=>?_,λx a=>?_,Lg.snoc W.lg hk m e (Bool.eq_false_iff.mpr c)⟩
       . refine(List.Perm.nodup_iff ?_).mp o;have C:(Zd {s with ready:=r} (M.ra d)++vx (jb {s with ready:=r} (M.ra d))).Perm (vx s.wait):=by
          cases q:M.ra d with
          |none=>exact .refl _
          |some p=>exact(tE s.wait).symm
         show(r++[h]++(vx s.wait++s.stop)).Perm (r++Zd {s with ready:=r} (M.ra d)++[h]++(M.bg h (yb s.done h)).toList++(vx (jb {s with ready:=r} (M.ra d))++s.stop));rw[K];show(r++[h]++(vx s.wait++s.stop)).Perm (r++Zd {s with ready:=r} (M.ra d)++[h]++[]++(vx (jb {s with ready:=r} (M.ra d))++s.stop));rw[cq];generalize Zd {s with ready:=r} (M.ra d)=u at C⊢;generalize vx (jb {s with ready:=r} (M.ra d))=v at C⊢;simp only[List.append_assoc];refine List.Perm.append_left r ?_;refine((C.symm.append_right s.stop).append_left [h]).trans ?_;simp only[List.append_assoc];rw[<-List.append_assoc [h] u,<-List.append_assoc u [h]];exact List.perm_append_comm.append_right _
       . cases q:M.ra d with
         |none=>simpa[Ye,jb,q]using W.key
         |some p=>simpa[Ye,jb,q]using(tD (b:=p.1) W.key).1
       . have E:x∈zi s.done:=by have:x∈zi (jm M {s with ready:=r} h):=a;rw[F,Z7 hk]at this;exact this
         by_cases g:x=h
         . refine .inl ?_;show x∈r++Zd _ _++[h]++_;rw[g];exact dj _ (d7 _ c5)
         . rcases W.cov x E with y|y|y|y
           . rw[l]at y;rcases c4.mp y with z|z
             . exact .inl (dj _ (dj _ (dj _ z)))
             . exact absurd (ai.mp z) g
           . rcases c4.mp ((X x).mpr y)with z|z
             . exact .inl (dj _ (dj _ (d7 _ z)))
             . exact .inr (.inl z)
           . exact .inr (.inr (.inl y))
           . exact .inr (.inr (.inr ((N x g).trans y)))
       . have i:q∈s.wait/\∀c k,M.ra d=some (c,k)->c≠q.1:=by
          have f:q∈jb {s with ready:=r} (M.ra d):=f;cases z:M.ra d with
          |none=>rw[z]at f;exact⟨f,λc k y=>nomatch y⟩
          | some p=>rw[z]at f;obtain⟨a1,a2⟩:=(tD (b:=p.1) W.key).2 q f;exact⟨a1,λc k y=>by cases y;exact λw=>a2 w.symm⟩
         obtain⟨y,k,B,t,n⟩:=W.wt q i.1 x a;have g:x≠h:=λz=>Z (yD.mpr ⟨q,i.1,z▸a⟩);refine⟨y,k,(N x g).trans B,t,?_⟩;show¬k<=(aN s.sums (M.ra d)).getD q.1 0;rw[JH i.2];exact n
       . have g:x≠h:=λz=>ns (z▸a);show held x (yb (jm M _ h) x)=true;rw[F,P x g];exact W.st x a
     . simp only[m,if_false,Bool.false_eq_true];obtain⟨b,k,Q,e2⟩:=Gk M R m;simp only[Q];obtain⟨k1,k2,k3⟩:=yC (b:=b) (h:=h) W.key;refine⟨?_,k1,λx a=>?_,λq f x a=>?_,W.st,W.lg⟩
       . refine(List.Perm.nodup_iff ?_).mp H;show(h::(r++(vx s.wait++s.stop))).Perm (r++(vx (kh s.wait b h)++s.stop));refine List.perm_middle.symm.trans (List.Perm.append_left r ?_);exact((qF s.wait).symm.append_right s.stop)
       . rcases W.cov x a with y|y|y
         . rw[l]at y;rcases c4.mp y with z|z
           . exact .inl z
           . exact .inr (.inl ((qF s.wait).mem_iff.mpr (by rw[ai.mp z];exact c5)))
         . exact .inr (.inl ((qF s.wait).mem_iff.mpr (bv _ y)))
         . exact .inr (.inr y)
       . rcases k3 q f x a with⟨rfl,z⟩|⟨p,hp,G,U⟩
         . exact⟨d,k,R,by rw[z];exact Q,by rw[z];exact e2⟩
         . obtain⟨y,j,B,t,n⟩:=W.wt p hp x U;exact⟨y,j,B,by rw[<-G];exact t,by rw[<-G];exact n⟩
theorem WI.fin{held:A->Nat->Bool}{g:O (A×Nat)}{s:WS A}(W:WI M held g s0 s)(e:s.ready=[]){h:A}(hk:h∈zi s.done):held h (yb s.done h)=true\/Zg M s h=false:=by
 rcases W.cov h hk with y|y|y|y
 . rw[e]at y;nomatch y
 . obtain⟨r,b,a⟩:=yD.mp y;obtain⟨x,m,f,d,c⟩:=W.wt r b h a;refine .inr ?_;unfold Zg;rw[f];simp only[d];exact c6 c
 . exact .inl (W.st h y)
 . refine .inr ?_;unfold Zg;rw[y]
end
end My
namespace My
variable{s s0:List Int}
section
variable{A D:Type}[DecidableEq A]{M:dB A D}{held:A->Nat->Bool}{d0:List (A×Nat)}
theorem Lg.det{b:A->Nat->Bool}{k:List A}{d:List (A×Nat)}(L:Lg M held d0 s0 k d s):∀{i:List (A×Nat)}{f:List Int},Lg M b d0 s0 k i f->i=d/\f=s:=by
 induction L with
 | nil=>
   intro i f c;generalize e:([]:List A)=m at c;cases c with
   |nil=>exact⟨J,J⟩
   |snoc _ _ _ _ _=>simp at e
 | snoc L hk w j z n=>
   rename_i s h x
   intro i f c;generalize e:s.wov++[h]=m at c;cases c with
   |nil=>simp at e
   | snoc L2 p o a q=>
     rename_i t g y
     obtain⟨u,r⟩:=List.append_inj' e J;cases r;rw[<-u]at L2;obtain⟨l,v⟩:=n L2;have a:(M.scr h)[yb t.done h]?=some y:=a;have j:(M.scr h)[yb s.done h]?=some x:=j;rw[l,j]at a;cases a;unfold jm;rw[l,v];exact⟨J,J⟩
theorem Lg.at{a:List A}{d:List (A×Nat)}{s:List Int}(L:Lg M held d0 s0 a d s):∀{i:Nat}{h:A}{t:WS A},a[i]?=some h->t.wov=a.take i->Lg M held d0 s0 t.wov t.done t.sums->h∈zi t.done/\Zg M t h=true/\∃x,cQ M t h=some x/\Lg M held d0 s0 (a.take (i+1)) (jm M t h) (aN t.sums (M.ra x)):=by
 induction L with|nil=>intro i h t e;cases e| snoc L hk l k o n=>
   rename_i s g x
   intro i h t e b j;rcases Nat.lt_trichotomy i s.wov.length with c|c|c
   . rw[List.getElem?_append_left c]at e;rw[List.take_append_of_le_length (Nat.le_of_lt c)]at b;rw[List.take_append_of_le_length c];exact n e b j
   . subst c;rw[List.getElem?_append_right (ag _),Nat.sub_self]at e;cases e;rw[List.take_left]at b;rw[b]at j;obtain⟨f,m⟩:=L.det j;have r:Zg M t g=Zg M s g:=by unfold Zg cQ;rw[f,m]
     have q:cQ M t g=cQ M s g:=by unfold cQ;rw[f]
     have p:jm M t g=jm M s g:=by unfold jm;rw[f]
     rw[r,q,p,f,m,List.take_of_length_le (by simp)];exact⟨hk,l,x,k,.snoc L hk l k o⟩
   . rw[dq (by simp;omega)]at e;cases e
end
end My
namespace My
variable{F s:List Nat}{hh hp:Nat}{hl:Nat->Nat->Bool}
inductive Cd|r (b k:Nat)|a (b m:Nat)|o
deriving DecidableEq
noncomputable def pc(b:Nat):Cd->Nat|.r c k=>if c=b then k else 0|_=>0
noncomputable def fV(b:Nat)(l:List Cd):Nat:=(l.map (pc b)).sum
noncomputable def eQ:List (List Cd)->(Nat->Nat)->Nat->Nat|[],_,_=>0|l::S,c,b=>fV b (l.take (c 0))+eQ S (λi=>c (i+1)) b
noncomputable def Xu(c:Nat->Nat)(i:Nat):Nat->Nat:=λx=>if x=i then c x+1 else c x
noncomputable def li(B:Nat->Nat):Cd->Bool|.a b m=>decide (m<=B b)|_=>true
noncomputable def W8(S:List (List Cd))(hl:Nat->Nat->Bool)(c:Nat->Nat)(i:Nat):Bool:=match(S.getD i [])[c i]? with|none=>false|some d=> !hl i (c i) && li (eQ S c) d
inductive Rc(S:List (List Cd))(hl:Nat->Nat->Bool):(Nat->Nat)->Prop|zero:Rc S hl λ_=>0|step:∀{c i},Rc S hl c->i<S.length->W8 S hl c i=true->Rc S hl (Xu c i)
theorem Ao{b:Nat}:∀{l:List Cd}{p q:Nat},p<=q->fV b (l.take p)<=fV b (l.take q)|[],_,_,_=>by simp|d::l,0,q,_=>by simp[fV]|d::l,p+1,0,h=>by omega| d::l,p+1,q+1,h=>by have:=Ao (b:=b) (l:=l) (Nat.le_of_succ_le_succ h);simp only[fV,List.take_succ_cons,cb,List.sum_cons]at this⊢;omega
theorem xD{b:Nat}:∀{S:List (List Cd)}{c e:Nat->Nat},(∀i,i<S.length->c i<=e i)->eQ S c b<=eQ S e b|[],_,_,_=>ag _|l::S,c,e,h=>Nat.add_le_add (Ao (h 0 (Nat.succ_pos _))) (xD λi a=>h (i+1) (Nat.succ_lt_succ a))
theorem vL{S:List (List Cd)}{F c:Nat->Nat}(l:∀i,i<S.length->W8 S hl F i=false)(R:Rc S hl c):∀i,i<S.length->c i<=F i:=by
 induction R with|zero=>exact λi _=>bj _| step R n a f=>
   rename_i c j
   intro x g;unfold Xu;by_cases e:x=j
   . subst e;rw[if_pos J];rcases Nat.lt_or_ge (c x) (F x)with z|z
     . exact z
     . have q:c x=F x:=Nat.le_antisymm (f x g) z;have:=l x g;unfold W8 at this a;rw[<-q]at this;cases h:(S.getD x [])[c x]? with|none=>rw[h]at a;cases a| some d=>simp only[h]at this a;rw[cg]at a;rw[a.1,Bool.true_and]at this;cases d with| a b m=>have p:=ce a.2;have o:=of_decide_eq_false this;have:=xD (b:=b) f;omega|r b k=>cases this|o=>cases this
   . rw[if_neg e];exact f x g
theorem Ct{S:O (O Cd)}{F c:Nat->Nat}(R:Rc S hl F)(d:∀i,i<S.length->W8 S hl F i=false)(e:Rc S hl c)(a:∀i,i<S.length->W8 S hl c i=false):∀i,i<S.length->c i=F i:=λi b=>Nat.le_antisymm (vL d e i b) (vL a R i b)
theorem Rc.held{S:List (List Cd)}{c:Nat->Nat}(h:hl hh hp=true)(R:Rc S hl c):c hh<=hp:=by
 induction R with|zero=>exact bj _| step R d a b=>
   rename_i c i
   unfold Xu;by_cases e:hh=i
   . rw[if_pos e];rcases Nat.lt_or_ge (c hh) hp with z|z
     . exact z
     . have q:c hh=hp:=Nat.le_antisymm b z;unfold W8 at a;rw[<-e,q,h]at a;split at a<;>simp at a
   . rw[if_neg e];exact b
noncomputable def Jp:List Nat->Nat->Nat->List Nat|[],_,_=>[]|x::r,0,k=>(x+k)::r|x::r,b+1,k=>x::Jp r b k
noncomputable def iV(st:Nat):List Cd->Nat->List Nat->(Nat×List Cd)×List Nat|[],p,s=>((p,[]),s)| d::l,p,s=>if p=st then((p,d::l),s)else match d with|.o=>iV st l (p+1) s|.r b k=>iV st l (p+1) (Jp s b k)|.a b m=>if m<=s.getD b 0 then iV st l (p+1) s else((p,d::l),s)
noncomputable def jT(hh hp:Nat):Nat->List (Nat×List Cd)->List Nat->List (Nat×List Cd)×List Nat|_,[],s=>([],s)| i,(p,l)::r,s=>match iV (if i=hh then hp else 1000) l p s with| (x,s)=>match jT hh hp (i+1) r s with|(y,s)=>(x::y,s)
noncomputable def lm(hh hp:Nat):Nat->List (Nat×List Cd)->List Nat->List (Nat×List Cd)×List Nat|0,x,s=>(x,s)| f+1,x,s=>match jT hh hp 0 x s with|(y,t)=>if y.map (·.1)=x.map (·.1)then(y,t)else lm hh hp f y t
noncomputable def B4(st:Nat)(s:List Nat)(p:Nat):List Cd->Bool|[]=>true|d::_=>decide (p=st) || !(li (λb=>s.getD b 0) d)
noncomputable def nA(hh hp:Nat)(s:List Nat):Nat->List (Nat×List Cd)->Bool|_,[]=>true|i,(p,l)::r=>B4 (if i=hh then hp else 1000) s p l && nA hh hp s (i+1) r
noncomputable def fin(S:List (List Cd))(b hh hp:Nat):Option (List Nat):=match lm hh hp 60 (S.map λl=>(0,l)) (List.replicate b 0)with|(x,s)=>if nA hh hp s 0 x then some (x.map (·.1))else none
noncomputable def fR(hh hp i p:Nat):Bool:=decide (i=hh) && decide (p=hp)
theorem wA{i p:Nat}(h:p<1000):fR hh hp i p=decide (p=if i=hh then hp else 1000):=by
 unfold fR;by_cases e:i=hh
 . simp[e]
 . have:¬p=1000:=by omega
   simp[e,this]
structure fI(S:List (List Cd))(nb hh hp:Nat)(c:Nat->Nat)(s:List Nat):Prop where
 rc:Rc S (fR hh hp) c
 lv:∀b,b<nb->s.getD b 0=eQ S c b
 len:s.length=nb
theorem A7{k:Nat}:∀{s:List Nat}{b:Nat},(Jp s b k).length=s.length|[],_=>rfl|x::r,0=>rfl|x::r,b+1=>congrArg (· +1) (A7 (s:=r) (b:=b))
theorem Bs{k c:Nat}:∀{s:List Nat}{b:Nat},b<s.length->(Jp s b k).getD c 0=s.getD c 0+if b=c then k else 0|[],_,h=>nomatch h|x::r,0,_=>by cases c<;>simp[Jp,List.getD]| x ::r,b+1,h=>by cases c with|zero=>simp[Jp,List.getD]| succ c=>have:=Bs (k:=k) (c:=c) (s:=r) (b:=b) (Nat.lt_of_succ_lt_succ h);simp only[Jp,List.getD_cons_succ]at this⊢;rw[this];simp
theorem ur{b:Nat}:∀{S:List (List Cd)}{c:Nat->Nat}{i:Nat}{d:Cd},(S.getD i [])[c i]?=some d->eQ S (Xu c i) b=eQ S c b+pc b d
 |[],_,_,_,h=>by simp at h
 | l::S,c,0,d,h=>by have h:l[c 0]?=some d:=h;show fV b (l.take (c 0+1))+eQ S (λi=>Xu c 0 (i+1)) b=fV b (l.take (c 0))+eQ S (λi=>c (i+1)) b+pc b d;have e:(λi=>Xu c 0 (i+1))=λi=>c (i+1):=funext λi=>if_neg (Nat.succ_ne_zero i);rw[e,cu,h];simp[fV,List.sum_append];omega
 | l::S,c,i+1,d,h=>by
   have h:(S.getD i [])[c (i+1)]?=some d:=h;have q:=ur (b:=b) (c:=λi=>c (i+1)) h;have e:(λj=>Xu c (i+1) (j+1))=Xu (λi=>c (i+1)) i:=funext λj=>by unfold Xu;simp
   show fV b (l.take (Xu c (i+1) 0))+eQ S (λj=>Xu c (i+1) (j+1)) b=_;rw[e,q];show fV b (l.take (if 0=i+1 then _ else c 0))+_=fV b (l.take (c 0))+eQ S (λi=>c (i+1)) b+pc b d;rw[if_neg (Nat.succ_ne_zero i).symm];omega
def L6(B:Nat):Cd->Prop|.r b _=>b<B|.a b _=>b<B|.o=>True
structure mE(S:List (List Cd))(nb:Nat):Prop where
 ok:∀l∈S,∀d∈l,L6 nb d
 few:∀l∈S,l.length<=1000
theorem fI.next{S:List (List Cd)}{f i:Nat}{c:Nat->Nat}{d:Cd}(m:fI S f hh hp c s)(O:mE S f)(g:i<S.length)(a:(S.getD i [])[c i]?=some d)(o:¬c i=if i=hh then hp else 1000)(p:li (λb=>s.getD b 0) d=true):fI S f hh hp (Xu c i) (match d with|.r b k=>Jp s b k|_=>s):=by
 have n:S.getD i []∈S:=by rw[c8,bo g];exact List.getElem_mem g
 have l:=O.ok _ n d (br a);have h:c i<1000:=cf (cp.mp a).1 (O.few _ n);have j:W8 S (fR hh hp) c i=true:=by unfold W8;rw[a];simp only[wA h,c6 o,Bool.not_false,Bool.true_and];cases d with| a b k=>have e:=m.lv b l;show decide (k<=eQ S c b)=true;rw[<-e];exact p|_=>rfl
 refine⟨.step m.rc g j,λb q=>?_,?_⟩
 . rw[ur a,<-m.lv b q];cases d with| r x k=>rw[Bs (by rw[m.len];exact l)];rfl|_=>rfl
 . cases d with|r x k=>rw[A7];exact m.len|_=>exact m.len
theorem zE{S:List (List Cd)}{g hh hp i:Nat}(O:mE S g)(o:i<S.length):∀{l:List Cd}{c:Nat->Nat}{s:List Nat},fI S g hh hp c s->l=(S.getD i []).drop (c i)->∃a,fI S g hh hp a (iV (if i=hh then hp else 1000) l (c i) s).2/\(∀j,j≠i->a j=c j)/\(iV (if i=hh then hp else 1000) l (c i) s).1=(a i,(S.getD i []).drop (a i))
 |[],c,s,m,e=>⟨c,m,λ_ _=>rfl,by unfold iV;rw[<-e]⟩
 | d ::l,c,s,m,e=>by
   have p:(S.getD i [])[c i]?=some d:=by have:=congrArg (·[0]?) e;simpa using this.symm
   have y:l=(S.getD i []).drop (c i+1):=by have:=congrArg (List.drop 1) e;simpa[List.drop_drop,Nat.add_comm]using this
   have f:∃a,fI S g hh hp a s/\(∀j,j≠i->a j=c j)/\(c i,d::l)=(a i,(S.getD i []).drop (a i)):=⟨c,m,λ_ _=>rfl,by rw[e]⟩
   have v:Xu c i i=c i+1:=if_pos J;have go:∀{n},fI S g hh hp (Xu c i) n->∃a,fI S g hh hp a (iV (if i=hh then hp else 1000) l (c i+1) n).2/\(∀j,j≠i->a j=c j)/\(iV (if i=hh then hp else 1000) l (c i+1) n).1=(a i,(S.getD i []).drop (a i)):=λ{n} w=>by obtain⟨a,u,x,t⟩:=zE (l:=l) (c:=Xu c i) (s:=n) O o w (by rw[v];exact y);rw[v]at u t;exact⟨a,u,λj r=>(x j r).trans (if_neg r),t⟩
   unfold iV;by_cases h:c i=if i=hh then hp else 1000
   . rw[if_pos h];exact f
   . rw[if_neg h];cases d with
     |o=>exact go (m.next O o p h J)
     |r b k=>exact go (m.next O o p h J)
     | a b k=>
       show∃a,fI S g hh hp a (if k<=s.getD b 0 then _ else _:(Nat×List Cd)×List Nat).2/\_/\(if k<=s.getD b 0 then _ else _:(Nat×List Cd)×List Nat).1=_;by_cases q:k<=s.getD b 0
       . rw[if_pos q];exact go (m.next O o p h (bn q))
       . rw[if_neg q];exact f
def k7(S:List (List Cd))(c:Nat->Nat):Nat->List (Nat×List Cd)->Prop|i,[]=>i=S.length|i,x::r=>i<S.length/\x=(c i,(S.getD i []).drop (c i))/\k7 S c (i+1) r
theorem k7.of{S:List (List Cd)}{c e:Nat->Nat}:∀{r:List (Nat×List Cd)}{i:Nat},(∀j,i<=j->e j=c j)->k7 S c i r->k7 S e i r|[],_,_,h=>h|x::r,i,k,⟨d,b,a⟩=>⟨d,by rw[k i (ag _)];exact b,k7.of (λj f=>k j (by omega)) a⟩
theorem Ay{S:List (List Cd)}{a hh hp:Nat}(O:mE S a):∀{r:List (Nat×List Cd)}{i:Nat}{c:Nat->Nat}{s:List Nat},fI S a hh hp c s->k7 S c i r->∃b,fI S a hh hp b (jT hh hp i r s).2/\k7 S b i (jT hh hp i r s).1/\∀j,j<i->b j=c j|[],i,c,s,m,h=>⟨c,m,h,λ_ _=>rfl⟩| (p,l)::r,i,c,s,m,⟨f,t,q⟩=>by cases t;obtain⟨w,n,e,u⟩:=zE O f m J;obtain⟨v,k,g,d⟩:=Ay (i:=i+1) O n (k7.of (λj o=>e j (by omega)) q);refine⟨v,k,⟨f,?_,g⟩,λj o=>(d j (by omega)).trans (e j (by omega))⟩;rw[d i (by omega)];exact u
theorem Az{S:List (List Cd)}{a hh hp:Nat}(O:mE S a):∀{f:Nat}{r:List (Nat×List Cd)}{c:Nat->Nat}{s:List Nat},fI S a hh hp c s->k7 S c 0 r->∃g,fI S a hh hp g (lm hh hp f r s).2/\k7 S g 0 (lm hh hp f r s).1
 |0,r,c,s,m,h=>⟨c,m,h⟩
 | f+1,r,c,s,m,h=>by
   obtain⟨i,d,b,_⟩:=Ay O m h;have e:lm hh hp (f+1) r s=if(jT hh hp 0 r s).1.map (·.1)=r.map (·.1)then jT hh hp 0 r s else lm hh hp f (jT hh hp 0 r s).1 (jT hh hp 0 r s).2:=rfl
   rw[e];split
   . exact⟨i,d,b⟩
   . exact Az O d b
theorem wP {S:List (List Cd)} {o hh hp:Nat} {c:Nat->Nat} {s:List Nat} (O:mE S o) (m:fI S o hh hp c s):∀{r:List (Nat×List Cd)} {i:Nat},k7 S c i r->nA hh hp s i r=true->∀j,i<=j->j<S.length->W8 S (fR hh hp) c j=false
 |[],i,h,_,j,n,l=>absurd l (by have h:i=S.length:=h;omega)
 | x :: r,i,⟨n,l,u⟩,b,j,w,t=>by
   cases l;unfold nA at b;rw[cg]at b;by_cases e:i=j
   . subst e;have b:=b.1;unfold W8;cases f:(S.getD i [])[c i]? with
     |none=>rfl
     | some d=>
       have p:S.getD i []∈S:=by rw[c8,bo n];exact List.getElem_mem n
       have q:=O.ok _ p d (br f);have a:=(cp.mp f).1;have g:c i<1000:=cf a (O.few _ p);have v:(S.getD i []).drop (c i)=d::(S.getD i []).drop (c i+1):=by rw[List.drop_eq_getElem_cons a];rw[bo a]at f;rw[Option.some.inj f]
       rw[v]at b;simp only[B4,Bool.or_eq_true,decide_eq_true_eq]at b;simp only[wA g];rcases b with b|b
       . rw[bn b];rfl
       . have:li (eQ S c) d=false:=by
          cases d with
          | a x k=>have e:=m.lv x q;have b:(!decide (k<=s.getD x 0))=true:=b;show decide (k<=eQ S c x)=false;rw[<-e];simpa using b
          |_=>simp[li]at b
         rw[this,Bool.and_false]
   . exact wP O m u b.2 j (by omega) t
theorem wD{S:List (List Cd)}:∀{T:List (List Cd)}{i:Nat},S.drop i=T->i<=S.length->k7 S (λ_=>0) i (T.map λl=>(0,l))
 | [],i,h,b=>by have:=congrArg List.length h;rw[List.length_drop]at this;show i=S.length;simp at this;omega
 | l::T,i,h,b=>by
   have a:i<S.length:=by have:=congrArg List.length h;rw[List.length_drop]at this;simp at this;omega
   rw[List.drop_eq_getElem_cons a]at h;injection h with d c;refine⟨a,?_,wD c a⟩;rw[c8,bo a,<-d];rfl
theorem ut{b:Nat}:∀(S:List (List Cd)),eQ S (λ_=>0) b=0|[]=>rfl| l::S=>by unfold eQ;rw[ut S];simp[fV]
theorem AA{S:List (List Cd)}{c:Nat->Nat}:∀{r:List (Nat×List Cd)}{i:Nat},k7 S c i r->∀j,i+j<S.length->(r.map (·.1)).getD j 0=c (i+j)|[],i,h,j,a=>absurd a (by have h:i=S.length:=h;omega)|x::r,i,⟨e,d,b⟩,0,_=>by rw[d];rfl| x::r,i,⟨e,d,b⟩,j+1,a=>by have:=AA b j (by omega);show(r.map (·.1)).getD j 0=_;rw[this];congr 1;omega
theorem wV{S:List (List Cd)}{a:Nat}(O:mE S a)(e:fin S a hh hp=some F){c:Nat->Nat}(R:Rc S (fR hh hp) c)(m:∀i,i<S.length->W8 S (fR hh hp) c i=false):∀i,i<S.length->c i=F.getD i 0:=by
 obtain⟨n,f,d⟩:=Az (f:=60) (hh:=hh) (hp:=hp) O (s:=List.replicate a 0) ⟨.zero,λb k=>by rw[ut];simp[List.getD,k],dk⟩ (wD (S:=S) (T:=S) (i:=0) J (bj _));unfold fin at e
 revert e
 generalize lm hh hp 60 (S.map λl=>(0,l)) (List.replicate a 0)=q at f d;intro e;have e:(if nA hh hp q.2 0 q.1 then some (q.1.map (·.1))else none)=some F:=e;split at e
 . rename_i b
   cases e;intro i h;rw[Ct f.rc (λj g=>wP O f d b j (bj _) g) R m i h];have:=AA d i (by omega);rw[Nat.zero_add]at this;exact this.symm
 . cases e
end My
namespace My
open PySem PySem.Spec PyProof.Rows L2
variable{ad cP cR cU:Addr}{osl:Array (Option Value)}{X:Cx}{dL BY:FuncData}{base:Heap}{G:Hp}{b:Int}{s:List Int}{F L h:List Nat}{a i j o p q:Nat}{hl lk:Nat->Nat->Bool}{an od:Option Addr}{P:Program}{st:Stmt}{kd wd:Str}{mg:Str->Option Value}{oc:Value}{w:World}
structure Flat(hs:aB):Prop where
 law:fj hs
 pl:∀s∈hs.ss,∀d∈s,jP hs.b d
noncomputable def eX:aH->Cd|.rai b k=>.r b.toNat k.toNat|.awa b m=>.a b.toNat m.toNat|_=>.o
noncomputable def gW(B:aB)(i:Nat):yx:=B.ss.getD (B.fs.getD i (0,[])).1 []
noncomputable def cS(B:aB):List (List Cd):=(List.range B.fs.length).map λi=>(gW B i).map eX
section
variable{hs:aB}
theorem Flat.plS(F:Flat hs)(j:Nat):∀d∈hs.ss.getD j [],jP hs.b d:=λd a=>by rw[c8]at a;cases e:hs.ss[j]? with|none=>rw[e]at a;cases a|some s=>rw[e]at a;exact F.pl s (br e) d a
theorem Flat.plan(F:Flat hs):My.plan hs=(hs.fs.map (·.1)).zipIdx.map λq=>([q.2],q.1):=rfl
theorem Flat.keys(F:Flat hs):zi (My.plan hs)=(List.range hs.fs.length).map λi=>[i]:=by
 have:=Qy (hs.fs.map (·.1))
 rwa[ae]at this
theorem Flat.mem(F:Flat hs):h∈zi (My.plan hs)↔∃i,i<hs.fs.length/\h=[i]:=by rw[F.keys];simp[eq_comm]
theorem Flat.scr(F:Flat hs){i:Nat}(a:i<hs.fs.length):(mM hs).scr [i]=gW hs i:=by
 have b:([i],(hs.fs.getD i (0,[])).1)∈My.plan hs:=by rw[F.plan];refine bz.mpr ⟨((hs.fs.getD i (0,[])).1,i),?_,J⟩;rw[List.mem_zipIdx_iff_getElem?];simp[c8,bo a]
 show(if[i]∈zi (My.plan hs)then hs.ss.getD (yb (My.plan hs) [i]) []else[])=_;rw[if_pos (F.mem.mpr ⟨i,a,J⟩),zF (jh hs) b];rfl
theorem Flat.bg(F:Flat hs)(h:O Nat)(p:Nat):(mM hs).bg h p=none:=rfl
theorem Flat.fst(F:Flat hs):Z1 (My.plan hs)=zi (My.plan hs):=rfl
theorem IE(l:O (O Nat)):zi (xi l)=l:=by unfold zi xi;rw[bp];exact List.map_id _
theorem GR(l:List (List Nat))(h:List Nat):yb (xi l) h=0:=by induction l with|nil=>rfl| cons x l a=>show(if x=h then 0 else yb (xi l) h)=0;rw[a];split<;>rfl
theorem nQ(F:Flat hs)(held:List ((List Int×Int)×V)):∀n,WI (mM hs) (wz held) (xi (Z1 (My.plan hs))) (ja hs) (ym hs held n)/\Wv (mM hs) (zi (My.plan hs)) (ym hs held n)
 | 0=>by have W:=Xq F.law.pl;refine⟨⟨?_,List.nodup_nil,λh a=>.inl a,(λr b=>by cases b),(λh a=>by cases a),Lg.nil⟩,W⟩;show(zi (xi (Z1 (My.plan hs)))++([]++[])).Nodup;rw[cq,cq];exact W.nd
 | n +1=>by
   obtain⟨I,W⟩:=nQ F held n;show WI _ _ _ _ (Wb _ _ (ym hs held n))/\Wv _ _ (Wb _ _ (ym hs held n));rcases List.eq_nil_or_concat (ym hs held n).ready with e|⟨r,h,e⟩
   . have:Wb (mM hs) (wz held) (ym hs held n)=ym hs held n:=by unfold Wb;rw[e];rfl
     rw[this];exact⟨I,W⟩
   . rw[List.concat_eq_append]at e;rw[AN e];exact⟨I.turn _ F.bg e (W.rdy h (by rw[e];simp)),(Wv.turn (BQ hs F.law.pl) W e).1⟩
theorem pZ:(cS hs).length=hs.fs.length:=by unfold cS;rw[ae,cz]
theorem sE(a:i<hs.fs.length):(cS hs).getD i []=(gW hs i).map eX:=by unfold cS;rw[c8,aj,List.getElem?_range a];rfl
theorem vX(F:Flat hs):mE (cS hs) hs.b.toNat:=by
 refine⟨λl a d h=>?_,λl a=>?_⟩
 . obtain⟨i,_,rfl⟩:=bz.mp a;obtain⟨x,g,rfl⟩:=bz.mp h;have:=F.plS _ x g;cases x with| rai b k=>obtain⟨f,c,_⟩:=this;show b.toNat<hs.b.toNat;omega| awa b k=>obtain⟨f,c,_⟩:=this;show b.toNat<hs.b.toNat;omega|_=>trivial
 . obtain⟨i,_,rfl⟩:=bz.mp a;rw[ae];unfold gW;rw[c8];cases e:hs.ss[(hs.fs.getD i (0,[])).1]? with|none=>simp| some s=>have:=F.law.pl.nw.len s (br e);exact this
theorem Z6(F:Flat hs){held:List Nat->Nat->Bool}(hh:∀i p,i<hs.fs.length->held [i] p=hl i p){A:List (List Nat)}{d:List (List Nat×Nat)}(L:Lg (mM hs) held (xi (Z1 (My.plan hs))) (ja hs) A d s):zi d=zi (My.plan hs)/\s.length=hs.b.toNat/\Rc (cS hs) hl (λi=>yb d [i])/\∀b,b<hs.b.toNat->s.getD b 0=(eQ (cS hs) (λi=>yb d [i]) b:Int):=by
 induction L with
 | nil=>
   have e:(λi=>yb (xi (Z1 (My.plan hs))) [i])=λ_=>0:=funext λi=>GR _ _;refine⟨by rw[IE,F.fst],dk,?_,λb o=>?_⟩
   . rw[e];exact .zero
   . rw[e,ut];unfold ja;simp[c8,o]
 | snoc L hk f v M G=>
   rename_i s h x
   obtain⟨n,K,H,t⟩:=G;rw[n]at hk;obtain⟨i,l,rfl⟩:=F.mem.mp hk;have w:jm (mM hs) s [i]=v4 s.done [i] (yb s.done [i]+1):=by unfold jm;rw[F.bg];rfl
   have y:(λj=>yb (jm (mM hs) s [i]) [j])=Xu (λj=>yb s.done [j]) i:=funext λj=>by
    rw[w,Zc];unfold Xu;by_cases c:j=i
    . rw[if_pos c,c,if_pos J]
    . rw[if_neg c,if_neg (λz=>c (by injection z with z;exact z.symm))]
   have u:(gW hs i)[yb s.done [i]]?=some x:=by have:((mM hs).scr [i])[yb s.done [i]]?=some x:=v;rw[F.scr l]at this;exact this
   have g:((cS hs).getD i [])[(λj=>yb s.done [j]) i]?=some (eX x):=by rw[sE l,aj];show Option.map eX ((gW hs i)[yb s.done [i]]?)=_;rw[u];rfl
   have r:=F.plS _ x (br u);have q:W8 (cS hs) hl (λj=>yb s.done [j]) i=true:=by
    unfold W8;rw[g];show(!hl i (yb s.done [i]) && li _ (eX x))=true;rw[<-hh i _ l,M];cases x with
    | awa b m=>obtain⟨E,D,C,B⟩:=r;unfold Zg at f;rw[v]at f;have f:decide (m<=s.sums.getD b.toNat 0)=true:=f;have f:=ce f;rw[t b.toNat (by omega)]at f;show decide (m.toNat<=_)=true;exact bn (by omega)
    |_=>rfl
   refine⟨?_,?_,?_,λb o=>?_⟩
   . rw[w,Z7 (by rw[n];exact hk),n]
   . rw[K6];exact K
   . rw[y];exact .step H (by rw[pZ];exact l) q
   . rw[y,ur g];have a:=t b o;show(aN s.sums (cX x)).getD b 0=_;cases x with
     | rai c k=>
       obtain⟨E,D,C,B⟩:=r;show(s.sums.set c.toNat (s.sums.getD c.toNat 0+k)).getD b 0=((_+if c.toNat=b then k.toNat else 0:Nat):Int);rw[c8,List.getElem?_set];by_cases e:c.toNat=b
       . rw[if_pos e,if_pos (by omega),if_pos e];rw[e,a];simp;omega
       . rw[if_neg e,if_neg e,Nat.add_zero,<-a,c8]
     |_=>exact a.trans (by simp[eX,pc])
theorem An(F:Flat hs){held:List Nat->Nat->Bool}(hh:∀i p,i<hs.fs.length->held [i] p=hl i p){st:WS (List Nat)}(W:WI (mM hs) held (xi (Z1 (My.plan hs))) (ja hs) st)(e:st.ready=[]):∀i,i<(cS hs).length->W8 (cS hs) hl (λi=>yb st.done [i]) i=false:=λi a=>by
 rw[pZ]at a;obtain⟨k,t,s,g⟩:=Z6 F hh W.lg;have:=W.fin _ e (h:=[i]) (by rw[k];exact F.mem.mpr ⟨i,a,J⟩);unfold W8;cases c:(gW hs i)[yb st.done [i]]? with
 | none=>
   have:((cS hs).getD i [])[(λj=>yb st.done [j]) i]?=none:=by rw[sE a,aj];show Option.map eX ((gW hs i)[yb st.done [i]]?)=_;rw[c];rfl
   rw[this]
 | some x=>
   have d:((cS hs).getD i [])[(λj=>yb st.done [j]) i]?=some (eX x):=by rw[sE a,aj];show Option.map eX ((gW hs i)[yb st.done [i]]?)=_;rw[c];rfl
   rw[d];show(!hl i (yb st.done [i]) && li _ (eX x))=false;rw[<-hh i _ a];rcases this with h|h
   . rw[h];rfl
   . have l:cQ (mM hs) st [i]=some x:=by show((mM hs).scr [i])[yb st.done [i]]?=some x;rw[F.scr a];exact c
     unfold Zg at h;rw[l]at h;have f:=F.plS _ x (br c);cases x with
     | awa b m=>obtain⟨r,q,o,n⟩:=f;have h:decide (m<=st.sums.getD b.toNat 0)=false:=h;have h:=of_decide_eq_false h;rw[g b.toNat (by omega)]at h;show(!_ && decide (m.toNat<=_))=false;rw[c6 (by omega),Bool.and_false]
     |_=>cases h
theorem V8{a:Nat}:wz (yo [o] a) [i] p=fR o a i p:=by
 unfold wz yo fR;show(yz [((hZ [o],(a:Int)),V.bl true)] (hZ [i],(p:Int))).isSome=_;have e:(yz [((hZ [o],(a:Int)),V.bl true)] (hZ [i],(p:Int)))=if(hZ [i],(p:Int))=(hZ [o],(a:Int))then some (.bl true)else none:=by rw[<-Zu (kvs:=[]) (k:=(hZ [o],(a:Int))) (V.bl true) J |>.trans (List.nil_append _),j0];rfl
 rw[e];by_cases c:i=o/\p=a
 . rw[c.1,c.2,if_pos J];simp
 . rw[if_neg (λz=>c ⟨by have:=qo (congrArg Prod.fst z);injection this,Int.ofNat.inj (congrArg Prod.snd z)⟩)];have:¬(i=o/\p=a):=c;rw[<-Bool.decide_and,c6 c];rfl
theorem yN(F:Flat hs){a n:Nat}(e:(ym hs (yo [o] a) n).ready=[])(f:fin (cS hs) hs.b.toNat o a=some L)(b:i<hs.fs.length):yb (ym hs (yo [o] a) n).done [i]=L.getD i 0:=by obtain⟨W,_⟩:=nQ F (yo [o] a) n;exact wV (vX F) f (Z6 F (λi p _=>V8) W.lg).2.2.1 (An F (λi p _=>V8) W e) i (by rw[pZ];exact b)
theorem EA(F:Flat hs){n:Nat}(e:(ym hs [] n).ready=[])(f:fin (cS hs) hs.b.toNat 1000 0=some L)(a:i<hs.fs.length):yb (ym hs [] n).done [i]=L.getD i 0:=by
 have b:∀i p,i<hs.fs.length->wz [] [i] p=fR 1000 0 i p:=λi p a=>by have:=F.law.pl.f40;unfold fR;rw[c6 (by omega)];rfl
 obtain⟨W,_⟩:=nQ F [] n;exact wV (vX F) f (Z6 F b W.lg).2.2.1 (An F b W e) i (by rw[pZ];exact a)
end
noncomputable abbrev Xy:Stmt:=bA 45
noncomputable abbrev Vo:Stmt:=bA 58
inductive jC(vs:List V)(H:Hp)(Q:VK)(e0:XK):Prop|mk:∀v (g:List Int),vs=[v]->Is H (tI g) v->g.length<=1000->(∀H',zg H H'->Q (.bl true) H')->jC vs H Q e0
inductive lR(cU cP cR:Addr)(vs:List V)(H:Hp)(Q:VK)(e0:XK):Prop| mk:∀(xp aw:Addr) (hs:aB) (L:RL) (held:List Nat->Nat->Bool) (ws:List (List Nat)) (d:List (List Nat×Nat)) (s:List Int),vs=[.ref xp,.ref aw]->aJ H cP cR hs L xp->Flat hs->bT H aw ws->ws.length<=1200->Lg (mM hs) held (xi (Z1 (plan hs))) (ja hs) ws d s->
   (∀x ad as H0 H',zg H H0->H x=none->bF H0 H' cU cP cR hs L x ad as d s->Q (.ref x) H')->lR cU cP cR vs H Q e0
theorem xE(a:aB)(st:WS (List Nat))(h:List Nat):Zg (mM a) st h=Wx a st.done st.sums h:=by unfold Zg Wx cQ;cases((mM a).scr h)[yb st.done h]? with|none=>rfl| some d=>show(match m7 d with|none=>true|some (b,m)=>decide (m<=st.sums.getD b 0))=(match m7 d with|none=>true|some (b,m)=>decide (m<=st.sums.getD b 0));rfl
theorem Ei{a:aB}(F:Flat a){held:List Nat->Nat->Bool}{c:List (List Nat)}{d:List (List Nat×Nat)}(L:Lg (mM a) held (xi (Z1 (plan a))) (ja a) c d s):∀h∈c,∃i,h=[i]:=by
 induction L with|nil=>exact λh b=>nomatch b| snoc L hk j g k f=>
   intro h b;rcases c4.mp b with z|z
   . exact f h z
   . rw[(Z6 F (hl:=λi p=>held [i] p) (λ_ _ _=>rfl) L).1]at hk;obtain⟨i,_,e⟩:=F.mem.mp hk;exact⟨i,(ai.mp z).trans e⟩
section
variable{K:W.Frag}
theorem KH:aA ["thing"] ["thing"] (ze Xy):=.of
theorem IZ(D:bH K mg "is_name" Xy)(T:Txt K mg)(u:Ok P w K mg base "is_whole" 1 ["thing"] (jL (λ_=>True) nM)):Ok P w K mg base "is_name" 2 ["thing"] jC:=by
 refine wj D KH ?_;rintro f G A k s H M Q E C ⟨v,g,rfl,n,R,y⟩ X;refine⟨_,zf (zj (ku (Yx T.isi T.tuple Yn (pv 0)) (j6 (yd (je J) J T.all Z0 (za (qj (own:=["part"]) (cap:=[]) J (yv (ze Xy) J J (by decide+kernel) (by decide+kernel) (by decide+kernel) trivial) (j5 (pv 0)) (λ_ _ _ _=>zk (i:=0) (by show(["part"]:O Str).Nodup;decide+kernel)) (λ_ _ _ _=>wb) (λ_ _ _ _=>yc u C (za (pv 0) zc))) zc))))),?_⟩
 have q:=Is.ty (K:=K) n;obtain⟨a,h,rfl,o,z⟩:=n;have c:=IsL.ints.mp z;have B:h.length=g.length:=by rw[c,ae]
 refine⟨_,"tuple",_,_,J,q,(by kernel_rfl:W.kitOne K (.type "tuple") (.type "tuple")=some true),_,J,ww ?_⟩;refine⟨a,J,⟨h,aE.of o⟩,?_⟩;refine nL (λi d L=>zg H L/\d=List.replicate i (V.bl true)) ⟨zg.refl H,J⟩ (λi d p N ⟨b,F⟩=>⟨aE.of (b _ _ o),by rw[F,dk];exact xj (by omega)⟩) ?_ ?_
 . rintro i x d p m ⟨b,rfl⟩;refine W4 ?_;rw[c,aj]at m;obtain⟨j,_,rfl⟩:=cm.mp m;exact⟨.int j,.int j,J,J,trivial,λS r=>⟨b.trans r,f6.symm⟩⟩
 rintro d p ⟨b,rfl⟩ t l;refine⟨t,List.replicate h.length true,J,aI.of (by rw[zd,List.map_replicate]),?_⟩;have e:(List.replicate h.length true).all id=true:=by simp
 rw[e];exact y _ (b.trans (zg.new l _))
theorem Bz:aA ["plan","weaving","run","hand"] ["plan","weaving"] (ze Vo):=.of
theorem HH(D:bH K mg "run_by" Vo)(T:Txt K mg)(CU:aG K cU bV)(oN:Ok P w K mg base "is_name" 2 ["thing"] jC)(oF:Ok P w K mg base "first_run" 4 ["plan"] (fb cU cP cR))(oM:bR P w K mg base cU "may_go_on" 2 ["self","hand"] (gU cU cP cR))(oD:bR P w K mg base cU "do" 2 ["self","hand"] (jI cU cP cR)):Ok P w K mg base "run_by" 5 ["plan","weaving"] (lR cU cP cR):=by
 refine wj D Bz ?_;rintro f aS A aa s H g Q E M ⟨xp,aw,c,L,k,ws,d,sm,rfl,PA,F,LA,hw,u,kk⟩ X;have nd:=Bz.nd;have hu:=jk M;refine⟨_,zb (yg (PW.pt (Zt (xb (y6 (Yx T.isi T.list Qh (pv 1)))) (j3 (xb (y6 (yd (je J) J T.all Z0 (za (qj (own:=["hand"]) (cap:=[]) J (yv (ze Vo) J J (by decide+kernel) (by decide+kernel) (by decide+kernel) trivial) (vy (pv 1)) (λ_ _ _ _=>zk (i:=0) (by show(["hand"]:O Str).Nodup;decide+kernel)) (λ_ _ _ _=>wb) (λ_ _ _ _=>yc oN (M.mono (by decide)) (za (pv 0) zc))) zc))))))) (zf Ze) zn)
  (zb (zr (i:=2) nd (yc oF M (za (pv 0) zc))) (zb (wa PassesOwn.never J (vy (pv 1)) (zk (i:=3) nd) (zb (yg (PW.pt (Zt (Xf (HV hu (pv 3) (zu (pv 2) J))) (j3 (xb (y6 (qc oM CU.cls (M.mono (by decide)) (pv 2) (za (pv 3) zc))))))) (zf Ze) zn) (zf (we (qc oD CU.cls (M.mono (by decide)) (pv 2) (za (pv 3) zc))))))
  (zf (zj (pv 2))))),?_⟩
 obtain⟨g,a,o⟩:=LA;have B:=o.length;rw[ae]at B;refine⟨_,"list",_,_,J,.lst a,(by kernel_rfl:W.kitOne K (.type "list") (.type "list")=some true),_,J,yi ?_⟩;refine⟨aw,J,⟨g,aI.of a⟩,?_⟩;refine Zl (λi Z H'=>zg H H'/\Z=List.replicate i (V.bl true)) ⟨zg.refl H,J⟩ (λi Z H3 hi ⟨v,e2⟩=>⟨aI.of (v _ _ a),by rw[e2,dk,sizeLine_eq];omega⟩) ?_ ?_
 . rintro i x Z H3 hx ⟨v,rfl⟩;refine W4 ?_;obtain⟨t,ht,it⟩:=o.get' hx;rw[aj]at ht;obtain⟨h,hh,rfl⟩:=cm.mp ht;refine⟨x,hZ h,J,it.mono v,?_,λH4 s4=>⟨v.trans s4,f6.symm⟩⟩;obtain⟨j,rfl⟩:=Ei F u h (br hh);show 1<=1000;decide
 rintro Z H3 ⟨v,rfl⟩ p2 ah;have s4:=zg.new ah (.lst (List.replicate g.length (V.bl true)));refine⟨p2,List.replicate g.length true,J,aI.of (by rw[zd,List.map_replicate]),?_⟩;have e:(List.replicate g.length true).all id=true:=by simp
 rw[e];generalize upd H3 p2 (.lst (List.replicate g.length (V.bl true)))=H4 at s4⊢;refine⟨_,J,yi ?_⟩;have m:=v.trans s4;have PH:=F.law.pl;refine⟨xp,c,L,J,PA.same m,PH,λx ad as H0 H5 s5 s6 hx RF RM=>?_⟩;have b:=m.trans s5;refine⟨aw,J,⟨g,aI.of ((b.trans s6) _ _ a)⟩,?_⟩;refine kf (K:=K) (a:=aw) (xs:=g) (λi U G=>∃(x3:Option V)(t:WS (O Nat)),U=[some (.ref xp),some (.ref aw),some (.ref x),x3]/\bF H0 G cU cP cR c L x ad as t.done t.sums/\t.wov=ws.take i/\Lg (mM c) k (xi (Z1 (plan c))) (ja c) t.wov t.done t.sums)
  ⟨none,⟨_,_,[],[],[],[]⟩,J,⟨RF,s6,RM⟩,by simp,.nil⟩ (λi U G _ ⟨_,t,_,R,_⟩=>aI.of ((b.trans R.s) _ _ a)) ?_ ?_
 . rintro i z U G hz ⟨x3,t,rfl,R,et,S⟩;obtain⟨tt,C,iz⟩:=o.get' hz;rw[aj]at C;obtain⟨h,hh,rfl⟩:=cm.mp C;obtain⟨g1,g2,y,g3,g4⟩:=u.at hh et S;have n:Is G (tI (hZ h)) z:=iz.mono (b.trans R.s);obtain⟨bh,rfl,ap⟩:=ke n;obtain⟨aq,r,am,al,a1,q,_,_,ay,av⟩:=id R.f;obtain⟨c1,c2,_,_⟩:=Z6 F (hl:=λi p=>k [i] p) (λ_ _ _=>rfl) S;have N:h∈zi (plan c):=by rw[<-c1];exact g1
   have gd:=V9 R.m.1 ap;rw[if_pos g1]at gd;refine⟨x,cU,r,_,_,J,R.s _ _ q,CU.cls,CU.n,jq,ad,_,J,gd,_,J,yi ?_⟩;refine⟨x,r,_,J,R.s _ _ q,J,H0,x,ad,as,c,L,_,_,h,_,J,R.rd,N,g1,PH,c2,n,λG1 s1=>⟨_,J,?_⟩⟩;rw[xE]at g2;rw[g2];refine yi ?_;have R1:=R.same s1;refine⟨x,r,_,J,R1.s _ _ q,J,H0,x,ad,as,c,L,_,_,h,_,y,J,R1,N,g1,PH,c2,n.mono s1,g3,?_,?_,λl G2 b2 aK m2 _=>?_⟩
   . rw[c1];exact jh c
   . rw[<-j9,c1,j9];have:=PH.few60;show(jv _).length<=999;omega
   . exact⟨_,⟨_,_,[],[],[],ws.take (i+1)⟩,J,R1.bt b2 m2,J,g4⟩
 rintro U G ⟨x3,t,rfl,R,et,S⟩;rw[B,cw]at et;rw[et]at S;obtain⟨e1,e2⟩:=u.det S;rw[e1,e2]at R;exact kk x ad as H0 G b (y7 m hx) R
end
noncomputable abbrev J6:Stmt:=(wf Wi).getD 6 dF
noncomputable abbrev Xw:Stmt:=bA 61
noncomputable abbrev sV:Stmt:=bA 62
inductive mh(cU cP cR:Addr)(vs:List V)(H:Hp)(Q:VK)(e0:XK):Prop| mk:∀(H0:Hp) (x ad as:Addr) (hs:aB) (L:RL) (done:List (List Nat×Nat)) (sums:List Int),vs=[.ref x]->bF H0 H cU cP cR hs L x ad as done sums->Flat hs->zi done=zi (plan hs)->sums.length=hs.b.toNat->
   (∀l (gs:List (List Int)) H',zg H H'->Is H' (.lst (gs.map tI)) (.ref l)->gs.length<=60->(∀g∈gs,∃h∈zi done,g=hZ h/\Wx hs done sums h=true)->Q (.ref l) H')->mh cU cP cR vs H Q e0
inductive lP(cU cP cR:Addr)(vs:List V)(H:Hp)(Q:VK)(e0:XK):Prop| mk:∀(H0:Hp) (x ad as:Addr) (hs:aB) (L:RL) (done:List (List Nat×Nat)) (sums:List Int) (k j:Nat) (v:V),vs=[.ref x,v]->bF H0 H cU cP cR hs L x ad as done sums->Flat hs->zi done=zi (plan hs)->sums.length=hs.b.toNat->Is H (.tup [hT [k],.int (j:Int)]) v->(∀h∈zi done,Wx hs done sums h=true->h=[k]/\yb done h=j)->
   (∀H',zg H H'->Q (.bl true) H')->lP cU cP cR vs H Q e0
inductive lX(cU cP cR:Addr)(vs:List V)(H:Hp)(Q:VK)(e0:XK):Prop| mk:∀(H0:Hp) (x ad as:Addr) (hs:aB) (L:RL) (done:List (List Nat×Nat)) (sums:List Int) (k j k2 j2:Nat) (v v2:V),vs=[.ref x,v,v2]->bF H0 H cU cP cR hs L x ad as done sums->Flat hs->zi done=zi (plan hs)->sums.length=hs.b.toNat->Is H (.tup [hT [k],.int (j:Int)]) v->Is H (.tup [hT [k2],.int (j2:Int)]) v2->(∀h∈zi done,Wx hs done sums h=true->h=[k]/\yb done h=j)->¬j<yb done [k]->¬j2<yb done [k2]->
   (∀H',zg H H'->Q (.bl true) H')->lX cU cP cR vs H Q e0
section
variable{K:W.Frag}
theorem X8:bootBuiltins "sorted"=some (.builtin "sorted"):=by decide+kernel
theorem GB:aA ["self"] ["self"] (ze J6):=.of
theorem F4(D:q8 K cU "going" "Run.going" J6)(T:Txt K mg)(CU:aG K cU bV)(oM:bR P w K mg base cU "may_go_on" 2 ["self","hand"] (gU cU cP cR)):bR P w K mg base cU "going" 3 ["self"] (mh cU cP cR):=by
 refine Zf (k:=2) D GB ?_;rintro f aK A aa s H vs Q E hr ⟨H0,x,ad,as,r,L,a,d,rfl,R,F,hk,aq,kk⟩ X;refine⟨_,zf (zj (Q1 (yd Bw J T.sorted X8 (za (qj (own:=["hand"]) (cap:=[0]) J (yv (ze J6) J J (by decide+kernel) (by decide+kernel) (by decide+kernel) ⟨⟨_,J,.inl J,vm J⟩,trivial⟩) (Vw (zu (pv 0) J)) (λ_ _ _ _=>zk (i:=0) (by show(["hand","self"]:O Str).Nodup;decide+kernel)) (λ_ _ _ _=>js (y6 (qc oM CU.cls hr (pv 1) (za (pv 0) zc)))) (λ_ _ _ _=>pv 0)) zc)))),?_⟩
 obtain⟨xp,dx,am,al,PA,hx,_,_,U,aw⟩:=id R.f;have av:x≠ad:=λz=>by rw[z,U]at hx;cases hx
 refine⟨ad,_,R.m.1,trivial,λo=>?_⟩;have j:upd H ad (.frz o (.dT (yt a))) ad=some (.frz o (.dT (yt a))):=zd;have Yo:∀{G:Hp},zg (upd H ad (.frz o (.dT (yt a)))) G->zg H (upd G ad (.dT (yt a))):=λ{G} s b u e=>by
  by_cases z:b=ad
  . rw[z]at e⊢;rw[zd,<-e,R.m.1]
  . rw[upd_ne z];exact s _ _ (by rw[upd_ne z];exact e)
 have Rf:cT H0 (upd H ad (.frz o (.dT (yt a)))) cU cP cR r L x ad as a d:=⟨R.f,λb u e=>by rw[upd_ne (zm e U)];exact R.s _ _ e,.inr ⟨o,j⟩,by rw[upd_ne (λz=>by have:=R.m.1;rw[<-z,R.m.2]at this;cases this)];exact R.m.2⟩
 generalize upd H ad (.frz o (.dT (yt a)))=Hf at j Yo Rf⊢;have PH:=F.law.pl;have ay:a.length<=60:=by rw[<-j9,hk,j9];exact PH.few60
 have dl:(yt a).length=a.length:=by unfold yt;rw[ae]
 refine⟨x,cU,dx,_,_,J,Rf.s _ _ hx,CU.cls,CU.n,jq,ad,o,_,J,j,?_⟩;refine uq (kvs:=yt a) (λi m H'=>zg Hf H'/\IsL H' ((((zi a).take i).filter (Wx r a d)).map hT) m) ⟨zg.refl _,J⟩ (λi m H' hi ⟨p,e⟩=>⟨p _ _ j,?_⟩) ?_ ?_
 . rw[e.length,ae];have:=dm (Wx r a d) ((zi a).take i);rw[cx]at this;exact xj (by omega)
 . rintro i kv m H6 b B hb ⟨p,W⟩;obtain⟨q,hq,rfl⟩:∃q,a[i]?=some q/\(kI (hZ q.1),V.int (q.2:Int))=kv:=by unfold yt at B;rw[aj]at B;exact cm.mp B
   have Z:q.1∈zi a:=List.mem_map_of_mem (f:=(·.1)) (br hq);have ih:Is H6 (hT q.1) (.ref b):=⟨b,_,J,hb,by rw[Wg];exact IsL.ints.mpr J⟩
   have et:(zi a).take (i+1)=(zi a).take i++[q.1]:=by rw[cu];unfold zi;rw[aj,hq];rfl
   refine⟨x,dx,_,J,p _ _ (Rf.s _ _ hx),J,H0,x,ad,as,r,L,a,d,q.1,_,J,Rf.same p,(by rw[<-hk];exact Z),Z,PH,aq,ih,λH7 n=>⟨_,J,?_⟩⟩;cases c:Wx r a d q.1 with| true=>refine ww ⟨p.trans n,?_⟩;rw[et,List.filter_append,List.filter_cons,if_pos c,be];exact(W.mono n).append (IsL.one (ih.mono n))| false=>refine yi ⟨p.trans n,?_⟩;rw[et,List.filter_append,List.filter_cons,if_neg (by rw[c];decide),List.filter_nil,cq];exact W.mono n
 rintro m H6 ⟨p,W⟩ l hl;have n:=zg.new hl (.lst m);have g7:upd H6 l (.lst m) l=some (.lst m):=zd;generalize upd H6 l (.lst m)=H7 at n g7⊢;rw[dl,<-j9,cw]at W;generalize M:((zi a).filter (Wx r a d)).map hZ=C;have ap:IsL H7 (C.map tI) m:=by rw[<-M,bp];exact W.mono n
 have gl:C.length<=60:=by rw[<-M,ae];have:=dm (Wx r a d) (zi a);rw[j9]at this;omega
 have gm:∀g∈C,∃h∈zi a,g=hZ h/\Wx r a d h=true:=λg S=>by rw[<-M]at S;obtain⟨h,hh,rfl⟩:=bz.mp S;obtain⟨h1,h2⟩:=eh.mp hh;exact⟨h,h1,J,h2⟩
 refine⟨l,C,m,J,aI.of g7,ap,λg S=>?_,by omega,λk N ix y=>?_⟩
 . obtain⟨h,h1,rfl,_⟩:=gm g S;rw[hk]at h1;obtain⟨i,_,rfl⟩:=F.mem.mp h1;exact λz=>by cases z
 have s8:=zg.new y (.lst k);have g8:upd H7 N (.lst k) N=some (.lst k):=zd;generalize upd H7 N (.lst k)=H8 at s8 g8⊢;have v:=p.trans (n.trans s8);refine⟨v _ _ j,?_⟩;have sb:=Yo v;have ah:N≠ad:=λz=>by rw[z,(p.trans n) _ _ j]at y;cases y
 have t9:yw H8 (upd H8 ad (.dT (yt a))):=yw.upd (v _ _ j) (λ_ z=>by cases z);refine kk N (Jr C) _ sb ⟨N,k,J,by rw[upd_ne ah];exact g8,(ix.mono s8).tups t9 (qt.all.mpr λt ht=>by obtain⟨g,_,rfl⟩:=bz.mp ht;exact vp _)⟩ (by rw[(Km C).length_eq];exact gl) λg S=>gm g ((Km C).mem_iff.mp S)
theorem KL:aA ["run","one"] ["run","one"] (ze Xw):=.of
theorem JC(D:bH K mg "is_stopped_by" Xw)(T:Txt K mg)(M:aG K cU bV)(oG:bR P w K mg base cU "going" 3 ["self"] (mh cU cP cR)):Ok P w K mg base "is_stopped_by" 4 ["run","one"] (lP cU cP cR):=by
 refine wj D KL ?_;rintro f ap A q s H vs Q E y ⟨H0,x,ad,as,hs,L,m,c,k,j,v,rfl,R,F,hk,u,iv,hm,kk⟩ X;have hu:=jk y;refine⟨_,zf (zj (yd (je J) J T.all Z0 (za (qj (own:=["hand"]) (cap:=[0,1]) J (yv (ze Xw) J J (by decide+kernel) (by decide+kernel) (by decide+kernel) ⟨⟨_,J,.inl J,vm J⟩,⟨_,J,.inl J,vm J⟩,trivial⟩) (vy (X1 oG M.cls y (pv 0))) (λ_ _ _ _=>zk (i:=0) (by show(["hand","run","one"]:O Str).Nodup;decide+kernel)) (λ_ _ _ _=>wb)
  (λ_ _ _ _=>qg (V2 (by exact y.units)) (ta:=vZ (Kk (Jq 0) (Kk (wI (ln K (Jq 1) "done") (Jq 0)) lr))) (y0 (za (pv 0) (za (wo hu (zu (pv 1) J) (pv 0)) zc))) (pv 2) (zx _))) zc))),?_⟩
 obtain⟨xp,dx,am,al,PA,U,_,_,ah,aa⟩:=id R.f;refine⟨x,dx,_,J,R.s _ _ U,J,H0,x,ad,as,hs,L,m,c,J,R,F,hk,u,λl gs H1 N il gl gm=>?_⟩;obtain⟨l',o,e,Z,S⟩:=il;cases e;have r:=S.length;rw[ae]at r;refine⟨l,J,⟨o,aI.of Z⟩,?_⟩;refine Zl (λi n H'=>zg H1 H'/\n=List.replicate i (V.bl true)) ⟨zg.refl _,J⟩ (λi n H3 hi ⟨a,G⟩=>⟨aI.of (a _ _ Z),by rw[G,dk];exact xj (by omega)⟩) ?_ ?_
 . rintro i z n H3 hz ⟨a,rfl⟩;refine W4 ?_;obtain⟨t,W,iz⟩:=S.get' hz;rw[aj]at W;obtain⟨g,hg,rfl⟩:=cm.mp W;obtain⟨h,h1,rfl,h2⟩:=gm g (br hg);obtain⟨rfl,G⟩:=hm h h1 h2;have b:=N.trans a;have d:=iz.mono a;obtain⟨bh,rfl,C⟩:=ke d;have gd:=V9 (b _ _ R.m.1) C;rw[if_pos h1,G]at gd;refine⟨x,cU,dx,_,_,J,b _ _ (R.s _ _ U),M.cls,M.n,jq,ad,_,J,gd,by show 2<=1000;decide,λp4 H4 p n4 g4=>?_⟩;refine⟨.tup [hT [k],.int (j:Int)],.tup [hT [k],.int (j:Int)],⟨p4,_,J,g4,IsL.two (d.mono p) J⟩,iv.mono (b.trans p),J,J,Nat.le_of_ble_eq_true J,?_⟩;have e:PyData.eqv (aO (.tup [hT [k],.int (j:Int)])) (aO (.tup [hT [k],.int (j:Int)]))=true:=SeqAt.eqv_refl _ J;rw[e];exact⟨a.trans p,f6.symm⟩
 rintro n H3 ⟨a,rfl⟩ p2 B;refine⟨p2,List.replicate o.length true,J,aI.of (by rw[zd,List.map_replicate]),?_⟩;have e:(List.replicate o.length true).all id=true:=by simp
 rw[e];exact kk _ (N.trans (a.trans (zg.new B _)))
theorem Fy:aA ["run","one","other"] ["run","one","other"] (ze sV):=.of
theorem EO(D:bH K mg "is_must" sV)(q:aG K cU bV)(m:bR P w K mg base cU "has_done" 1 ["self","name"] (jG cU))(t:Ok P w K mg base "is_stopped_by" 4 ["run","one"] (lP cU cP cR)):Ok P w K mg base "is_must" 5 ["run","one","other"] (lX cU cP cR):=by
 refine wj D Fy ?_;rintro f N A e s H U Q E i ⟨S,x,ad,as,G,L,a,b,k,j,B,C,v,r,rfl,R,F,hk,h,n,g,M,y,u,z⟩ X;refine⟨_,zb (yg (PW.pt (Zt (Xf (nO (pv 0))) (Zt (y6 (qc m q.cls (i.mono (by decide)) (pv 0) (za (pv 1) zc))) (j3 (y6 (qc m q.cls (i.mono (by decide)) (pv 0) (za (pv 2) zc))))))) (zf (zj wn)) zn) (zf (zj (yc t i (za (pv 0) (za (pv 1) zc))))),?_⟩
 obtain⟨l,d,o,p,PA,c,_⟩:=id R.f;refine⟨_,J,yi ?_⟩;refine⟨x,d,_,J,R.s _ _ c,J,x,d,l,ad,as,o,p,a,[k],j,v,J,R.s _ _ c,R.m.1,n,_,J,?_⟩;rw[c6 y];refine yi ⟨x,d,_,J,R.s _ _ c,J,x,d,l,ad,as,o,p,a,[B],C,r,J,R.s _ _ c,R.m.1,g,_,J,?_⟩;rw[c6 u];exact yi ⟨S,x,ad,as,G,L,a,b,k,j,v,J,R,F,hk,h,n,M,z⟩
end
theorem Bh:∀a b:List (List Nat),PyData.eqvAll (qh (a.map hT)) (qh (b.map hT))=true->a=b|[],[],_=>rfl|[],y::r,h=>by simp[qh,PyData.eqvAll]at h|x::r,[],h=>by simp[qh,PyData.eqvAll]at h| x::r,y::q,h=>by simp only[cb,qh,PyData.eqvAll,cg]at h;have c:=h.1;unfold hT at c;rw[rZ]at c;rw[Bh r q h.2,qo (ce c)]
theorem Bf:∀gs:List (List Int),PyData.depthAll (qh (gs.map tI))<=1
 |[]=>by simp[qh,PyData.depthAll]
 | g::gs=>by
   have:=Bf gs;have e:(aO (tI g)).depth=1:=by unfold tI aO PyData.depth;rw[Zz]
   simp only[cb,qh,PyData.depthAll,e];omega
theorem ub(a:O (O Int)):(aO (.lst (a.map tI))).canLay0=true/\(aO (.lst (a.map tI))).depth<=20:=by
 refine⟨?_,?_⟩
 . unfold aO PyData.canLay0;exact DL λt b=>by obtain⟨g,_,rfl⟩:=bz.mp b;exact Wy g
 . unfold aO PyData.depth;have:=Bf a;omega
theorem Bm(a:O (O Nat)):(aO (.lst (a.map hT))).canLay0=true/\(aO (.lst (a.map hT))).depth<=20:=by have:=ub (a.map hZ);rw[bp]at this;exact this
inductive mf(vs:List V)(H:Hp)(Q:VK)(e0:XK):Prop|mk:∀(d:Addr)(N P:Nat)(prow:List (List aM×V)),vs=[.ref d,.int (N:Int),.int (P:Int)]->H d=some (.dT prow)->prow.map (·.1)=(jl N P).map kI->N<=16->P<=4->(jl N P).length<64->(∀H',zg H H'->Q (.bl true) H')->mf vs H Q e0
inductive mw(vs:List V)(H:Hp)(Q:VK)(e0:XK):Prop|mk:∀hs (v:V) (n p:Int) (d:Addr) (prow:List (List aM×V)),vs=[v,.int n,.int p,.ref d]->Is H (eH hs) v->Flat hs->Y1 hs n p=true->(∀n0,(ym hs [] n0).ready=[]->Y2 hs (ym hs [] n0).done=true)->H d=some (.dT prow)->rE hs (jl n.toNat p.toNat) (λ_=>True) H prow->(jl n.toNat p.toNat).length<64->(∀H',zg H H'->Q (.bl true) H')->mw vs H Q e0
theorem zW(N P:Nat):∀g∈jl N P,g≠[]:=λg b=>by obtain⟨a,o,q,rfl,_⟩:=Vh b;exact λz=>by cases z
theorem J2{d:aB}{k h:Nat}(a:Wj d wd k q j)(b:Wj d wd k q h):j=h:=by
 have e:∀{i f:Nat},Wj d wd k q i->Wj d wd k q f->¬i<f:=λ{i f} a b c=>by
  have l:((mM d).scr [k]).take (i+1)=((mM d).scr [k]).take i++[.say wd]:=by rw[cu,a.1];rfl
  have g:(((mM d).scr [k]).take (i+1)).countP (qk wd)<=(((mM d).scr [k]).take f).countP (qk wd):=(List.take_sublist_take_left c).countP_le;rw[l,List.countP_append,a.2,b.2]at g;have g:q+(if qk wd (.say wd)=true then 1 else 0)<=q:=by simpa[List.countP_cons]using g
  rw[if_pos (by simp[qk])]at g;omega
 have:=e a b;have:=e b a;omega
section
variable{K:W.Frag}{cS cW:Addr}
theorem Ku:aA ["thing","n","p"] ["thing","n","p"] (ze k8):=.of
theorem LS(D:bH K mg "has_triples" k8)(T:Txt K mg)(oN:Ok P w K mg base "is_name" 2 ["thing"] jC)(o1:Ok P w K mg base "triples" 1 ["n","p"] gP):Ok P w K mg base "has_triples" 3 ["thing","n","p"] mf:=by
 refine wj (k:=2) D Ku ?_;rintro f a1 A Z s H vs Q E hr ⟨d,N,m,c,rfl,F,p,hN,hP,v,k⟩ X;refine⟨_,zb (yg (PW.pt (Zt (xb (y6 (Yx T.isi T.dict Qi (pv 0)))) (j3 (xb (y6 (Q1 (yd (je J) J T.all Z0 (za (qj (own:=["triple"]) (cap:=[]) J (yv (ze k8) J J (by decide+kernel) (by decide+kernel) (by decide+kernel) trivial) (Vw (pv 0)) (λ_ _ _ _=>zk (i:=0) (by show(["triple"]:O Str).Nodup;decide+kernel)) (λ_ _ _ _=>wb) (λ_ _ _ _=>yc oN hr (za (pv 0) zc))) zc)))))))) (zf (zj wn)) zn)
  (zf (zj (qg (V2 (by exact hr.units)) (yd (Bx J) J T.sorted X8 (za (pv 0) zc)) (yd Bw J T.sorted X8 (za (yc o1 (hr.mono (by decide)) (za (pv 1) (za (pv 2) zc))) zc)) (zx _)))),?_⟩
 have aK:c.length=(jl N m).length:=by have:=congrArg List.length p;rw[ae,ae]at this;exact this
 refine⟨_,"dict",_,_,J,.dT F,(by kernel_rfl:W.kitOne K (.type "dict") (.type "dict")=some true),_,J,yi ?_⟩;refine⟨d,_,F,trivial,λo=>?_⟩;have n:upd H d (.frz o (.dT c)) d=some (.frz o (.dT c)):=zd;have Yo:∀{G:Hp},zg (upd H d (.frz o (.dT c))) G->zg H (upd G d (.dT c)):=λ{G} s b u e=>by
  by_cases z:b=d
  . rw[z]at e⊢;rw[zd,<-e,F]
  . rw[upd_ne z];exact s _ _ (by rw[upd_ne z];exact e)
 generalize upd H d (.frz o (.dT c))=Hf at n Yo⊢;refine⟨d,o,_,J,n,?_⟩;refine uq (kvs:=c) (λi x H'=>zg Hf H'/\x=List.replicate i (V.bl true)) ⟨zg.refl _,J⟩ (λi x H' hi ⟨r,e⟩=>⟨r _ _ n,by rw[e,dk];exact xj (by omega)⟩) ?_ ?_
 . rintro i kv x H6 b aw hb ⟨r,rfl⟩;refine W4 ?_;have e1:(c.map (·.1))[i]?=some kv.1:=by rw[aj,aw];rfl
   rw[p,aj]at e1;obtain⟨g,hg,e2⟩:=cm.mp e1;obtain⟨a,o',q,rfl,_⟩:=Vh (br hg);rw[<-e2,Wg]at hb;exact⟨_,[(a:Int),(o':Int),(q:Int)],J,⟨b,_,J,hb,IsL.ints.mpr J⟩,by show 3<=1000;decide,λH7 y=>⟨r.trans y,f6.symm⟩⟩
 rintro x H6 ⟨r,rfl⟩ l hl;have y:=zg.new hl (.lst (List.replicate c.length (V.bl true)));refine⟨l,List.replicate c.length true,J,aI.of (by rw[zd,List.map_replicate]),(r.trans y) _ _ n,_,J,?_⟩;have e:(List.replicate c.length true).all id=true:=by simp
 rw[e];refine yi ?_;have R:=Yo (r.trans y);generalize upd (upd H6 l (.lst (List.replicate c.length (V.bl true)))) d (.dT c)=H8 at R⊢;refine⟨d,jl N m,J,⟨c,R _ _ F,p⟩,zW N m,v,λj B ix ap=>?_⟩;have S:=zg.new ap (.lst j);have g9:upd H8 B (.lst j) B=some (.lst j):=zd;generalize upd H8 B (.lst j)=H9 at S g9⊢;refine⟨N,m,J,hN,hP,λl4 H4 U aS i4=>?_⟩;obtain⟨ay,M,e4,av,ah⟩:=i4;cases e4;refine⟨l4,jl N m,M,J,aI.of av,ah,zW N m,v,λh C aa aq=>?_⟩;have t:=zg.new aq (.lst h);have g5:upd H4 C (.lst h) C=some (.lst h):=zd;generalize upd H4 C (.lst h)=H5 at t g5⊢;obtain⟨L,y2⟩:=ub (Jr (jl N m));refine⟨.lst ((Jr (jl N m)).map tI),.lst ((Jr (jl N m)).map tI),⟨B,j,J,t _ _ (U _ _ g9),ix.mono (S.trans (U.trans t))⟩,⟨C,h,J,g5,aa.mono t⟩,L,L,y2,?_⟩;have e:PyData.eqv (aO (.lst ((Jr (jl N m)).map tI))) (aO (.lst ((Jr (jl N m)).map tI)))=true:=SeqAt.eqv_refl _ L;rw[e];exact k H5 (R.trans (S.trans (U.trans t)))
theorem Wc:aA ["house","n","p","papers","plan","weaving","run","triple"] ["house","n","p","papers"] (ze Yu):=.of
theorem LD(D:bH K mg "are_papers" Yu)(oP:Ok P w K mg base "made_plan" 27 ["house","n","p"] (jE cP cR))(oT:Ok P w K mg base "has_triples" 3 ["thing","n","p"] mf)(oE:Ok P w K mg base "ends_with_all_done" 6 ["plan"] (ml cP cR))(oR:Ok P w K mg base "triples" 1 ["n","p"] gP)(oB:Ok P w K mg base "run_by" 5 ["plan","weaving"] (lR cU cP cR))(oC:Ok P w K mg base "come_of" 2 ["plan","triple"] (fc "come" (λ_ o _=>o) cP cR))(oG:Ok P w K mg base "go_of" 2 ["plan","triple"] (fc "go" (λi _ _=>i) cP cR))(oM:Ok P w K mg base "is_must" 5 ["run","one","other"] (lX cU cP cR)):Ok P w K mg base "are_papers" 28 ["house","n","p","papers"] mw:=by
 refine wj D Wc ?_;rintro f cn A bd s H vs Q E r ⟨b,v,n,p,d,av,rfl,hv,F,im,a7,hd,⟨bI,bE⟩,b4,kk⟩ X;have nd:=Wc.nd;have hu:=jk r;refine⟨_,zb (zr (i:=4) nd (yc oP r (za (pv 0) (za (pv 1) (za (pv 2) zc))))) (zb (yg (PW.pt (Zt (xb (y6 (yc oT (r.mono (by decide)) (za (pv 3) (za (pv 1) (za (pv 2) zc)))))) (j3 (xb (y6 (yc oE (r.mono (by decide)) (za (pv 4) zc))))))) (zf (zj wn)) zn) (zb (zr (i:=5) nd Wt) (zb (zr (i:=6) nd Wt) (zb (wa PassesOwn.never J (vy (yc oR (r.mono (by decide)) (za (pv 1) (za (pv 2) zc)))) (zk (i:=7) nd) (zb (yg (zo (tK (by exact r.units)) (wo hu (pv 3) (pv 7)) (pv 5) (zx _)) (zb (zr (i:=5) nd (wo hu (pv 3) (pv 7))) (zf (zr (i:=6) nd (yc oB (r.mono (by decide)) (za (pv 4) (za (pv 5) zc)))))) zn)
   (zf (yg (xb (y6 (yc oM (r.mono (by decide)) (za (pv 6) (za (yc oC (r.mono (by decide)) (za (pv 4) (za (pv 7) zc))) (za (yc oG (r.mono (by decide)) (za (pv 4) (za (pv 7) zc))) zc)))))) (zf (zj wn)) zn))))
  (zf (zj wn)))))),?_⟩
 refine⟨b,v,n,p,J,hv,F.law,im,λS L H1 s1 hx PA=>?_⟩;obtain⟨N,P',M⟩:=Ab im;obtain rfl:=M.en;obtain rfl:=M.ep;have PH:=F.law.pl;refine⟨d,N,P',av,J,s1 _ _ hd,bI,M.n16,M.p4,b4,λH2 s2=>⟨_,J,yi ?_⟩⟩;refine⟨S,b,L,J,PA.same s2,PH,λm H3 s3 bD=>⟨_,J,?_⟩⟩;rw[a7 m bD];refine yi ⟨N,P',J,M.n16,M.p4,λlt H4 s4 ck i4=>?_⟩;obtain⟨lt',xs,el,a5,ix⟩:=i4;cases el;have bl:=ix.length;rw[ae]at bl;have aq:zg H1 H4:=s2.trans (s3.trans s4);refine⟨lt,J,⟨xs,aI.of a5⟩,?_⟩;let Pv:Nat->L2.St->Hp->Prop:=λi σ G=>∃(wv rv:V)(x7:Option V),σ=[some v,some (.int (N:Int)),some (.int (P':Int)),some (.ref d),some (.ref S),some wv,some rv,x7]/\zg H4 G/\
  (wv=.non\/∃l ws x ad as t dn sm a6,wv=.ref l/\bT G l ws/\rv=.ref x/\bF t G cU cP cR b L x ad as dn sm/\Lg (mM b) a6 (xi (Z1 (plan b))) (ja b) ws dn sm)
 refine kf (K:=K) (a:=lt) (xs:=xs) Pv ⟨.non,.non,none,J,zg.refl _,.inl J⟩ (λi σ G _ ⟨_,_,_,_,sG,_⟩=>aI.of (sG _ _ a5)) ?_ ?_
 . rintro i vt σ G bx ⟨wv,rv,x7,rfl,sG,bw⟩;obtain⟨tt,a3,bi⟩:=ix.get' bx;rw[aj]at a3;obtain⟨g,hg,rfl⟩:=cm.mp a3;obtain⟨a,o,q,l,st,rfl,ev,_,LA,⟨n',U,jg,bK,bJ,b5,b2⟩,rd,ca⟩:=bE g (br hg);obtain⟨a',o',q',e',ha,ho,hq⟩:=Vh (br hg);obtain⟨rfl,rfl,rfl⟩:a=a'/\o=o'/\q=q':=by injection e' with e1 e;injection e with e2 e;injection e with e3;omega
   have C:=aq.trans sG;have aa:=s1.trans C;have ay:Is G (tI [(a:Int),(o:Int),(q:Int)]) vt:=bi.mono sG;obtain⟨bt,rfl,b3⟩:=zC ay;have dg:∀{G'},zg G G'->DGet G' d (.ref bt) (some (.ref l)):=λ{G'} s=>ev▸DGet.t (s _ _ (aa _ _ hd)) (s _ _ b3);have k:bT G l st.wov:=LA.by (aa _) aa.tups
   obtain⟨W,a8⟩:=nQ F (yo [o] U) n';rw[<-b5]at W a8;have a1:st.wov.length<=1200:=by have q:=a8.most;have q2:tot (mM b) (zi (plan b))=Xr b.ss (plan b):=Yd (jh b);have q4:Xr b.ss (plan b)<=1200:=PH.deeds;omega
   obtain⟨c1,c2,_,_⟩:=Z6 F (hl:=λi p=>wz (yo [o] U) [i] p) (λ_ _ _=>rfl) W.lg;dsimp only[km,pK,Ends.sq,nD,tC,pU];refine uk (t:=pJ _ _ _) (λap u=>∃(l' x ad as:Y)(t:Hp),ap=[some v,some (.int (N:Int)),some (.int (P':Int)),some (.ref d),some (.ref S),some (.ref l'),some (.ref x),some (.ref bt)]/\zg G u/\bT u l' st.wov/\bF t u cU cP cR b L x ad as st.done st.sums) ?_ (λfin=>?_)
   . rintro ap u ⟨l',x,ad,as,t,rfl,Z,b8,R3⟩;have ba:aJ u cP cR b L S:=PA.same (C.trans Z);have aK:Is u (tI [(a:Int),(o:Int),(q:Int)]) (.ref bt):=ay.mono Z;refine⟨S,b,L,a,o,q,_,J,ba,PH,aK,M.there o ho,by rw[(M.says o ho).1];exact hq,λvc G4 bh t4 b0 bN ic=>?_⟩;obtain rfl:U=bh:=J2 bK ⟨b0,bN⟩;refine⟨S,b,L,a,o,q,_,J,ba.same t4,PH,aK.mono t4,M.there a ha,by rw[(M.says a ha).2];exact hq,λvg G5 bg t5 bM bL ig=>?_⟩;obtain rfl:jg=bg:=J2 bJ ⟨bM,bL⟩;have j:=t4.trans t5;have bC:¬U<yb st.done [o]:=λz=>?_;refine⟨t,x,ad,as,b,L,_,_,o,U,a,jg,vc,vg,J,R3.same j,F,c1,c2,ic.mono t5,ig,λh hh hm=>?_,bC,of_decide_eq_false b2,λG6 t6=>⟨_,J,yi ?_⟩⟩
     . rw[<-xE]at hm;rcases W.fin _ rd hh with y|y
       . rw[c1]at hh;obtain⟨i,hi,rfl⟩:=F.mem.mp hh;rw[V8]at y;unfold fR at y;rw[cg,decide_eq_true_eq,decide_eq_true_eq]at y;obtain⟨rfl,y⟩:=y;exact⟨J,y⟩
       . rw[y]at hm;cases hm
     . exact⟨.ref l',.ref x,_,J,sG.trans (Z.trans (j.trans t6)),.inr ⟨l',_,x,ad,as,t,_,_,_,J,(b8.by (j _) j.tups).by (t6 _) t6.tups,J,(R3.same j).same t6,W.lg⟩⟩
     . have:=Rc.held (hh:=o) (hp:=U) (hl:=λi p=>wz (yo [o] U) [i] p) (by show wz _ _ _=true;rw[V8];simp[fR]) (Z6 F (hl:=λi p=>wz (yo [o] U) [i] p) (λ_ _ _=>rfl) W.lg).2.2.1;omega
   . refine⟨d,_,J,dg (zg.refl _),?_⟩;obtain⟨vs,bB,bk⟩:=id k;have aS:Is G (.lst (st.wov.map hT)) (.ref l):=⟨l,vs,J,bB,bk⟩
     obtain⟨y1,y2⟩:=Bm st.wov;rcases bw with rfl|⟨l2,B,x2,b7,b6,b9,cl,cc,b1,rfl,ah,rfl,R2,bb⟩
     . refine⟨_,.non,aS,J,y1,J,y2,_,J,ww ?_⟩;exact⟨d,_,J,dg (zg.refl _),S,l,b,L,_,_,_,_,J,PA.same C,F,k,a1,W.lg,λx ad as t u s0 hx R=>fin _ u ⟨l,x,ad,as,t,J,s0.trans R.s,k.by ((s0.trans R.s) _) (s0.trans R.s).tups,R⟩⟩
     . obtain⟨bc,a2,aw⟩:=id ah;obtain⟨z1,z2⟩:=Bm B;refine⟨_,.lst (B.map hT),aS,⟨l2,bc,J,a2,aw⟩,y1,z1,y2,_,J,?_⟩;cases c:PyData.eqv (aO (.lst (st.wov.map hT))) (aO (.lst (B.map hT)))with|false=>exact ww ⟨d,_,J,dg (zg.refl _),S,l,b,L,_,_,_,_,J,PA.same C,F,k,a1,W.lg,λx ad as t u s0 hx R=>fin _ u ⟨l,x,ad,as,t,J,s0.trans R.s,k.by ((s0.trans R.s) _) (s0.trans R.s).tups,R⟩⟩| true=>have e:st.wov=B:=Bh _ _ (by unfold aO PyData.eqv at c;exact c);rw[<-e]at bb ah;obtain⟨e1,e2⟩:=W.lg.det bb;rw[e1,e2]at R2;exact yi (fin _ G ⟨l2,x2,b7,b6,b9,J,zg.refl _,ah,R2⟩)
 rintro σ G ⟨wv,rv,x7,rfl,sG,_⟩;exact kk G (s1.trans (aq.trans sG))
end
noncomputable abbrev Kz:Stmt:=bA 82
noncomputable abbrev nG:Stmt:=bA 83
noncomputable abbrev Kx:Stmt:=bA 85
inductive dW(f:Nat->Nat->Nat->List aH)(vs:List V)(H:Hp)(Q:VK)(e0:XK):Prop|mk:∀n i q:Nat,vs=[.int (n:Int),.int (i:Int),.int (q:Int)]->i<n->n<=16->q<4->(∀v H',zg H H'->Is H' (.lst ((f n i q).map eD)) v->Q v H')->dW f vs H Q e0
section
variable{K:W.Frag}
theorem Ij:aA ["n","number","phase"] ["n","number","phase"] (ze Kz):=.of
theorem HQ(D:bH K mg "shared_deeds" Kz):Ok P w K mg base "shared_deeds" 1 ["n","number","phase"] (dW uJ):=by refine wj D Ij λf p A a s H r Q E z h=>?_;intro X;obtain⟨n,i,q,rfl,C,j,B,e⟩:=h;refine⟨_,zf (zj (vk (za (y0 (za zy (za zh (za zh zc)))) (za (y0 (za zy (za zh (za (yk qm (pv 0) (yk wr (pv 2) zh)) zc)))) zc)))),?_⟩;refine⟨by show 3<=1000;decide,λu L d y o=>?_⟩;refine⟨_,_,J,J,?_⟩;have g:jQ (n:Int) ((q:Int)+1):=Qe (by omega) (by omega) (by omega) (by omega);refine⟨_,_,J,J,g,by show 3<=1000;decide,λt G c x m=>⟨by show 2<=1000;decide,λl F b v k=>?_⟩⟩;exact e _ _ (d.trans (c.trans b)) (nK k ((qy (ji (qD (c _ _ o))) (ji (nJ m))).mono b))
theorem xR:aA ["n","number","phase","others"] ["n","number","phase"] (ze nG):=.of
theorem DU(D:bH K mg "own_deeds" nG)(T:Txt K mg):Ok P w K mg base "own_deeds" 1 ["n","number","phase"] (dW mZ):=by
 refine wj D xR λf ah A B s H vs Q E hr h=>?_;intro X;obtain⟨n,i,q,rfl,hi,aa,hq,kk⟩:=h;have nd:=xR.nd;refine⟨_,zb (Jj (i:=3) (own:=["other"]) (cap:=[1]) J (yv (ze nG) J J (by decide+kernel) (by decide+kernel) (by decide+kernel) ⟨⟨_,J,.inl J,vm J⟩,trivial⟩) (wm J T.range (za (aW 0) zc)) (λ_ _ _ _=>zk (i:=0) (by show(["other","number"]:O Str).Nodup;decide+kernel)) (λ_ _ _ _=>js (zo Wd (aW 0) (aW 1) (zx _))) (λ_ _ _ _=>aW 0) nd J J (by with_unfolding_all rfl))
  (zf (zj (yk sJ (Xh (za (jx (za zy (za (aW 1) (za zh zc)))) zc)) (qj (own:=["other"]) (cap:=[2]) J (yv (ze nG) J J (by decide+kernel) (by decide+kernel) (by decide+kernel) ⟨⟨_,J,.inl J,vm J⟩,trivial⟩) (vy (aW 3)) (λ_ _ _ _=>zk (i:=0) (by show(["other","phase"]:O Str).Nodup;decide+kernel)) (λ_ _ _ _=>wb) (λ_ _ _ _=>jx (za zy (za (aW 0) (za (yk wr (aW 1) zh) zc)))))))),?_⟩
 refine⟨_,J,_,J,by omega,by omega,?_⟩;refine j7 (lo:=0) (n:=(n:Int).toNat) (λj a d=>zg H d/\a=((List.range j).filter λz=>decide (z≠i)).map λz:Nat=>V.int (z:Int)) ⟨zg.refl H,J⟩ (λj a d U ⟨_,e⟩=>?_) ?_ ?_
 . rw[e,ae];refine cj (dm _ _) ?_;rw[cz];exact xj (by omega)
 . rintro j a d U ⟨r,rfl⟩;refine⟨_,J,_,J,J,_,J,ki (λz=>?_) (λz=>?_)⟩
   . have z:j≠i:=λe=>by rw[e,di]at z;simp at z
     refine⟨_,J,r,?_⟩;rw[As,if_pos z,be,di];rfl
   . have z:j=i:=Classical.byContradiction λe=>z (by have:V.int (0+(j:Int))≠V.int (i:Int):=λy=>e (by have:=V.int.inj y;omega);rw[c6 this];rfl)
     refine⟨r,?_⟩;rw[As,if_neg (λy=>y z),cq]
 rintro a H1 ⟨r,rfl⟩ l hl;rw[show(n:Int).toNat=n from ci n,show((List.range n).filter λz=>decide (z≠i))=dG n i from rfl];have S:=zg.new hl (.lst ((dG n i).map λz:Nat=>V.int (z:Int)));have g2:upd H1 l (.lst ((dG n i).map λz:Nat=>V.int (z:Int))) l=some (.lst ((dG n i).map λz:Nat=>V.int (z:Int))):=zd;generalize upd H1 l (.lst ((dG n i).map λz:Nat=>V.int (z:Int)))=H2 at S g2⊢;refine⟨_,J,bO,λc h1=>?_⟩;have v:=zg.new h1 (.tup [.str "raise",.int (i:Int),.int 1]);have g3:upd H2 c (.tup [.str "raise",.int (i:Int),.int 1]) c=some (.tup [.str "raise",.int (i:Int),.int 1]):=zd;generalize upd H2 c (.tup [.str "raise",.int (i:Int),.int 1])=H3 at v g3⊢;refine⟨bO,λu L=>?_⟩;have o:=zg.new L (.lst [.ref c]);have Z:upd H3 u (.lst [.ref c]) u=some (.lst [.ref c]):=zd;generalize upd H3 u (.lst [.ref c])=H4 at o Z⊢;have m:=o _ _ (v _ _ g2);have M:=o _ _ g3;refine⟨_,J,l,J,⟨_,aI.of m⟩,?_⟩;have ol:=EX n i;refine Zl (xs:=(dG n i).map λz:Nat=>V.int (z:Int)) (λj a d=>zg H4 d/\IsL d (((dG n i).take j).map λz:Nat=>eD (.awa (z:Int) ((q:Int)+1))) a) ⟨zg.refl H4,J⟩ (λj a d U ⟨s',e⟩=>⟨aI.of (s' _ _ m),?_⟩) ?_ ?_
 . have e:=e.length;rw[ae,cx]at e;exact xj (by omega)
 . rintro j x a N k ⟨g,e⟩;rw[aj]at k;cases C:(dG n i)[j]? with|none=>rw[C]at k;cases k| some z=>rw[C]at k;cases k;refine W4 ?_;refine⟨_,J,_,J,_,_,J,J,bO,λp hp=>?_⟩;have b:=zg.new hp (.tup [.str "await",.int (z:Int),.int ((q:Int)+1)]);refine⟨g.trans b,?_⟩;rw[List.take_succ,C,be];exact qy (e.mono b) (ji (nJ zd))
 . rintro a N ⟨g,e⟩ t G;rw[ae,cw]at e;have b:=zg.new G (.lst a);have W:upd N t (.lst a) t=some (.lst a):=zd;generalize upd N t (.lst a)=H6 at b W⊢;have el:=e.length;rw[ae]at el;refine⟨u,t,_,_,J,J,b _ _ (g _ _ Z),W,(by show 1+a.length<=sizeLine;exact xj (by omega)),λl3 F=>?_⟩;have R:=zg.new F (.lst ([.ref c]++a));refine kk _ _ (r.trans (S.trans (v.trans (o.trans (g.trans (b.trans R)))))) (nK zd ?_);have:=qy (ji (qD (b _ _ (g _ _ M)))) (e.mono b);have e2:(mZ n i q).map eD=[eD (.rai (i:Int) 1)]++(dG n i).map λz:Nat=>eD (.awa (z:Int) ((q:Int)+1)):=by unfold mZ;rw[cb,bp];rfl
   rw[e2];exact this.mono R
theorem zO:aA ["n","number","phase","below","deeds"] ["n","number","phase"] (ze Kx):=.of
theorem ES(D:bH K mg "tree_deeds" Kx)(T:Txt K mg):Ok P w K mg base "tree_deeds" 1 ["n","number","phase"] (dW mX):=by
 refine wj D zO λf aK A aa s H vs Q E hr h=>?_;intro X;obtain⟨n,i,q,rfl,hi,ay,hq,kk⟩:=h;have nd:=zO.nd;refine⟨_,zb (Jj (i:=3) (own:=["other"]) (cap:=[0]) J (yv (ze Kx) J J (by decide+kernel) (by decide+kernel) (by decide+kernel) ⟨⟨_,J,.inl J,vm J⟩,trivial⟩) (j5 (jx (za (yk wr (yk qm zh (aW 1)) zh) (za (yk wr (yk qm zh (aW 1)) zh) zc)))) (λ_ _ _ _=>zk (i:=0) (by show(["other","n"]:O Str).Nodup;decide+kernel)) (λ_ _ _ _=>js (zo We (aW 0) (aW 1) (zx _))) (λ_ _ _ _=>aW 0) nd J J (by with_unfolding_all rfl))
  (zb (zr (i:=4) nd (yk sJ (qj (own:=["other"]) (cap:=[2]) J (yv (ze Kx) J J (by decide+kernel) (by decide+kernel) (by decide+kernel) ⟨⟨_,J,.inl J,vm J⟩,trivial⟩) (vy (aW 3)) (λ_ _ _ _=>zk (i:=0) (by show(["other","phase"]:O Str).Nodup;decide+kernel)) (λ_ _ _ _=>wb) (λ_ _ _ _=>jx (za zy (za (aW 0) (za (yk wr (aW 1) zh) zc)))))
   (Xh (za (jx (za zy (za (aW 1) (za zh zc)))) zc))))
  (zf (zj (Yi (zo xz (aW 1) zh (zx _)) (aW 4) (yk sJ (aW 4) (Xh (za (jx (za zy (za zh (za (yk wr (aW 2) zh) zc)))) zc))))))),?_⟩
 refine⟨_,J,_,_,J,J,Qe (by omega) (by omega) (by omega) (by omega),_,_,J,J,_,J,_,_,J,J,Qe (by omega) (by omega) (by omega) (by omega),_,_,J,J,bO,λM h0=>?_⟩;have s0:=zg.new h0 (.tup [.int (2*(i:Int)+1),.int (2*(i:Int)+2)]);have g0:upd H M (.tup [.int (2*(i:Int)+1),.int (2*(i:Int)+2)]) M=some (.tup [.int (2*(i:Int)+1),.int (2*(i:Int)+2)]):=zd;generalize upd H M (.tup [.int (2*(i:Int)+1),.int (2*(i:Int)+2)])=H0 at s0 g0⊢;refine⟨M,J,⟨_,aE.of g0⟩,?_⟩;refine nL (xs:=[.int (2*(i:Int)+1),.int (2*(i:Int)+2)]) (λj a o=>zg H0 o/\a=((([2*i+1,2*i+2]:O Nat).take j).filter λz=>decide (z<n)).map λz:Nat=>V.int (z:Int)) ⟨zg.refl H0,J⟩ (λj a o hj ⟨s',e⟩=>⟨aE.of (s' _ _ g0),?_⟩) ?_ ?_
 . rw[e,ae];refine cj (dm _ _) ?_;rw[cx];exact xj (by show min j 2<=1000;omega)
 . rintro j x a o g ⟨L,rfl⟩;obtain⟨z,hz,rfl⟩:∃z:Nat,([2*i+1,2*i+2]:O Nat)[j]?=some z/\x=V.int (z:Int):=by match j,g with|0,g=>cases g;exact⟨_,J,by congr 1⟩|1,g=>cases g;exact⟨_,J,by congr 1⟩
   refine⟨_,J,_,J,_,_,J,J,_,J,ki (λc=>?_) (λc=>?_)⟩
   . have c:z<n:=by have:=ce c;omega
     refine⟨_,J,L,?_⟩;rw[List.take_succ,hz,List.filter_append,be];show _++[V.int (z:Int)]=_++List.map _ (List.filter _ [z]);rw[List.filter_cons,if_pos (bn c)];rfl
   . have c:¬z<n:=λy=>c (bn (by omega));refine⟨L,?_⟩;rw[List.take_succ,hz,List.filter_append,be];show _=_++List.map _ (List.filter _ [z]);rw[List.filter_cons,if_neg (by rw[c6 c];exact bu),List.filter_nil,List.map_nil,cq]
 rintro a H1 ⟨L,rfl⟩ l hl;rw[show((([2*i+1,2*i+2]:O Nat).take ([.int (2*(i:Int)+1),.int (2*(i:Int)+2)]:O V).length).filter λz=>decide (z<n))=fS n i from rfl];have s2:=zg.new hl (.lst ((fS n i).map λz:Nat=>V.int (z:Int)));have g2:upd H1 l (.lst ((fS n i).map λz:Nat=>V.int (z:Int))) l=some (.lst ((fS n i).map λz:Nat=>V.int (z:Int))):=zd;generalize upd H1 l (.lst ((fS n i).map λz:Nat=>V.int (z:Int)))=H2 at s2 g2⊢;refine⟨_,J,l,J,⟨_,aI.of g2⟩,?_⟩;have ol:=yF n i;refine Zl (xs:=(fS n i).map λz:Nat=>V.int (z:Int)) (λj a o=>zg H2 o/\IsL o (((fS n i).take j).map λz:Nat=>eD (.awa (z:Int) ((q:Int)+1))) a) ⟨zg.refl H2,J⟩ (λj a o hj ⟨s',e⟩=>⟨aI.of (s' _ _ g2),?_⟩) ?_ ?_
 . have e:=e.length;rw[ae,cx]at e;exact xj (by omega)
 . rintro j x a H5 g ⟨Z,e⟩;rw[aj]at g;cases ho:(fS n i)[j]? with|none=>rw[ho]at g;cases g| some z=>rw[ho]at g;cases g;refine W4 ?_;refine⟨_,J,_,J,_,_,J,J,bO,λp hp=>?_⟩;have r:=zg.new hp (.tup [.str "await",.int (z:Int),.int ((q:Int)+1)]);refine⟨Z.trans r,?_⟩;rw[List.take_succ,ho,be];exact qy (e.mono r) (ji (nJ zd))
 rintro a H5 ⟨Z,e⟩ S av;rw[ae,cw]at e;have r:=zg.new av (.lst a);have g6:upd H5 S (.lst a) S=some (.lst a):=zd;generalize upd H5 S (.lst a)=H6 at r g6⊢;have el:=e.length;rw[ae]at el;refine⟨_,J,bO,λb h1=>?_⟩;have G:=zg.new h1 (.tup [.str "raise",.int (i:Int),.int 1]);have g7:upd H6 b (.tup [.str "raise",.int (i:Int),.int 1]) b=some (.tup [.str "raise",.int (i:Int),.int 1]):=zd;generalize upd H6 b (.tup [.str "raise",.int (i:Int),.int 1])=H7 at G g7⊢;refine⟨bO,λU aw=>?_⟩;have t:=zg.new aw (.lst [.ref b]);have g8:upd H7 U (.lst [.ref b]) U=some (.lst [.ref b]):=zd;generalize upd H7 U (.lst [.ref b])=H8 at t g8⊢;refine⟨S,U,_,_,J,J,t _ _ (G _ _ g6),g8,(xj (by show a.length+1<=1000;omega)),λR aq=>?_⟩;have F:=zg.new aq (.lst (a++[.ref b]));have g9:upd H8 R (.lst (a++[.ref b])) R=some (.lst (a++[.ref b])):=zd;generalize upd H8 R (.lst (a++[.ref b]))=W at F g9⊢;have S9:zg H W:=s0.trans (L.trans (s2.trans (Z.trans (r.trans (G.trans (t.trans F))))));have i9:IsL W (((fS n i).map λz:Nat=>eD (.awa (z:Int) ((q:Int)+1)))++[eD (.rai (i:Int) 1)]) (a++[.ref b]):=qy (e.mono (r.trans (G.trans (t.trans F)))) (ji (qD (F _ _ (t _ _ g7))));have ed:(mX n i q).map eD=((fS n i).map λz:Nat=>eD (.awa (z:Int) ((q:Int)+1)))++[eD (.rai (i:Int) 1)]++(if i=0 then[]else[eD (.awa 0 ((q:Int)+1))]):=by unfold mX;rw[be,be,bp];congr 1;by_cases z:i=0<;>simp[z]
 refine⟨_,J,J,_,J,ki (λc=>?_) (λc=>?_)⟩
 . have c:i=0:=by have:=V.int.inj (ce c);omega
   refine⟨_,J,kk _ _ S9 (nK g9 ?_)⟩;rw[ed,if_pos c,cq];exact i9
 . have c:¬i=0:=λz=>c (by rw[z];exact bn J);refine⟨_,J,_,J,_,_,J,J,bO,λm h4=>?_⟩;have k:=zg.new h4 (.tup [.str "await",.int 0,.int ((q:Int)+1)]);have B:upd W m (.tup [.str "await",.int 0,.int ((q:Int)+1)]) m=some (.tup [.str "await",.int 0,.int ((q:Int)+1)]):=zd;generalize upd W m (.tup [.str "await",.int 0,.int ((q:Int)+1)])=C at k B⊢;refine⟨bO,λN ap=>?_⟩;have d:=zg.new ap (.lst [.ref m]);have v:upd C N (.lst [.ref m]) N=some (.lst [.ref m]):=zd;generalize upd C N (.lst [.ref m])=aS at d v⊢;refine⟨R,N,_,_,J,J,d _ _ (k _ _ g9),v,(by rw[c7];exact xj (by show a.length+1+1<=1000;omega)),λl5 ah=>?_⟩;have u:=zg.new ah (.lst (a++[.ref b]++[.ref m]));refine kk _ _ (S9.trans (k.trans (d.trans u))) (nK zd ?_);rw[ed,if_neg c];exact(qy (i9.mono (k.trans d)) (ji (nJ (d _ _ B)))).mono u
end
noncomputable abbrev Ky:Stmt:=bA 84
noncomputable abbrev tU:Stmt:=bA 86
section
variable{K:W.Frag}
theorem BB:aA ["n","number","phase","deeds","first_box","far"] ["n","number","phase"] (ze Ky):=.of
theorem HR(D:bH K mg "spread_deeds" Ky)(T:Txt K mg):Ok P w K mg base "spread_deeds" 1 ["n","number","phase"] (dW oY):=by
 refine wj D BB λf ap A u s H vs Q E hr h=>?_;intro X;obtain⟨n,i,q,rfl,hi,ah,hq,kk⟩:=h;have j:=BB.nd;refine⟨_,zb (zr (i:=3) j (Xh zc)) (zb (zr (i:=4) j zh) (zb (zr (i:=5) j zh) (zb (K7 PassesOwn.never (zo We (aW 5) (aW 0) (zx _)) (zb (we (Zv PySem.F.plainAttrs_list PySem.F.slot_list_append PySem.F.type_list_append qv (aW 3) (za (jx (za zy (za (yk wr (aW 4) (aW 1)) (za zh zc)))) zc))) (zb (we (Zv PySem.F.plainAttrs_list PySem.F.slot_list_append PySem.F.type_list_append qv (aW 3) (za (jx (za zy (za (yk wr (aW 4) (yk Q2 (yk Wu (aW 1) (aW 5)) (aW 0))) (za (yk wr (aW 2) zh) zc)))) zc))) (zb (xX (i:=4) j J (Or.inl J) (aW 0) wY) (zf (xX (i:=5) j J (Or.inl J) zh DF))))))
  (zf (zj (aW 3)))))),?_⟩
 refine⟨bO,λl x=>?_⟩;have W:=Gr.nil x;generalize upd H l (.lst [])=H0 at W⊢;refine⟨λm C S=>∃(k a:Nat)(p:O aH)(d:O V),Gr H S l p d/\p++lB n i q m k a=oY n i q/\n<=a*2^m/\a<=32/\m+k=5/\p.length=2*k/\C=[some (.int (n:Int)),some (.int (i:Int)),some (.int (q:Int)),some (.ref l),some (.int ((k*n:Nat):Int)),some (.int (a:Int))],⟨5,0,1,[],[],W,J,by omega,by omega,J,J,by simp[L2.start]⟩,?_⟩
 rintro m C R ⟨k,a,p,d,b,B,v,aa,hm,hd,rfl⟩;refine⟨_,J,_,J,_,_,J,J,_,J,ki (λc=>?_) (λc=>?_)⟩
 . have c:a<n:=by have:=ce c;omega
   obtain⟨m,rfl⟩:∃m',m=m'+1:=by cases m with|zero=>rw[Nat.pow_zero,Nat.mul_one]at v;omega|succ m=>exact⟨m,J⟩
   refine⟨_,λZ S z=>⟨m,by omega,z⟩,?_⟩;have gl:=b.len;have e4:((k*n:Nat):Int)+(i:Int)=((k*n+i:Nat):Int):=by omega
   have e5:((k*n:Nat):Int)+((i:Int)-(a:Int))%(n:Int)=((k*n+(i+n-a)%n:Nat):Int):=by rw[Yo c];omega
   refine⟨_,J,.inl ⟨J,_,aI.of b.at'⟩,_,J,_,J,_,_,J,J,bO,λe h1=>?_⟩;have t:=zg.new h1 (.tup [.str "raise",.int (((k*n:Nat):Int)+(i:Int)),.int 1]);have G:upd R e (.tup [.str "raise",.int (((k*n:Nat):Int)+(i:Int)),.int 1]) e=some (.tup [.str "raise",.int (((k*n:Nat):Int)+(i:Int)),.int 1]):=zd;generalize upd R e (.tup [.str "raise",.int (((k*n:Nat):Int)+(i:Int)),.int 1])=N at t G⊢;refine⟨l,d,_,J,J,t _ _ b.at',Vj (by omega),?_⟩;have o:=b.app x t (qD (show N e=some (.tup [.str "raise",.int ((k*n+i:Nat):Int),.int 1]) by rw[<-e4];exact G));generalize upd N l (.lst (d++[.ref e]))=M at o⊢;refine⟨_,J,.inl ⟨J,_,aI.of o.at'⟩,_,J,_,J,_,J,_,_,J,J,_,J,_,_,J,J,(by omega),_,_,J,J,_,J,_,_,J,J,bO,λg h2=>?_⟩;have r:=zg.new h2 (.tup [.str "await",.int (((k*n:Nat):Int)+((i:Int)-(a:Int))%(n:Int)),.int ((q:Int)+1)]);have F:upd M g (.tup [.str "await",.int (((k*n:Nat):Int)+((i:Int)-(a:Int))%(n:Int)),.int ((q:Int)+1)]) g=some (.tup [.str "await",.int (((k*n:Nat):Int)+((i:Int)-(a:Int))%(n:Int)),.int ((q:Int)+1)]):=zd;generalize upd M g (.tup [.str "await",.int (((k*n:Nat):Int)+((i:Int)-(a:Int))%(n:Int)),.int ((q:Int)+1)])=L at r F⊢;have y:=o.len;rw[c7]at y;refine⟨l,_,_,J,J,r _ _ o.at',Vj (by rw[c7];show d.length+1<1000;omega),?_⟩;have U:=o.app x r (nJ (show L g=some (.tup [.str "await",.int ((k*n+(i+n-a)%n:Nat):Int),.int ((q:Int)+1)]) by rw[<-e5];exact F));generalize upd L l (.lst (d++[.ref e]++[.ref g]))=H5 at U⊢;refine⟨_,J,_,_,J,J,_,_,J,J,Qe (by omega) (by omega) (by omega) (by omega),?_⟩;refine⟨k+1,2*a,_,_,U,?_,?_,by omega,by omega,?_,?_⟩
   . rw[<-B,List.append_assoc,List.append_assoc];congr 1;show _=(if a<n then _ else _);rw[if_pos c];rfl
   . rw[Nat.pow_succ]at v;rw[Nat.mul_comm 2 a,Nat.mul_assoc,Nat.mul_comm 2];exact v
   . rw[c7,c7,hd];show 2*k+1+1=2*(k+1);omega
   . have e6:((k*n:Nat):Int)+(n:Int)=(((k+1)*n:Nat):Int):=by rw[Nat.succ_mul];omega
     have e7:(a:Int)*2=((2*a:Nat):Int):=by omega
     rw[<-e6,<-e7];rfl
 . have c:n<=a:=Classical.byContradiction λz=>c (bn (by omega));rw[Fj c,cq]at B;subst B;exact⟨_,J,kk _ _ b.same (nK b.at' b.it)⟩
end
noncomputable abbrev Wn:Stmt:=bA 87
inductive lY(vs:List V)(H:Hp)(Q:VK)(e0:XK):Prop|mk:∀(kd:Str)(n i q:Nat),vs=[.str kd,.int (n:Int),.int (i:Int),.int (q:Int)]->i<n->n<=16->q<4->(∀v H',zg H H'->Is H' (.lst ((mY kd n i q).map eD)) v->Q v H')->lY vs H Q e0
inductive gQ(vs:List V)(H:Hp)(Q:VK)(e0:XK):Prop|mk:∀(kd:Str)(n i p:Nat),vs=[.str kd,.int (n:Int),.int (i:Int),.int (p:Int)]->i<n->n<=16->p<=4->(∀v H',zg H H'->Is H' (eS (eW kd n i p)) v->Q v H')->gQ vs H Q e0
section
variable{K:W.Frag}
theorem GF:aA ["kind","n","number","phase"] ["kind","n","number","phase"] (ze tU):=.of
theorem F8(D:bH K mg "met_by" tU)(p:Ok P w K mg base "shared_deeds" 1 ["n","number","phase"] (dW uJ))(o:Ok P w K mg base "own_deeds" 1 ["n","number","phase"] (dW mZ))(m:Ok P w K mg base "spread_deeds" 1 ["n","number","phase"] (dW oY)) (l:Ok P w K mg base "tree_deeds" 1 ["n","number","phase"] (dW mX)):Ok P w K mg base "met_by" 2 ["kind","n","number","phase"] lY:=by
 refine wj D GF λf r A j s H t Q E d h=>?_;intro X;obtain⟨k,n,i,q,rfl,g,b,e,a⟩:=h;refine⟨_,zb (yg (zo xz (aW 0) zy (zx _)) (zf (zj (yc p d (za (aW 1) (za (aW 2) (za (aW 3) zc)))))) zn) (zb (yg (zo xz (aW 0) zy (zx _)) (zf (zj (yc o d (za (aW 1) (za (aW 2) (za (aW 3) zc)))))) zn) (zb (yg (zo xz (aW 0) zy (zx _)) (zf (zj (yc m d (za (aW 1) (za (aW 2) (za (aW 3) zc)))))) zn) (zf (zj (yc l d (za (aW 1) (za (aW 2) (za (aW 3) zc)))))))),?_⟩
 unfold mY at a;refine⟨_,J,J,_,J,ki (λc=>?_) (λc=>?_)⟩
 . have c:k="shared":=V.str.inj (ce c);rw[if_pos c]at a;exact⟨_,J,_,J,_,J,n,i,q,J,g,b,e,a⟩
 rw[if_neg (λz=>c (by rw[z];exact bn J))]at a;refine⟨_,J,J,_,J,ki (λc=>?_) (λc=>?_)⟩
 . have c:k="own":=V.str.inj (ce c);rw[if_pos c]at a;exact⟨_,J,_,J,_,J,n,i,q,J,g,b,e,a⟩
 rw[if_neg (λz=>c (by rw[z];exact bn J))]at a;refine⟨_,J,J,_,J,ki (λc=>?_) (λc=>?_)⟩
 . have c:k="spread":=V.str.inj (ce c);rw[if_pos c]at a;exact⟨_,J,_,J,_,J,n,i,q,J,g,b,e,a⟩
 rw[if_neg (λz=>c (by rw[z];exact bn J))]at a;exact⟨_,J,_,J,_,J,n,i,q,J,g,b,e,a⟩
theorem Jh:aA ["kind","n","number","p","deeds","phase"] ["kind","n","number","p"] (ze Wn):=.of
theorem KZ(D:bH K mg "script_of" Wn)(T:Txt K mg)(o1:Ok P w K mg base "met_by" 2 ["kind","n","number","phase"] lY):Ok P w K mg base "script_of" 3 ["kind","n","number","p"] gQ:=by
 refine wj D Jh λf aa A y s H vs Q E hr h=>?_;intro X;obtain⟨b,n,i,p,rfl,C,e,hp,kk⟩:=h;have S:=Jh.nd;refine⟨_,zb (zr (i:=4) S (Xh zc)) (zb (wa PassesOwn.never J (wm J T.range (za (aW 3) zc)) (zk (i:=5) S) (zb (we (Zv PySem.F.plainAttrs_list PySem.F.slot_list_append PySem.F.type_list_append qv (aW 4) (za (jx (za zy (za zy zc))) zc))) (zb (we (Zv PySem.F.plainAttrs_list PySem.F.slot_list_extend PySem.F.type_list_extend Yk (aW 4) (za (yc o1 hr (za (aW 0) (za (aW 1) (za (aW 2) (za (aW 5) zc))))) zc))) (zf (we (Zv PySem.F.plainAttrs_list PySem.F.slot_list_append PySem.F.type_list_append qv (aW 4) (za (jx (za zy (za zy zc))) zc)))))))
  (zf (zj (w9 Yb J T.tuple Yn (za (aW 4) zc))))),?_⟩
 refine⟨bO,λl k=>?_⟩;have G0:=Gr.nil k;generalize upd H l (.lst [])=H0 at G0⊢;refine⟨_,J,_,J,by omega,by omega,?_⟩;refine Zn (lo:=0) (n:=(p:Int).toNat) (λj r H'=>∃a t,Gr H H' l (eW b n i j) a/\r=[some (.str b),some (.int (n:Int)),some (.int (i:Int)),some (.int (p:Int)),some (.ref l),t]) ⟨[],none,G0,J⟩ ?_ ?_
 . rintro j r G B ⟨a,t,c,rfl⟩;have B:j<p:=by rw[ci]at B;exact B
   have gl:=c.len;have dl:=yI (kd:=b) C e j;refine⟨_,J,.inl ⟨J,_,aI.of c.at'⟩,bO,λd h1=>?_⟩;have x:=zg.new h1 (.tup [.str "say",.str "come"]);have Z:upd G d (.tup [.str "say",.str "come"]) d=some (.tup [.str "say",.str "come"]):=zd;generalize upd G d (.tup [.str "say",.str "come"])=H2 at x Z⊢;refine⟨l,a,_,J,J,x _ _ c.at',Vj (by omega),?_⟩;have q:=c.app k x (wZ Z);generalize upd H2 l (.lst (a++[.ref d]))=H3 at q⊢;have F:(a++[V.ref d]).length=(eW b n i j).length+1:=by rw[c7,gl];rfl
   rw[show(0:Int)+(j:Int)=(j:Int)from di _];refine⟨_,J,.inl ⟨J,_,aI.of q.at'⟩,_,J,_,J,_,J,_,J,b,n,i,j,J,C,e,by omega,λv H4 N i4=>?_⟩;obtain⟨m,L,rfl,hm,U⟩:=i4;have M:=U.length;rw[ae]at M;have pl:=yH (kd:=b) (q:=j) C e;refine⟨l,m,_,_,J,J,N _ _ q.at',hm,xj (by omega),?_⟩;have o:=q.apps k N U;generalize upd H4 l (.lst (a++[.ref d]++L))=H5 at o⊢;refine⟨_,J,.inl ⟨J,_,aI.of o.at'⟩,bO,λg h2=>?_⟩;have u:=zg.new h2 (.tup [.str "say",.str "go"]);have W:upd H5 g (.tup [.str "say",.str "go"]) g=some (.tup [.str "say",.str "go"]):=zd;generalize upd H5 g (.tup [.str "say",.str "go"])=H6 at u W⊢;refine⟨l,_,_,J,J,u _ _ o.at',Vj (by rw[c7,F,M];omega),?_⟩;have G4:=o.app k u (wZ W);refine⟨a++[.ref d]++L++[.ref g],_,?_,J⟩;rw[Aj,show eW b n i j++one b n i j=eW b n i j++[.say "come"]++mY b n i j++[.say "go"] by unfold one;simp];exact G4
 . rintro r G ⟨a,t,c,rfl⟩;rw[show((p:Int)).toNat=p from ci p]at c;refine⟨_,J,l,a,J,.inl ⟨aI.of c.at',λl2 z=>?_⟩⟩;have R:=zg.new z (.tup a);exact kk _ _ (c.same.trans R) ⟨l2,a,J,zd,c.it.mono R⟩
end
theorem yM{a:List yx}(h:∀s∈a,s.length<=30):∀l:List (List Nat×Nat),Xr a l<=30*l.length
 |[]=>ag _
 | q::l=>by
   have b:=yM h l;have c:(a.getD q.2 []).length<=30:=by
    rw[c8];cases e:a[q.2]? with
    |none=>simp
    |some s=>exact h s (br e)
   unfold Xr at b⊢;rw[cb,List.sum_cons,df,Nat.mul_add];omega
theorem pz.law{h:aB}(F:pz h):fj h:=by
 have pl:(jv (h.fs.map (·.1))).length=h.fs.length:=by unfold jv;rw[ae,List.length_zipIdx,ae]
 have f17:=F.f17;have d:=yM F.len (jv (h.fs.map (·.1)));refine⟨F,⟨⟨λs a d f=>(F.pl s a d f).no,λs a=>by have:=F.len s a;omega,F.w0⟩,F.n20,by omega,λc g=>(F.call c g).2,λc g=>(F.call c g).1,by omega,by omega,F.b0,by have:=F.b99;omega,λs a x i=>?_,λs a d f b m e=>?_⟩⟩
 . rcases F.pl s a _ i with rfl|rfl<;>decide+kernel
 . have:=F.pl s a d f;rcases e with rfl|rfl<;>exact⟨this.1,this.2.1⟩
noncomputable def bX(b:Int)(n:Nat)(B:List yx):aB:=⟨b,0,(List.range n).map λi=>((i:Nat),([]:List fY)),B⟩
noncomputable def BR(b:Int):aH->Bool|.rai x k=>decide (0<=x/\x<b/\1<=k/\k<=99)|.awa x m=>decide (0<=x/\x<b/\1<=m/\m<=9999)|.say x=>decide (x="come") ||decide (x="go")|_=>false
theorem C0{d:aH}(h:BR b d=true):jP b d:=by cases d with|rai x k=>exact ce (p:=0<=x/\x<b/\1<=k/\k<=99) h|awa x m=>exact ce (p:=0<=x/\x<b/\1<=m/\m<=9999) h| say x=>have h:(decide (x="come") ||decide (x="go"))=true:=h;rw[Bool.or_eq_true,decide_eq_true_eq,decide_eq_true_eq]at h;exact h|_=>cases h
noncomputable def pI(b:Int)(n:Nat)(B:List yx):Bool:=decide (0<=b/\b<=99/\1<=n/\n<=17/\B.length=n) && B.all λs=>decide (s.length<=30) && s.all (BR b)
theorem sO{n:Nat}{a:O yx}(h:pI b n a=true):pz (bX b n a)/\a.length=n:=by
 unfold pI at h;rw[cg,decide_eq_true_eq,cy]at h;obtain⟨⟨p,f,q,j,k⟩,h⟩:=h;have g:∀s∈a,s.length<=30/\∀d∈s,jP b d:=λs e=>by have:=h s e;rw[cg,decide_eq_true_eq,cy]at this;exact⟨this.1,λd m=>C0 (this.2 d m)⟩
 have r:(bX b n a).fs.length=n:=by unfold bX;rw[ae,cz]
 refine⟨⟨p,f,J,by show 1<=a.length;omega,by show a.length<=20;omega,by omega,by omega,λc o=>?_,λs e=>(g s e).1,λs e=>(g s e).2⟩,k⟩;obtain⟨i,l,rfl⟩:=bz.mp o;exact⟨by have:=da.mp l;show i<a.length;omega,J⟩
theorem GN{n:Nat}{a:O yx}(h:pI b n a=true):Flat (bX b n a):=⟨(sO h).1.law,(sO h).1.pl⟩
section
variable{n:Nat}{ss:List yx}
theorem mQ:(bX b n ss).fs.length=n:=by unfold bX;rw[ae,cz]
theorem rJ(a:i<n):gW (bX b n ss) i=ss.getD i []:=by unfold gW bX;simp[c8,aj,List.getElem?_range a]
theorem rP(hl:ss.length=n):cS (bX b n ss)=ss.map λs=>s.map eX:=by
 unfold cS;rw[mQ];refine List.ext_getElem (by simp[hl]) λi c d=>?_;have a:i<n:=by simpa using c
 rw[List.getElem_map,List.getElem_range,rJ a,List.getElem_map,c8,bo (by omega)];rfl
noncomputable def plS(s:yx)(B:Str)(q:Nat):Nat:=(Xo B s s.length).getD q 0
noncomputable def m8(s:yx)(B:Str)(q j:Nat):Bool:=((s[j]?).map (qk B)).getD false && decide ((s.take j).countP (qk B)=q)
theorem wJ{k:Nat}(F:Flat (bX b n ss))(hk:k<n)(h:m8 (ss.getD k []) wd q j=true):Wj (bX b n ss) wd k q j:=by unfold m8 at h;rw[cg,decide_eq_true_eq]at h;unfold Wj;rw[F.scr (by rw[mQ];exact hk),rJ hk];refine⟨?_,h.2⟩;have h:=h.1;cases e:(ss.getD k [])[j]? with|none=>rw[e]at h;cases h| some d=>rw[e]at h;cases d with|say x=>rw[show x=wd from ce h]|_=>cases h
noncomputable def qS(b:Int)(n p:Nat)(B:List yx):Bool:=pI b n B && (Y1 (bX b n B) n p && (decide (fin (B.map λs=>s.map eX) b.toNat 1000 0=some (B.map List.length)) && B.all λs=>(List.range p).all λq=>m8 s "come" q (plS s "come" q) && m8 s "go" q (plS s "go" q)))
structure nr(b:Int)(n p:Nat)(ss:List yx):Prop where
 flat:Flat (bX b n ss)
 made:Y1 (bX b n ss) n p=true
 all:∀n0,(ym (bX b n ss) [] n0).ready=[]->Y2 (bX b n ss) (ym (bX b n ss) [] n0).done=true
 len:ss.length=n
 come:∀k q,k<n->q<p->Wj (bX b n ss) "come" k q (plS (ss.getD k []) "come" q)
 go:∀k q,k<n->q<p->Wj (bX b n ss) "go" k q (plS (ss.getD k []) "go" q)
theorem wK(h:qS b n p ss=true):nr b n p ss:=by
 unfold qS at h;rw[cg,cg,cg,decide_eq_true_eq,cy]at h;obtain⟨l,s,j,r⟩:=h;have F:=GN l;have d:=(sO l).2;have o:∀k,k<n->ss.getD k []∈ss:=λk hk=>by rw[c8,bo (by omega)];exact List.getElem_mem _
 have g:∀k q,k<n->q<p->m8 (ss.getD k []) "come" q (plS (ss.getD k []) "come" q)=true/\m8 (ss.getD k []) "go" q (plS (ss.getD k []) "go" q)=true:=λk q hk a=>by have:=cy.mp (r _ (o k hk)) q (da.mpr a);rw[cg]at this;exact this
 refine⟨F,s,λm e=>?_,d,λk q hk a=>wJ F hk (g k q hk a).1,λk q hk a=>wJ F hk (g k q hk a).2⟩;refine cy.mpr λh f=>?_;obtain⟨i,c,rfl⟩:=F.mem.mp f;have W:=(nQ F [] m).1;obtain⟨t,_⟩:=Z6 F (hl:=λi p=>wz [] [i] p) (λ_ _ _=>rfl) W.lg;unfold iE;rw[cg,decide_eq_true_eq,decide_eq_true_eq];refine⟨by rw[t];exact f,?_⟩;rw[<-rP d]at j;rw[EA F e j c,F.scr c,rJ (by rw[mQ]at c;exact c)];rw[mQ]at c;simp[c8,aj,bo (show i<ss.length by omega)]
noncomputable def qO(b:Int)(B:List yx)(a o q:Nat):Bool:=match fin (B.map λs=>s.map eX) b.toNat o (plS (B.getD o []) "come" q)with|some F=>decide (F.getD a 0<=plS (B.getD a []) "go" q)|none=>false
noncomputable def qQ(b:Int)(B:List yx)(a o q:Nat):Bool:=match fin (B.map λs=>s.map eX) b.toNat o (plS (B.getD o []) "come" q)with|some F=>decide (plS (B.getD a []) "go" q<F.getD a 0)|none=>false
theorem wH{d:Bool}{st:WS (O Nat)}(B:nr b n p ss)(i:a<n)(j:o<n)(h:q<p)(S:eU (bX b n ss) a o q d st)(f:fin (ss.map λs=>s.map eX) b.toNat o (plS (ss.getD o []) "come" q)=some F):decide (plS (ss.getD a []) "go" q<F.getD a 0)=d:=by obtain⟨⟨m,t,r,l,k,e,c⟩,g,_⟩:=S;obtain rfl:=J2 l (B.come o q j h);obtain rfl:=J2 k (B.go a q i h);rw[<-rP B.len]at f;rw[e]at g c;rw[yN B.flat g f (by rw[mQ];exact i)]at c;exact c
theorem Dm{d:Bool}{st:WS (O Nat)}(B:nr b n p ss)(g:a<n)(e:o<n)(c:q<p)(S:eU (bX b n ss) a o q d st)(h:qO b ss a o q=true):d=false:=by
 unfold qO at h;split at h
 . rename_i F f
   have:=wH B g e c S f;have h:=ce h;rw[<-this];exact c6 (by omega)
 . cases h
theorem Cy{d:Bool}{st:WS (O Nat)}(B:nr b n p ss)(g:a<n)(e:o<n)(c:q<p)(S:eU (bX b n ss) a o q d st)(h:qQ b ss a o q=true):d=true:=by
 unfold qQ at h;split at h
 . rename_i F f
   rw[<-wH B g e c S f];exact h
 . cases h
end
noncomputable abbrev Qx:Stmt:=bA 88
noncomputable abbrev Vp:Stmt:=bA 89
theorem Fh:uY X "int.bit_length" (λx vs H Q=>∃i,x=.int i/\vs=[]/\Q (.int ((Builtin.Int.intBits i:Nat):Int)) H):=by intro a s d H x vs v e Q I b c h;obtain⟨i,rfl,rfl,q⟩:=h;obtain⟨t,rfl⟩:=b;cases c;exact call_gives F.slot_int_bit_length (typeIs_int _ _ _) F.entry_int_bit_length (F.args_int_bit_length_1 _) (AutoIntG2.int_bit_length_int_0 i t) ⟨.int _,H,I.tok _,⟨_,J⟩,q⟩
inductive lZ(vs:List V)(H:Hp)(Q:VK)(e0:XK):Prop|mk:∀(kd:Str)(n p:Nat),vs=[.str kd,.int (n:Int),.int (p:Int)]->K4 kd->1<=n->n<=16->p<=4->fj (hk kd n p)->(∀v H',zg H H'->Is H' (eH (hk kd n p)) v->Q v H')->lZ vs H Q e0
inductive mt(vs:List V)(H:Hp)(Q:VK)(e0:XK):Prop|mk:∀(kd:Str)(n:Nat),vs=[.str kd,.int (n:Int)]->1<=n->n<=16->Q (.int (dU kd n)) H->mt vs H Q e0
section
variable{K:W.Frag}
theorem KC:aA ["kind","n"] ["kind","n"] (ze Qx):=.of
theorem JL(D:bH K mg "boxes_of" Qx):Ok P w K mg base "boxes_of" 1 ["kind","n"] mt:=by
 refine wj D KC λf g A b s H i Q E j h=>?_;intro X;obtain⟨d,n,rfl,k,e,a⟩:=h;refine⟨_,zb (yg (zo xz (aW 0) zy (zx _)) (zf (zj zh)) zn) (zf (zj (Yi (zo xz (aW 0) zy (zx _)) (yk qm (aW 1) (xJ PySem.F.plainAttrs_int PySem.F.slot_int_bit_length PySem.F.type_int_bit_length Fh (yk Wu (aW 1) zh))) (aW 1)))),?_⟩
 unfold dU at a;refine⟨_,J,J,_,J,ki (λc=>?_) (λc=>?_)⟩
 . have c:d="shared":=V.str.inj (ce c);rw[if_pos c]at a;exact a
 rw[if_neg (λz=>c (by rw[z];exact bn J))]at a;refine⟨_,J,J,_,J,ki (λc=>?_) (λc=>?_)⟩
 . have c:d="spread":=V.str.inj (ce c);rw[if_pos c]at a;exact⟨_,J,_,J,_,_,J,J,J,_,J,J,_,_,J,J,.inl ⟨by omega,by omega⟩,a⟩
 rw[if_neg (λz=>c (by rw[z];exact bn J))]at a;exact⟨_,J,a⟩
theorem A4:aA ["kind","n","p","firsts","scripts","house"] ["kind","n","p"] (ze Vp):=.of
theorem F7(D:bH K mg "made" Vp)(T:Txt K mg)(TM:mC mg)(hK:∃B,mg "KINDS"=some (.ref B)/\∀H,aE K H B [.str "shared",.str "own",.str "spread",.str "tree"])(o1:Ok P w K mg base "is_within" 2 ["thing","least","most"] (spT mB))(o2:Ok P w K mg base "script_of" 3 ["kind","n","number","p"] gQ)(o3:Ok P w K mg base "boxes_of" 1 ["kind","n"] mt) (o4:Ok P w K mg base "is_house" 22 ["thing"] (spT jO)):Ok P w K mg base "made" 23 ["kind","n","p"] lZ:=by
 refine wj D A4 ?_;rintro f ap A S s H vs Q E u ⟨d,n,p,rfl,k4,h1,x,h4,hG,kk⟩ X;have U:=A4.nd;obtain⟨B,hK,hM⟩:=hK;refine⟨_,zb (yg (zo Lq (pv 0) (zH (v:=.ref B) J hK J) J) (zf Ze) zn) (zb (yg (PW.pt (Zt (xb (y6 (yc o1 (u.mono (by decide)) (za (pv 1) (za zh (za (xl TM.MEET) zc)))))) (j3 (xb (y6 (yc o1 (u.mono (by decide)) (za (pv 2) (za zh (za (xl TM.PHAS) zc))))))))) (zf Ze) zn) (zb (zr (i:=3) U (w9 Yb J T.tuple Yn (za (qj (own:=["number"]) (cap:=[]) J (yv (ze Vp) J J (by decide+kernel) (by decide+kernel) (by decide+kernel) trivial) (wm J T.range (za (pv 1) zc)) (λ_ _ _ _=>zk (i:=0) (by show(["number"]:O Str).Nodup;decide+kernel)) (λ_ _ _ _=>wb) (λ_ _ _ _=>y0 (za (pv 0) (za (y0 zc) zc)))) zc)))
  (zb (zr (i:=4) U (w9 Yb J T.tuple Yn (za (qj (own:=["number"]) (cap:=[0,1,2]) J (yv (ze Vp) J J (by decide+kernel) (by decide+kernel) (by decide+kernel) ⟨⟨_,J,.inl J,vm J⟩,⟨_,J,.inl J,vm J⟩,⟨_,J,.inl J,vm J⟩,trivial⟩) (wm J T.range (za (pv 1) zc)) (λ_ _ _ _=>zk (i:=0) (by show(["number","kind","n","p"]:O Str).Nodup;decide+kernel)) (λ_ _ _ _=>wb) (λ_ _ _ _=>yc o2 (u.mono (by decide)) (za (pv 1) (za (pv 2) (za (pv 0) (za (pv 3) zc)))))) zc)))
  (zb (zr (i:=5) U (y0 (za (yc o3 (u.mono (by decide)) (za (pv 0) (za (pv 1) zc))) (za zh (za (pv 3) (za (pv 4) zc)))))) (zb (yg (xb (y6 (yc o4 u (za (pv 5) zc)))) (zf Ze) zn) (zf (zj (pv 5)))))))),?_⟩
 have z:(([.str "shared",.str "own",.str "spread",.str "tree"]:O V).all Qa)=true:=rfl;refine⟨B,_,J,.inr (hM H),J,z,_,J,ki (λc=>absurd c (by rcases k4 with rfl|rfl|rfl|rfl<;>decide+kernel)) (λ_=>?_)⟩;refine⟨⟨n,1,16,J,by omega,by omega⟩,λH1 s1=>⟨_,J,yi ⟨⟨p,0,4,J,by omega,by omega⟩,λH2 s2=>⟨_,J,yi ?_⟩⟩⟩⟩;have S2:=s1.trans s2;refine⟨_,J,by omega,by omega,?_⟩;refine j7 (lo:=0) (n:=(n:Int).toNat) (λj a k=>zg H2 k/\IsL k ((List.range j).map λi=>eC ((i:Nat),([]:O fY))) a) ⟨zg.refl H2,J⟩ (λj a k h ⟨_,e⟩=>?_) ?_ ?_
 . have:=e.length;rw[ae,cz]at this;rw[ci]at h;exact xj (by omega)
 . rintro j a H3 h ⟨R,e⟩;refine W4 ?_;refine⟨by show 0<=1000;decide,λq1 H4 m n4 G=>⟨by show 2<=1000;decide,λq2 o g n5 y=>?_⟩⟩;rw[di]at y;refine⟨R.trans (m.trans g),?_⟩;rw[Lc];exact qy (e.mono (m.trans g)) (ji ⟨q2,_,J,y,_,_,J,J,_,_,J,⟨q1,[],J,g _ _ G,J⟩,J⟩)
 rintro a H3 ⟨R,e3⟩ F ah;rw[ci]at e3;have m:=zg.new ah (.lst a);have G:upd H3 F (.lst a) F=some (.lst a):=zd;generalize upd H3 F (.lst a)=H4 at m G⊢;refine⟨F,_,J,.inl ⟨aI.of G,λt aa=>?_⟩⟩;have g:=zg.new aa (.tup a);have y:upd H4 t (.tup a) t=some (.tup a):=zd;generalize upd H4 t (.tup a)=o at g y⊢;have i5:Is o (.tup ((hk d n p).fs.map eC)) (.ref t):=⟨t,a,J,y,by show IsL o (((List.range n).map λi=>((i:Nat),([]:O fY))).map eC) a;rw[bp];exact e3.mono (m.trans g)⟩
 refine⟨_,J,by omega,by omega,?_⟩;refine j7 (lo:=0) (n:=(n:Int).toNat) (λj a k=>zg o k/\IsL k ((List.range j).map λi=>eS (eW d n i p)) a) ⟨zg.refl o,J⟩ (λj a k h ⟨_,e⟩=>?_) ?_ ?_
 . have:=e.length;rw[ae,cz]at this;rw[ci]at h;exact xj (by omega)
 . rintro j b H6 h ⟨N,e⟩;rw[ci]at h;refine W4 ?_;rw[di];refine⟨d,n,j,p,J,h,x,h4,λv H7 l i7=>?_⟩;refine⟨N.trans l,?_⟩;rw[Ls];exact qy (e.mono l) (ji i7)
 rintro b H6 ⟨N,e6⟩ C Z;rw[ci]at e6;have l:=zg.new Z (.lst b);have g7:upd H6 C (.lst b) C=some (.lst b):=zd;generalize upd H6 C (.lst b)=H7 at l g7⊢;refine⟨C,_,J,.inl ⟨aI.of g7,λr W=>?_⟩⟩;have M:=zg.new W (.tup b);have g8:upd H7 r (.tup b) r=some (.tup b):=zd;generalize upd H7 r (.tup b)=H8 at M g8⊢;have i8:Is H8 (.tup ((hk d n p).ss.map eS)) (.ref r):=⟨r,b,J,g8,by show IsL H8 (((List.range n).map λi=>eW d n i p).map eS) b;rw[bp];exact e6.mono (l.trans M)⟩
 have S8:zg o H8:=N.trans (l.trans M);refine⟨d,n,J,h1,x,by show 4<=1000;decide,λl5 H9 L n9 g9=>?_⟩;have S9:zg H H9:=S2.trans (R.trans (m.trans (g.trans (S8.trans L))));have i9:Is H9 (eH (hk d n p)) (.ref l5):=⟨l5,_,J,g9,_,_,J,J,_,_,J,J,_,_,J,i5.mono (S8.trans L),_,_,J,i8.mono L,J⟩
 exact⟨⟨hk d n p,_,J,i9,hG.fl⟩,λaq q=>⟨_,J,yi (kk _ _ (S9.trans q) (i9.mono q))⟩⟩
end
noncomputable abbrev Z4:Stmt:=(wf nH).getD 4 dF
noncomputable abbrev sZ:Stmt:=(wf nH).getD 5 dF
noncomputable def fP(q:List Nat×Nat):T:=.tup [hT q.1,.int (q.2:Int)]
theorem nI(q:O Nat×Nat):dM (fP q):=⟨vp _,trivial,trivial⟩
theorem Kb(ns:O (O Nat×Nat)):qt (ns.map fP):=qt.all.mpr λt a=>by obtain⟨q,_,rfl⟩:=bz.mp a;exact nI q
noncomputable def fO(B:aB)(h:List Nat):List (List Nat×Nat):=(List.range ((mM B).scr h).length).map λp=>(h,p)
structure Gw(H0 H:Hp)(l:Addr)(ts:List T)(ys:List V):Prop where
 same:zg H0 H
 at':H l=some (.lst ys)
 it:IsL H ts ys
theorem Gw.apps{j H a:Hp}{l:Y}{h f:O T}{d c:O V}(m:j l=none)(g:Gw j H l h d)(p:qt h)(n:qt f)(s:zg H a)(i:IsL a f c):Gw j (upd a l (.lst (d++c))) l (h++f) (d++c):=by
 have k:yw a (upd a l (.lst (d++c))):=λb q e=>by rw[upd_ne (λz=>by rw[z,s _ _ g.at']at e;cases e)];exact e
 refine⟨λb o e=>?_,zd,?_⟩
 . rw[upd_ne (λz=>by rw[z,m]at e;cases e)];exact s _ _ (g.same _ _ e)
 . exact qy (IsL.tups k p (g.it.mono s)) (IsL.tups k n i)
inductive iY(cP cR:Addr)(vs:List V)(H:Hp)(Q:VK)(e0:XK):Prop|mk:∀(x:Addr)(hs:aB)(L:RL)(q:List Nat×Nat)(d:aH)(vn:V),vs=[.ref x,vn]->aJ H cP cR hs L x->q.1∈zi (plan hs)->Is H (fP q) vn->((mM hs).scr q.1)[q.2]?=some d->(∀v,Is H (eD d) v->Q v H)->iY cP cR vs H Q e0
inductive mj(cP cR:Addr)(vs:List V)(H:Hp)(Q:VK)(e0:XK):Prop|mk:∀(x:Addr)(hs:aB)(L:RL),vs=[.ref x]->aJ H cP cR hs L x->Flat hs->(∀l (ks:List (List Nat)) H',zg H H'->H l=none->ks.Perm (zi (plan hs))->Is H' (.lst ((ks.flatMap (fO hs)).map fP)) (.ref l)->Q (.ref l) H')->mj cP cR vs H Q e0
section
variable{K:W.Frag}
theorem Fz:aA ["self","name"] ["self","name"] (ze sZ):=.of
theorem EU(D:q8 K cP "what" "Plan.what" sZ)(n:aG K cP aZ)(CR:aG K cR aR):bR P w K mg base cP "what" 1 ["self","name"] (iY cP cR):=by refine Zf (k:=0) D Fz ?_;rintro f aa A g s H p Q E N ⟨x,hs,L,q,d,vn,rfl,PA,S,C,U,B⟩ X;have M:=jk N;refine⟨_,zf (zj (zt zp (zu (wo M (zu (pv 0) J) (zt zp (pv 1) zh)) J) (zt zp (pv 1) zh))),?_⟩;obtain⟨dp,vv,ar,v,R,j,b,l,vc,p,ab,an,ac,z,y,_⟩:=PA.role S;obtain⟨a,xs,rfl,m,v1,r,rfl,G,t,e,rfl,F,c⟩:=C;cases(show e=[]from c);cases(show t=.int (q.2:Int)from F);obtain⟨bh,rfl,i⟩:=ke G;obtain⟨aS,o,rfl,k,h⟩:=y;obtain⟨u,Z,W⟩:=h.get (i:=q.2) (t:=eD d) (by rw[aj,U];rfl);exact⟨x,cP,dp,_,_,J,R,n.cls,n.n,vj,a,_,_,_,J,J,aE.of m,J,ar,_,J,b▸DGet.t j i,v,cR,l,_,_,J,z,CR.cls,CR.n,qi,a,_,_,_,J,J,aE.of m,J,aS,o,_,u,J,J,aE.of k,xt Z,B u W⟩
theorem Vm:aA ["self","names","hand"] ["self"] (ze Z4):=.of
theorem Ll(D:q8 K cP "every_deed" "Plan.every_deed" Z4)(T:Txt K mg)(CP:aG K cP aZ)(CR:aG K cR aR):bR P w K mg base cP "every_deed" 1 ["self"] (mj cP cR):=by
 refine Zf (k:=0) D Vm ?_;rintro f bg A aa s H vs Q E hr ⟨x,a,L,rfl,PA,F,kk⟩ X;have hu:=jk hr;have nd:=Vm.nd;refine⟨_,zb (zr (i:=1) nd (vk zc)) (zb (wa PassesOwn.never J (vy (yd (Bx J) J T.sorted X8 (za (zu (pv 0) J) zc))) (zk (i:=2) nd) (zf (we (Zv PySem.F.plainAttrs_list PySem.F.slot_list_extend PySem.F.type_list_extend Yk (pv 1) (za (qj (own:=["place"]) (cap:=[2]) J (yv (ze Z4) J J (by decide+kernel) (by decide+kernel) (by decide+kernel) ⟨⟨_,J,.inl J,vm J⟩,trivial⟩) (wm J T.range (za (yd yp J T.len qd (za (zu (wo hu (zu (pv 0) J) (pv 2)) J) zc)) zc)) (λ_ _ _ _=>zk (i:=0) (by show(["place","hand"]:O Str).Nodup;decide+kernel)) (λ_ _ _ _=>wb) (λ_ _ _ _=>y0 (za (pv 1) (za (pv 0) zc)))) zc)))))
  (zf (zj (pv 1)))),?_⟩
 refine⟨by show 0<=1000;decide,λl H1 s1 n1 g1=>?_⟩;obtain⟨dp,vh,ar,hp,ih,a2,a5,bc⟩:=id PA;have ay:(yj L).map (·.1)=((zi (plan a)).map hZ).map kI:=by rw[<-kx a5];unfold yj y8;rw[bp,bp,bp];rfl
 have bd:(zi (plan a)).length<=60:=by rw[j9];exact F.law.pl.few60
 refine⟨x,cP,dp,_,_,J,s1 _ _ hp,CP.cls,CP.n,vj,ar,(zi (plan a)).map hZ,J,⟨_,s1 _ _ a2,ay⟩,λg hg=>?_,by rw[ae];omega,λu n ix o=>?_⟩
 . obtain⟨h,v,rfl⟩:=bz.mp hg;obtain⟨i,_,rfl⟩:=F.mem.mp v;exact λz=>by cases z
 obtain⟨d,a6,C⟩:=GJ (Km ((zi (plan a)).map hZ)) J;rw[a6]at ix;have B:=zg.new o (.lst u);have g2:upd H1 n (.lst u) n=some (.lst u):=zd;have nl:n≠l:=λz=>by rw[z,g1]at o;cases o
 generalize upd H1 n (.lst u)=H2 at B g2⊢;have N:=ix.length;rw[ae,ae]at N;have bb:=C.length_eq;have nk:d.Nodup:=C.nodup_iff.mpr (jh a);have tot:∀i,((d.take i).flatMap (fO a)).length<=1200:=λi=>by
  have e:((d.take i).flatMap (fO a)).length=((d.take i).map λh=>((mM a).scr h).length).sum:=by rw[List.length_flatMap];congr 1;refine List.map_congr_left λh _=>?_;unfold fO;rw[ae,cz]
  have q:=Vi (f:=λh=>((mM a).scr h).length) (l:=d.take i) (all:=zi (plan a)) (nk.sublist (List.take_sublist i d)) λh v=>C.mem_iff.mp (List.mem_of_mem_take v);have q2:tot (mM a) (zi (plan a))=Xr a.ss (plan a):=Yd (jh a);have q4:Xr a.ss (plan a)<=1200:=F.law.pl.deeds;unfold My.tot at q2;omega
 have hb:without [l] H2 l=none:=yf (by simp);have ah:n ∉ [l]:=λU=>nl (ai.mp U);have tw:yw H2 (without [l] H2):=λb k e=>by rw[ye (λU=>by rw[ai.mp U,B _ _ g1]at e;cases e)];exact e
 have s0:zg H (without [l] H2):=(s1.trans B).without λm U=>by rw[ai.mp U];exact n1
 refine⟨n,J,⟨u,aI.of g2⟩,?_⟩;refine kf (K:=K) (a:=n) (xs:=u) (λi σ G=>∃(x2:Option V)(k:O V),σ=[some (.ref x),some (.ref l),x2]/\Gw (without [l] H2) G l (((d.take i).flatMap (fO a)).map fP) k)
  ⟨none,[],J,y9,B _ _ g1,J⟩ (λi σ G _ ⟨_,k,_,g⟩=>aI.of (g.same _ _ (by rw[ye ah];exact g2))) ?_ ?_
 . rintro i z σ G hz ⟨x2,k,rfl,g⟩;obtain⟨tt,S,iz⟩:=ix.get' hz;rw[bp,aj]at S;obtain⟨h,v,rfl⟩:=cm.mp S;have M:Is G (hT h) z:=((iz.mono B).tups tw (vp _)).mono g.same;have aK:h∈zi (plan a):=C.mem_iff.mp (br v);obtain⟨bh,rfl,a1⟩:=ke M;obtain⟨a8,vv,ba,rl,ap,W,R,a7,vc,vs,ab,an,ac,r1,r2,_⟩:=(PA.same (s0.trans g.same)).role aK;obtain⟨aS,xS,rfl,a3,av⟩:=r2;have r:=av.length;rw[ae]at r;have et:d.take (i+1)=d.take i++[h]:=by rw[cu,v];rfl
   have aq:(fO a h).length=xS.length:=by unfold fO;rw[ae,cz,r]
   have t2:=tot (i+1);rw[et,List.flatMap_append,c7,List.flatMap_singleton,aq]at t2;have gl:=g.it.length;rw[ae]at gl;refine⟨.inl ⟨J,_,aI.of g.at'⟩,x,cP,a8,_,_,J,ap,CP.cls,CP.n,vj,ba,_,J,R▸DGet.t W a1,rl,cR,a7,_,_,J,r1,CR.cls,CR.n,qi,aS,xS,J,.inr (aE.of a3),_,J,by omega,by omega,?_⟩;refine j7 (lo:=0) (n:=(xS.length:Int).toNat) (λj c t=>zg G t/\IsL t (((List.range j).map λp=>(h,p)).map fP) c) ⟨zg.refl _,J⟩ (λj c t hj ⟨_,e⟩=>?_) ?_ ?_
   . rw[e.length,ae,ae,cz,sizeLine_eq];rw[ci]at hj;omega
   . rintro j c t hj ⟨sj,Z⟩;refine W4 ?_;refine⟨by show 2<=1000;decide,λp3 G3 s3 n3 g3=>⟨sj.trans s3,?_⟩⟩;rw[di]at g3;rw[List.range_succ,be,be];exact qy (Z.mono s3) (ji ⟨p3,_,J,g3,IsL.two ((M.mono sj).mono s3) J⟩)
   . rintro c t ⟨sj,Z⟩ l3 aw;rw[ci,r]at Z;have s4:=zg.new aw (.lst c);have g4:upd t l3 (.lst c) l3=some (.lst c):=zd;generalize upd t l3 (.lst c)=G4 at s4 g4⊢;have y:=sj.trans s4;have zl:=Z.length;rw[ae,ae,cz]at zl;refine⟨l,l3,k,c,J,J,y _ _ g.at',g4,by rw[sizeLine_eq];omega,?_⟩;refine⟨_,k++c,J,?_⟩;rw[et,List.flatMap_append,be,List.flatMap_singleton];exact g.apps hb (Kb _) (Kb _) y (Z.mono s4)
 . rintro σ G ⟨x2,k,rfl,g⟩;rw[N,cw]at g;exact kk l d G (s0.trans g.same) n1 C ⟨l,k,J,g.at',g.it⟩
end
noncomputable abbrev tV:Stmt:=bA 57
noncomputable def iQ:List (List Nat)->List (List Nat)->List (List Nat×Nat)|_,[]=>[]|B,h::r=>(h,B.count h)::iQ (B++[h]) r
noncomputable def dC(B:List (List Nat)):List (List Nat×Nat):=iQ [] B
theorem Ad:∀(b a vs:List (List Nat)),iQ a (b++vs)=iQ a b++iQ (a++b) vs|[],a,vs=>by rw[cq];rfl| h::b,a,vs=>by show(h,_)::iQ (a++[h]) (b++vs)=(h,_)::(iQ (a++[h]) b++_);rw[Ad b,List.append_assoc];rfl
theorem Gp(a:O (O Nat))(h:O Nat):dC (a++[h])=dC a++[(h,a.count h)]:=Ad a [] [h]
theorem tH:∀(b a:List (List Nat)),(iQ a b).length=b.length|[],_=>rfl|h::b,a=>congrArg (· +1) (tH b (a++[h]))
inductive lW(vs:List V)(H:Hp)(Q:VK)(e0:XK):Prop|mk:∀(aw:Addr)(ws:List (List Nat)),vs=[.ref aw]->bT H aw ws->ws.length<=1200->(∀l H',zg H H'->H l=none->Is H' (.lst ((dC ws).map fP)) (.ref l)->Q (.ref l) H')->lW vs H Q e0
section
variable{K:W.Frag}
theorem A5:aA ["weaving","done","names","hand"] ["weaving"] (ze tV):=.of
theorem F9(D:bH K mg "named" tV):Ok P w K mg base "named" 1 ["weaving"] lW:=by
 refine wj (k:=0) D A5 ?_;rintro f av A aa s H U Q E hr ⟨aw,d,rfl,⟨U,B,x⟩,hw,kk⟩ X;have hu:=jk hr;have nd:=A5.nd;refine⟨_,zb (zr (i:=1) nd Xi) (zb (zr (i:=2) nd (vk zc)) (zb (wa PassesOwn.never J (vy (pv 0)) (zk (i:=3) nd) (zb (we (Zv PySem.F.plainAttrs_list PySem.F.slot_list_append PySem.F.type_list_append qv (pv 2) (za (y0 (za (pv 3) (za (V1 hu (pv 1) (pv 3) zh ⟨J,J,J,J⟩) zc))) zc))) (zf (Yw hu (pv 1) (pv 3) (yk wr (V1 hu (pv 1) (pv 3) zh ⟨J,J,J,J⟩) zh) J))))
  (zf (zj (pv 2))))),?_⟩
 have C:=x.length;rw[ae]at C;intro ad M;have q:=zg.new M (.dT []);have g1:upd H ad (.dT []) ad=some (.dT []):=zd;generalize upd H ad (.dT [])=H1 at q g1⊢;refine⟨by show 0<=1000;decide,λl Z s2 W g2=>?_⟩;have r:ad≠l:=λz=>by rw[<-z,g1]at W;cases W
 have hb:∀b,b∈[l,ad]->H b=none:=λb hm=>by
  rcases az.mp hm with z|z
  . rw[z];exact y7 q W
  . rw[ai.mp z];exact M
 have s0:zg H (without [l,ad] Z):=(q.trans s2).without hb;have ah:without [l,ad] Z l=none:=yf (by simp);have ap:without [l,ad] Z ad=none:=yf (by simp);refine⟨aw,J,⟨U,aI.of ((q.trans s2) _ _ B)⟩,?_⟩;refine kf (K:=K) (a:=aw) (xs:=U) (λi S G=>∃(x3:Option V)(a:O V)(k:O (O aM×V)),S=[some (.ref aw),some (.ref ad),some (.ref l),x3]/\zg (without [l,ad] Z) G/\G l=some (.lst a)/\IsL G ((dC (d.take i)).map fP) a/\G ad=some (.dT k)/\k.length<=i/\∀h:O Nat,(yz k (kI (hZ h))).getD (.int 0)=.int ((d.take i).count h:Int))
  ⟨none,[],[],J,y9,g2,J,s2 _ _ g1,ag _,λh=>rfl⟩ (λi S G _ ⟨_,_,_,_,p,_⟩=>aI.of ((s0.trans p) _ _ B)) ?_ ?_
 . rintro i z S G hz ⟨x3,a,k,rfl,p,N,v,gd,aq,hc⟩;have hi:i<U.length:=(cp.mp hz).1;obtain⟨tt,F,iz⟩:=x.get' hz;rw[aj]at F;obtain⟨h,hh,rfl⟩:=cm.mp F;have u:Is G (hT h) z:=iz.mono (s0.trans p);obtain⟨bh,rfl,L⟩:=ke u;have et:d.take (i+1)=d.take i++[h]:=by rw[cu,hh];rfl
   have yl:=v.length;rw[ae]at yl;have nl:=tH (d.take i) [];rw[cx]at nl;have nl:(dC (d.take i)).length=min i d.length:=nl;refine⟨.inl ⟨J,_,aI.of N⟩,ad,J,.inr ⟨_,.inl gd⟩,_,DGet.t gd L,?_⟩;rw[hc h];refine⟨by show 2<=1000;decide,λj n m n3 g3=>⟨l,a,_,J,J,m _ _ N,by rw[sizeLine_eq];omega,?_⟩⟩;have t4:yw n (upd n l (.lst (a++[.ref j]))):=yw.upd (m _ _ N) (λ_ z=>by cases z);have g:upd n l (.lst (a++[.ref j])) ad=some (.dT k):=by rw[upd_ne r];exact m _ _ gd
   have R:upd n l (.lst (a++[.ref j])) bh=some (.tup ((kI (hZ h)).map kV)):=t4 _ _ (m _ _ L);refine⟨ad,J,.inr ⟨_,.inl g⟩,_,DGet.t g R,?_⟩;rw[hc h];refine⟨_,_,J,J,ad,_,J,Jc.t g R (by rw[sizeLine_eq];omega),?_⟩;have t5:yw (upd n l (.lst (a++[.ref j]))) (upd (upd n l (.lst (a++[.ref j]))) ad (.dT (vi k (kI (hZ h)) (.int (((d.take i).count h:Int)+1))))):=yw.upd g (λ_ z=>by cases z);have lp:=xy k (kI (hZ h)) (.int (((d.take i).count h:Int)+1));refine⟨_,a++[.ref j],_,J,λb o e=>?_,?_,?_,zd,by omega,λh'=>?_⟩
   . rw[upd_ne (λz=>by rw[z,ap]at e;cases e),upd_ne (λz=>by rw[z,ah]at e;cases e)];exact m _ _ (p _ _ e)
   . rw[upd_ne (ak r)];exact zd
   . rw[et,Gp,be];exact(qy ((v.mono m).tups t4 (Kb _)) (ji (Is.tups t4 (nI (h,(d.take i).count h)) (show Is n (fP (h,(d.take i).count h)) (.ref j)from⟨j,_,J,g3,IsL.two (u.mono m) J⟩)))).tups t5 (qt.all.mpr λt ht=>by
      rcases c4.mp ht with y|y
      . exact qt.all.mp (Kb _) t y
      . rw[ai.mp y];exact nI _)
   . rw[j0,et,List.count_append];by_cases c:h'=h
     . rw[c,if_pos J];simp
     . rw[if_neg (λz=>c (qo (aT z))),hc h',List.count_singleton,if_neg (by simpa using ak c),Nat.add_zero]
 . rintro S G ⟨x3,a,k,rfl,p,N,v,_⟩;rw[C,cw]at v;exact kk l G (s0.trans p) (y7 q W) ⟨l,a,J,N,v⟩
end
noncomputable abbrev Vr:Stmt:=bA 78
theorem wR:bootBuiltins "max"=some (.builtin "max"):=by decide+kernel
noncomputable def Ya:aH->Bool|.awa _ _=>true|_=>false
noncomputable def eB(B:aB)(ns:List (List Nat×Nat)):List (List Nat×Nat):=ns.filter λq=>((((mM B).scr q.1)[q.2]?).map Ya).getD false
noncomputable def hF(lk:Nat->Nat->Bool):Nat->Nat->Int|0,_=>1|i+1,j=>if i<j/\lk i j=true then(if hF lk i i+1>hF lk i j then hF lk i i+1 else hF lk i j)else hF lk i j
noncomputable def jS(lk:List Nat×Nat->List Nat×Nat->Bool)(B:List (List Nat×Nat)):Int:=(eP none ((List.range B.length).map (hF (λi j=>lk (B.getD i ([],0)) (B.getD j ([],0))) B.length))).getD 0
theorem sA:∀{f d:List (List Nat)}{q:List Nat×Nat},q∈iQ d f->q.1∈f/\d.count q.1<=q.2/\q.2<(d++f).count q.1
 |[],_,_,h=>nomatch h
 | h::f,d,q,g=>by
   rcases az.mp g with e|e
   . rw[e];refine⟨c5,ag _,?_⟩;show d.count h<(d++h::f).count h;rw[List.count_append,List.count_cons_self];omega
   . obtain⟨a,b,c⟩:=sA e;rw[List.append_assoc]at c;rw[List.count_append]at b;exact⟨bv _ a,by omega,c⟩
theorem xM:∀(c a:List (List Nat)),(iQ a c).Nodup|[],_=>List.nodup_nil| h ::c,a=>c9.mpr ⟨λz=>by obtain⟨_,b,_⟩:=sA z;have b:(a++[h]).count h<=a.count h:=b;rw[List.count_append,List.count_cons_self]at b;omega,xM c _⟩
theorem xN{b:aB}{st:WS (O Nat)}(F:Flat b)(W:Wv (mM b) (zi (plan b)) st){q:O Nat×Nat}(f:q∈dC st.wov):q.1∈zi (plan b)/\∃d,((mM b).scr q.1)[q.2]?=some d:=by
 obtain⟨a,_,c⟩:=sA f;have c:q.2<st.wov.count q.1:=c;have e:=W.cnt q.1;have hk:q.1∈zi st.done:=Classical.byContradiction λz=>by have:=X9 z;rw[rp,e]at c;omega
 have lo:=W.low q.1 hk;rw[rp,e]at c;exact⟨W.sub _ hk,_,bo (by omega)⟩
noncomputable def Wz(q:List Nat×Nat):List Int×Int:=(hZ q.1,(q.2:Int))
theorem AC{a b:O Nat×Nat}(h:Wz a=Wz b):a=b:=Prod.ext (qo (congrArg Prod.fst h)) (Int.ofNat.inj (congrArg Prod.snd h))
theorem sy{b:O (O Nat×Nat)}(c:b.Nodup):(b.map Wz).Nodup:=List.pairwise_map.mpr (c.imp λa e=>a (AC e))
section
variable{κ:Type}[DecidableEq κ]
theorem Fq{kvs:List (κ×V)}{k:κ}(h:k ∉ kvs.map (·.1)):yz kvs k=none:=by cases e:yz kvs k with|none=>rfl|some v=>exact absurd (Vf e) h
theorem Bp:∀(rows kvs:List (κ×V)),((kvs++rows).map (·.1)).Nodup->Z5 rows kvs=kvs++rows
 |[],kvs,_=>(cq kvs).symm
 | r::rows,kvs,h=>by
   have e:kvs++r::rows=(kvs++[r])++rows:=by simp
   have a:r.1 ∉ kvs.map (·.1):=λz=>by rw[be,List.nodup_append]at h;exact h.2.2 _ z _ c5 J
   show Z5 rows (vi kvs r.1 r.2)=_;rw[Zu _ (Fq a),e];exact Bp rows (kvs++[r]) (e▸h)
theorem ui:∀{kvs:List (κ×V)}{j:Nat}{r:κ×V},(kvs.map (·.1)).Nodup->kvs[j]?=some r->yz kvs r.1=some r.2|p::kvs,0,r,_,e=>by cases e;exact wg J| p::kvs,j+1,r,h,e=>by have h:(p.1::kvs.map (·.1)).Nodup:=h;have h:=c9.mp h;have e:kvs[j]?=some r:=e;rw[xu (λz=>h.1 (by rw[z];exact List.mem_map_of_mem (f:=(·.1)) (br e)))];exact ui h.2 e
theorem GQ{kvs:O (κ×V)}{k:κ}{v:V}(h:k∈kvs.map (·.1)):(vi kvs k v).map (·.1)=kvs.map (·.1):=by unfold vi;rw[if_pos (by obtain⟨q,a,rfl⟩:=bz.mp h;exact List.any_eq_true.mpr ⟨q,a,bn J⟩),bp];refine List.map_congr_left λq _=>?_;show(if q.1=k then(q.1,v)else q).1=q.1;split<;>rfl
end
inductive fZ(aw:List (List Nat×Nat))(f:Nat->Int)(kvs:List ((List Int×Int)×V)):Prop|mk:kvs.map (·.1)=aw.map Wz->(∀j q,aw[j]?=some q->yz kvs (Wz q)=some (.int (f j)))->fZ aw f kvs
theorem fZ.to{a:O (O Nat×Nat)}{f g:Nat->Int}{kvs:O ((O Int×Int)×V)}(h:fZ a f kvs)(e:∀j,j<a.length->f j=g j):fZ a g kvs:=by obtain⟨d,c⟩:=h;exact⟨d,λj q b=>by rw[<-e j (cp.mp b).1];exact c j q b⟩
theorem fZ.vals{a:O (O Nat×Nat)}{f:Nat->Int}{kvs:O ((O Int×Int)×V)}(i:a.Nodup)(h:fZ a f kvs):kvs.map (·.2)=((List.range a.length).map f).map V.int:=by
 obtain⟨d,k⟩:=h;have l:kvs.length=a.length:=by have:=congrArg List.length d;rwa[ae,ae]at this
 rw[bp];refine List.ext_getElem? λj=>?_;by_cases c:j<a.length
 . rw[aj,aj,List.getElem?_range c];have e:=bo (l:=kvs) (i:=j) (by omega);have g:=bo c;have b:(kvs.map (·.1))[j]?=(a.map Wz)[j]?:=by rw[d]
   rw[aj,aj,e,g]at b;have b:(kvs[j]).1=Wz a[j]:=Option.some.inj b;have v:=ui (by rw[d];exact sy i) e;rw[b,k j _ g]at v;rw[e];exact v.symm
 . rw[dq (by rw[ae];omega),dq (by rw[ae,cz];omega)]
theorem fZ.put{b:O (O Nat×Nat)}{f:Nat->Int}{kvs:O ((O Int×Int)×V)}{q:O Nat×Nat}{x:Int}(k:b.Nodup)(h:fZ b f kvs)(d:b[j]?=some q):fZ b (λi=>if i=j then x else f i) (vi kvs (Wz q) (.int x)):=by
 obtain⟨e,l⟩:=h;refine⟨(GQ (by rw[e];exact List.mem_map_of_mem (br d))).trans e,λi g a=>?_⟩;rw[j0];by_cases c:i=j
 . subst c;rw[d]at a;cases a;rw[if_pos J,if_pos J]
 . rw[if_neg (λz=>c ((List.getElem?_inj (cp.mp a).1 k).mp (a.trans ((congrArg some (AC z)).trans d.symm)))),if_neg c];exact l i g a
theorem HU{b a:Type}{R:b->a->Prop}{xs:List b}{c:List a}{x:b}{y:a}(p:Paired R xs c)(h:R x y):Paired R (xs++[x]) (c++[y]):=by induction p with|nil=>exact .cons h .nil|cons e _ d=>exact .cons e d
theorem CA(lk:Nat->Nat->Bool)(i:Nat):hF lk (i+1) i=hF lk i i:=if_neg (λz=>d9 _ z.1)
theorem CC(c:i<j):hF lk (i+1) j=if lk i j=true then(if hF lk i i+1>hF lk i j then hF lk i i+1 else hF lk i j)else hF lk i j:=by show(if i<j/\lk i j=true then _ else _)=_;cases e:lk i j with|true=>rw[if_pos ⟨c,J⟩,if_pos J]|false=>rw[if_neg (λz=>bu z.2),if_neg bu]
theorem CB(c:j<=i):hF lk (i+1) j=hF lk i j:=if_neg (λz=>by omega)
theorem yV{a:Type}{xs:O a}{x d:a}(h:xs[i]?=some x):xs.getD i d=x:=by rw[c8,h];rfl
theorem uz{a:Type}(xs:O a)(i:Nat):Xs xs (some ((i:Int)+1)) none=xs.drop (i+1):=by
 unfold Xs;rw[show(i:Int)+1=((i+1:Nat):Int)from by omega,HT.nV,HT.qM,List.take_of_length_le (by rw[List.length_drop];omega)];by_cases c:i+1<=xs.length
 . rw[Nat.min_eq_left c]
 . rw[List.drop_of_length_le (by omega),List.drop_of_length_le (by omega)]
inductive mn(cP cR:Addr)(vs:List V)(H:Hp)(Q:VK)(e0:XK):Prop| mk:∀(xp:Addr) (hs:aB) (L:RL) (lk:List Nat×Nat->List Nat×Nat->Bool),vs=[.ref xp]->aJ H cP cR hs L xp->Flat hs->(∀one other n,(ym hs (yo one.1 one.2) n).ready=[]->decide (other.2<yb (ym hs (yo one.1 one.2) n).done other.1)= !lk one other)->
   (∀n0 H',zg H H'->(ym hs [] n0).ready=[]->Q (.int (jS lk (eB hs (dC (ym hs [] n0).wov)))) H')->mn cP cR vs H Q e0
section
variable{K:W.Frag}{cS:Addr}
theorem A2:aA ["plan","woven","awaits","heights","place","one","stop","other"] ["plan"] (ze Vr):=.of
theorem F1(D:bH K mg "depth_of" Vr)(T:Txt K mg)(bE:mg "max"=none)(CP:aG K cP aZ)(CS:aG K cS dQ)(oF:Ok P w K mg base "first_run" 4 ["plan"] (fb cU cP cR))(oO:Ok P w K mg base "woven_on" 5 ["run","held"] (fK P w cU cP cR))(oN:Ok P w K mg base "named" 1 ["weaving"] lW)(oW:bR P w K mg base cP "what" 1 ["self","name"] (iY cP cR))(oS:fT P w K mg base "Stop" cS 6 ["self","plan","one"] (jB cS cU cP cR))(oL:bR P w K mg base cS "lacks" 2 ["self","other"] (jF cS cU)):Ok P w K mg base "depth_of" 8 ["plan"] (mn cP cR):=by
 refine wj (k:=7) D A2 ?_;rintro f eG A b7 s H vs Q E hr ⟨xp,h,L,lk,rfl,PA,F,dn,kk⟩ X;have nd:=A2.nd;have a3:=qC hr;have cv:=sk hr;refine⟨_,zb (zr (i:=1) nd (yc oN (hr.mono (by decide)) (za (yc oO (hr.mono (by decide)) (za (yc oF (hr.mono (by decide)) (za (pv 0) zc)) (za (Vy (τ:=cN)) zc))) zc))) (zb (Jj (i:=2) (own:=["name"]) (cap:=[0]) J (yv (ze Vr) J J (by decide+kernel) (by decide+kernel) (by decide+kernel) ⟨⟨_,J,.inl J,vm J⟩,trivial⟩) (vy (pv 1)) (λ_ _ _ _=>zk (i:=0) (by show(["name","plan"]:O Str).Nodup;decide+kernel)) (λ_ _ _ _=>js (zo xz (zt (r:=cL K) zp (qc oW CP.cls (hr.mono (by decide)) (pv 1) (za (pv 0) zc)) zh (λ_ _=>rfl)) zy (zx _))) (λ_ _ _ _=>pv 0) nd J J (by with_unfolding_all rfl))
  (zb (zr (i:=3) nd (w9 (IV (τ:=cN) J cv) J T.dict Qi (za (qj (own:=["name"]) (cap:=[]) J (yv (ze Vr) J J (by decide+kernel) (by decide+kernel) (by decide+kernel) trivial) (vy (pv 2)) (λ_ _ _ _=>zk (i:=0) (by show(["name"]:O Str).Nodup;decide+kernel)) (λ_ _ _ _=>wb) (λ_ _ _ _=>y0 (za (pv 0) (za zh zc)))) zc)))
  (zb (wa PassesOwn.never J (Au J T.enumerate (za (pv 2) zc)) (jw J (yn (zk (i:=4) nd) (yn (zk (i:=5) nd) ql))) (zb (zr (i:=6) nd (mR oS (hr.mono (by decide)) (za (pv 0) (za (pv 5) zc)))) (zf (wa PassesOwn.never J (vy (jo wG (pv 2) (k9 (yk wr (pv 4) zh)) Za)) (zk (i:=7) nd) (zf (yg (y6 (qc oL CS.cls (hr.mono (by decide)) (pv 6) (za (pv 7) zc))) (zf (zI (τ:=cN) a3 (pv 3) (pv 7) (yd (Bc J) J bE wR (za (Vz (τ:=cN) a3 (pv 3) (pv 7) (λ_ _=>rfl)) (za (yk wr (Vz (τ:=cN) a3 (pv 3) (pv 5) (λ_ _=>rfl)) zh) zc))) J)) zn))))))
  (zf (zj (E3 J bE J (za (w9 (IX (τ:=cN) J) J T.list Qh (za (E5 (τ:=cN) (pv 3)) zc)) zc))))))),?_⟩
 have PH:=F.law.pl;refine⟨xp,h,L,J,PA,PH,λxr ad as H0 H2 b6 s2 en RF RM=>?_⟩;refine(λah o du hg=>?_);have s3:=zg.new du o;generalize upd H2 ah o=H3 at s3 hg⊢;obtain⟨RA,GH,sw⟩:=K5 RF s2 RM s3 hg;refine⟨_,xr,ad,as,ah,h,L,_,_,[],J,RA,GH,PH,Xq PH,Vc h,λn0 ao H4 s4 ew rm l4 ay bB=>?_⟩;have b5:zg H H4:=b6.trans (sw.trans s4);have k2:=kk n0;generalize dT:ym h [] n0=st at k2;have bL:jV h [] (xi (Z1 (plan h))) (ja h) n0=st:=dT;rw[bL]at l4 ay bB;have bw:st.wov.length<=1200:=by have q:=ay.most;have q2:tot (mM h) (zi (plan h))=Xr h.ss (plan h):=Yd (jh h);have q4:Xr h.ss (plan h)<=1200:=PH.deeds;omega
 refine⟨ao,st.wov,J,l4,bw,λl5 H5 s5 n5 i5=>?_⟩;obtain⟨ei,b2,e5,bI,bl⟩:=i5;cases e5;have bh:=b5.trans s5;have y:(dC st.wov).length=st.wov.length:=tH _ _;have bb:=bl.length;rw[ae,y]at bb;refine⟨l5,J,⟨b2,aI.of bI⟩,?_⟩;refine Zl (λi zs G=>zg H5 G/\IsL G ((eB h ((dC st.wov).take i)).map fP) zs) ⟨zg.refl _,J⟩ (λi zs G hi ⟨g,e⟩=>⟨aI.of (g _ _ bI),?_⟩) ?_ ?_
 . rw[e.length,ae];have:=dm (λq=>((((mM h).scr q.1)[q.2]?).map Ya).getD false) ((dC st.wov).take i);rw[cx]at this;unfold eB;rw[sizeLine_eq];omega
 . rintro i z zs G hz ⟨g,ez⟩;obtain⟨tt,m,iz⟩:=bl.get' hz;rw[aj]at m;obtain⟨q,hq,rfl⟩:=cm.mp m;obtain⟨c3,d,hd⟩:=xN F ay (br hq);have b0:=PA.same (bh.trans g);obtain⟨d2,vh,ar,co,_⟩:=id b0;have et:eB h ((dC st.wov).take (i+1))=eB h ((dC st.wov).take i)++if Ya d=true then[q]else[]:=by unfold eB;rw[cu,hq,List.filter_append];congr 1;show List.filter _ [q]=_;rw[List.filter_cons,hd];rfl
   refine⟨xp,d2,_,J,co,J,xp,h,L,q,d,z,J,b0,c3,iz.mono g,hd,λv iv=>?_⟩;obtain⟨rr,c1⟩:=Zy d;obtain⟨a5,x5,rfl,dv,v1,r1,rfl,i1,_⟩:=(c1▸iv)
   cases(i1);refine⟨a5,_,0,.str (dw d),J,J,aE.of dv,(show cZ (.str (dw d)::r1) ((0:Nat):Int)=_ from xt J),J,_,J,?_⟩;have ed:decide (V.str (dw d)=V.str "await")=Ya d:=by cases d<;>rfl
   rw[ed];cases ca:Ya d with| true=>rw[ca,if_pos J]at et;refine ww ⟨g,?_⟩;rw[et,be];exact IsL.append ez ⟨_,_,J,iz.mono g,J⟩| false=>rw[ca,if_neg bu,cq]at et;refine yi ⟨g,?_⟩;rw[et];exact ez
 rintro ys G ⟨g,iy⟩ p7 bD;rw[bb,<-y,cw]at iy;have s7:=zg.new bD (.lst ys);have g7:upd G p7 (.lst ys) p7=some (.lst ys):=zd;generalize upd G p7 (.lst ys)=H7 at s7 g7⊢;have N:=iy.mono s7;have b4:=bh.trans (g.trans s7);have C:(eB h (dC st.wov)).Nodup:=(xM _ _).filter _;have d4:∀q∈eB h (dC st.wov),q.1∈zi (plan h):=λq hq=>(xN F ay (eh.mp hq).1).1;have d3:(eB h (dC st.wov)).length<=1200:=cj (dm _ _) (by rw[y];exact bw);clear iy g bD s7;have k3:=λH' a b=>k2 H' a b;clear k2;generalize eB h (dC st.wov)=u at N C d4 d3 k3;have aK:=N.length;rw[ae]at aK;refine⟨p7,J,⟨ys,aI.of g7⟩,?_⟩;refine Zl (λi zs G=>∃W:O Y,zs=W.map V.ref/\zg H7 G/\Paired (fh cN G) W ((u.take i).map λq=>(Wz q,V.int 1))) ⟨[],J,zg.refl _,.nil⟩ (λi zs G hi ⟨W,e,g,pb⟩=>⟨aI.of (g _ _ g7),?_⟩) ?_ ?_
 . have:=pb.length;rw[ae,cx]at this;rw[e,ae,sizeLine_eq];omega
 . rintro i z zs G hz ⟨W,rfl,g,pb⟩;obtain⟨tt,m,iz⟩:=N.get' hz;rw[aj]at m;obtain⟨q,hq,rfl⟩:=cm.mp m;obtain⟨kb,xk,rfl,er,ea⟩:=id iz;refine⟨by show 2<=1000;decide,λp8 G8 Z n8 g8=>⟨W++[p8],by rw[be];rfl,g.trans Z,?_⟩⟩;rw[cu,hq,be];exact HU (Paired.mapP pb λ_ _ z=>z.same Z) ⟨kb,g8,iz.mono (g.trans Z)⟩
 rintro zs G ⟨W,rfl,g,pb⟩ p8 bC;have Z:=zg.new bC (.lst (W.map V.ref));have g8:upd G p8 (.lst (W.map V.ref)) p8=some (.lst (W.map V.ref)):=zd;generalize upd G p8 (.lst (W.map V.ref))=G8 at Z g8⊢;rw[aK,cw]at pb;refine⟨p8,W,_,J,g8,Paired.mapP pb λ_ _ z=>z.same Z,λr H9 s9 n9 g9=>?_⟩;rw[Bp _ [] (by rw[List.nil_append,bp];exact sy C),List.nil_append]at g9;have h9:fZ u (λ_=>1) (u.map λq=>(Wz q,V.int 1)):=⟨by rw[bp];rfl,λj q hq=>ui (by rw[bp];exact sy C) (j:=j) (r:=(Wz q,V.int 1)) (by rw[aj,hq];rfl)⟩
 generalize (u.map λq=>(Wz q,V.int 1))=ek at g9 h9;have bg:=b4.trans (g.trans Z);have b9:=N.mono (g.trans Z);have dN:=(g.trans Z) _ _ g7;clear N pb g8 Z bC;have sB:zg G8 (without [r] H9):=s9.without (λb hm=>by rw[ai.mp hm];exact n9);have nB:without [r] H9 r=none:=yf (by simp);generalize e0:without [r] H9=B at sB nB;have bc:zg B H9:=e0▸y9;clear e0;have gB:=sB _ _ dN;have iB:=b9.mono sB;have PB:=PA.same (bg.trans sB);refine⟨p7,ys,J,bc _ _ gB,?_⟩;refine Hr (a:=p7) (xs:=ys) (λi σ G=>∃(x4 x5 x6 x7:Option V)(p:O ((O Int×Int)×V)),σ=[some (.ref xp),some (.ref l5),some (.ref p7),some (.ref r),x4,x5,x6,x7]/\zg B G/\bP cN P w G r p/\fZ u (hF (λi j=>lk (u.getD i ([],0)) (u.getD j ([],0))) i) p)
  ⟨none,none,none,none,_,J,bc,g9,h9⟩ (λi σ G _ ⟨_,_,_,_,_,_,g,_⟩=>g _ _ gB) ?_ ?_
 . rintro i z σ G q0 hz ⟨x4,x5,x6,x7,p,rfl,g,gG,hG⟩ dg;have sq:=zg.new dg (.tup [.int i,z]);have gq:upd G q0 (.tup [.int i,z]) q0=some (.tup [.int i,z]):=zd;generalize upd G q0 (.tup [.int i,z])=G1 at sq gq⊢;obtain⟨tt,m,iz⟩:=iB.get' hz;rw[aj]at m;obtain⟨one,U,rfl⟩:=cm.mp m;obtain⟨k1,eg,rfl,ev,_⟩:=id iz;have ap:=g.trans sq;have bK:=gG.same sq;refine⟨q0,_,J,aE.of gq,J,_,_,J,_,_,J,J,?_⟩;refine(λx dx hx dt eo=>?_);have sn:zg G1 (upd (upd G1 dx (.own x)) x (.ins cS dx [])):=λb o e=>by rw[upd_ne (zm e hx),upd_ne (zm e dt)];exact e
   refine⟨G1,x,dx,xp,.ref k1,h,L,one.1,one.2,J,zd,sn,hx,PB.same ap,PH,iz.mono (ap.trans sn),λn3 G3 s3 e3 c0 SA=>⟨J,?_⟩⟩;have a1:=ap.trans s3;refine⟨_,_,J,J,_,J,u.map fP,⟨p7,ys,J,a1 _ _ gB,iB.mono a1⟩,λl4 G4 s4 n4 i4=>?_⟩;rw[uz]at i4;obtain⟨ej,ba,e4,a6,bk⟩:=i4;cases e4;have hi:i<u.length:=(cp.mp U).1;have b1:=bk.length;rw[List.length_drop,ae]at b1;have bd:=s3.trans s4;have bJ:=bK.same bd;have b8:=bJ.ne a6;obtain⟨eb,e1⟩:=bK.some;have bi:∀b,G1 b=none->b≠r:=λb nb z=>by rw[z,e1]at nb;cases nb
   have bN:=SA.same s4;have dK:∃a7 aS a8,G4 x=some (.ins cS a7 (mU aS a8)):=by obtain⟨ey,aS,a8,_,_,_,_,_,_,z1,_⟩:=id bN;exact⟨_,_,_,z1⟩
   have nx:x≠r:=bi x hx;have cn:=(iz.mono ap).mono bd;have b3:=a1.trans s4;generalize d1:(λi j=>lk (u.getD i ([],0)) (u.getD j ([],0)))=aq at hG⊢;refine⟨l4,J,⟨ba,aI.of a6⟩,?_⟩;refine kf (K:=K) (a:=l4) (xs:=ba) (λk σ G=>∃(x7:Option V)(p:O ((O Int×Int)×V)),σ=[some (.ref xp),some (.ref l5),some (.ref p7),some (.ref r),some (.int (i:Int)),some (.ref k1),some (.ref x),x7]/\zg B G/\yw G4 G/\(∀b,b≠r->∀o,G4 b=some o->G b=some o)/\bP cN P w G r p/\fZ u (λj=>if j<i+1+k then hF aq (i+1) j else hF aq i j) p)
    ⟨_,_,J,b3,yw.refl _,λ_ _ _ e=>e,bJ,hG.to λj _=>by
     by_cases c:j<i+1+0
     . rw[if_pos c,CB (by omega)]
     . rw[if_neg c]⟩ (λk σ G _ ⟨_,_,_,_,_,kp,_⟩=>aI.of (kp _ b8 _ a6)) ?_ ?_
   . rintro k vz σ G5 cs ⟨x7,n,rfl,aa,t5,M,g5,h5⟩;obtain⟨tt,m,cc⟩:=bk.get' cs;rw[List.getElem?_drop,aj]at m;obtain⟨dG,S,rfl⟩:=cm.mp m;have av:Is G5 (fP dG) vz:=cc.tups t5 (nI _);have ck:Is G5 (fP one) (.ref k1):=cn.tups t5 (nI _);obtain⟨a2,ec,rfl,eu,_⟩:=id av;have d6:aX (λ_=>True) G5 cS cU x _:=bN.keep (λb o nb e=>M b (bi b nb) o e) t5 (λ_ _=>trivial);obtain⟨a7,aS,a8,gx⟩:=dK;refine⟨x,a7,_,J,M _ nx _ gx,J,x,_,dG.1,dG.2,.ref a2,J,d6,av,_,J,?_⟩;rw[dn one dG n3 c0,Bool.not_not];have bM:aq i (i+1+k)=lk one dG:=by rw[<-d1];show lk (u.getD i _) (u.getD _ _)=_;rw[yV U,yV S]
     have R:=CC (lk:=aq) (show i<i+1+k by omega);rw[bM]at R;have dE:=h5;obtain⟨dp,bx⟩:=dE;have vo:=(bx _ _ S).trans (congrArg (λt=>some (V.int t)) (if_neg (by omega)));have v1:=(bx _ _ U).trans (congrArg (λt=>some (V.int t)) ((if_pos (by omega)).trans (CA _ _)));have el:n.length=u.length:=by have:=congrArg List.length dp;rwa[ae,ae]at this
     cases cl:lk one dG with| true=>
       rw[cl,if_pos J]at R;refine ww ⟨r,a2,n,Wz dG,_,J,J,g5,av,vo,r,k1,n,Wz one,_,J,J,g5,ck,v1,_,_,J,J,_,_,J,r,a2,n,Wz dG,J,J,g5,av,Zq (by omega),λo' dr=>?_⟩;refine⟨_,_,J,qa aa nB,t5.trans g5.tups,λb nb o e=>by rw[upd_ne nb];exact M b nb o e,dr,(h5.put C S).to λj hj=>?_⟩;by_cases c:j=i+1+k
       . refine(if_pos c).trans (Eq.trans ?_ (if_pos (show j<i+1+(k+1) by omega)).symm);rw[c];exact R.symm
       . rw[if_neg c];by_cases c2:j<i+1+k
         . rw[if_pos c2,if_pos (by omega)]
         . rw[if_neg c2,if_neg (by omega)]| false=>
       rw[cl,if_neg bu]at R;refine yi ⟨_,_,J,aa,t5,M,g5,h5.to λj hj=>?_⟩;by_cases c:j=i+1+k
       . rw[c,if_neg (by omega),if_pos (by omega),R]
       . by_cases c2:j<i+1+k
         . rw[if_pos c2,if_pos (by omega)]
         . rw[if_neg c2,if_neg (by omega)]
   . rintro σ G5 ⟨x7,n,rfl,aa,t5,M,g5,h5⟩;refine⟨_,_,_,_,n,J,aa,g5,?_⟩;refine h5.to λj hj=>if_pos (by omega)
 rintro σ G ⟨x4,x5,x6,x7,p,rfl,g,gG,hG⟩;rw[aK]at hG;refine⟨r,p,J,gG,λv H2 s2 n2 g2=>⟨v,r,p,J,g2,gG.same s2,λl H3 s3 n3 g3=>⟨l,_,J,aI.of (by rw[<-hG.vals C];exact g3),?_⟩⟩⟩;exact k3 _ (bg.trans (sB.trans (g.trans (s2.trans s3)))) bB
end
noncomputable abbrev Qt:Stmt:=bA 79
theorem Dq:bootBuiltins "set"=some (.type "set"):=by decide+kernel
noncomputable def dX:aH->Option Int|.rai b _=>some b|_=>none
noncomputable def cJ(U:aB)(B:List (List Nat)):List aH:=B.flatMap (mM U).scr
theorem Xl{x:Int}:∀{l sn:List Int},x∈Wa sn l↔x∈sn\/x∈l
 |[],sn=>by simp[Wa]
 | k ::r,sn=>by
   unfold Wa;split
   . rw [Xl]
     rename_i c
     constructor
     . rintro(h|h)
       . exact .inl h
       . exact .inr (bv _ h)
     . rintro(h|h)
       . exact .inl h
       . rcases az.mp h with e|e
         . exact .inl (e▸c)
         . exact .inr e
   . rw[Xl];simp[or_assoc,or_left_comm]
theorem V4:∀{l sn:List Int},sn.Nodup->(Wa sn l).Nodup
 |[],sn,h=>h
 | k ::r,sn,h=>by
   unfold Wa;split
   . exact V4 h
   . rename_i c
     exact V4 (c9.mpr ⟨c,h⟩)
theorem Hi{a b:O Int}(p:a.Perm b):(Wa [] a).length=(Wa [] b).length:=((List.perm_ext_iff_of_nodup (V4 List.nodup_nil) (V4 List.nodup_nil)).mpr λx=>by rw[Xl,Xl,p.mem_iff]).length_eq
theorem tj(a:aB):∀ks:List (List Nat),(ks.flatMap (fO a)).map (λq=>((mM a).scr q.1)[q.2]?)=(cJ a ks).map some
 |[]=>rfl
 | h::ks=>by
   unfold cJ;rw[List.flatMap_cons,List.flatMap_cons,be,be];have e:=tj a ks;unfold cJ at e;rw[e];congr 1;unfold fO;rw[bp];refine List.ext_getElem? λj=>?_;rw[aj,aj];by_cases c:j<((mM a).scr h).length
   . rw[List.getElem?_range c,bo c];show some (((mM a).scr h)[j]?)=_;rw[bo c];rfl
   . rw[dq (by rw[cz];omega),dq (by omega)];rfl
theorem EI{b:aB}{a:O (O Nat)}{q:O Nat×Nat}(h:(a.flatMap (fO b))[i]?=some q):q.1∈a/\∃d,((mM b).scr q.1)[q.2]?=some d/\(cJ b a)[i]?=some d:=by
 have e:=congrArg (·[i]?) (tj b a);simp only[aj,h]at e;refine⟨?_,?_⟩
 . obtain⟨k,hk,f⟩:=List.mem_flatMap.mp (br h);obtain⟨p,_,rfl⟩:=bz.mp f;exact hk
 . cases c:(cJ b a)[i]? with|none=>rw[c]at e;cases e|some d=>rw[c]at e;exact⟨d,Option.some.inj e,J⟩
inductive mo(vs:List V)(H:Hp)(Q:VK)(e0:XK):Prop| mk:∀hs (v:V) (lk:List Nat×Nat->List Nat×Nat->Bool),vs=[v]->Is H (eH hs) v->Flat hs->(cJ hs (zi (plan hs))).length<=300->(∀one other n,(ym hs (yo one.1 one.2) n).ready=[]->decide (other.2<yb (ym hs (yo one.1 one.2) n).done other.1)= !lk one other)->
   (∀n0 a H',zg H H'->(ym hs [] n0).ready=[]->H' a=some (.tup [.int ((Wa [] ((cJ hs (zi (plan hs))).filterMap dX)).length:Int),.int ((cJ hs (zi (plan hs))).countP Ya:Int),.int (jS lk (eB hs (dC (ym hs [] n0).wov)))])->Q (.ref a) H')->mo vs H Q e0
section
variable{K:W.Frag}
theorem zJ:aA ["house","plan","deeds","raised","awaits"] ["house"] (ze Qt):=.of
theorem EL(D:bH K mg "cost" Qt)(T:Txt K mg)(aq:mg "set"=none)(hC:∃t,mg "MOST_DEEDS_OF_COST"=some (.int 300 t))(CP:aG K cP aZ)(oP:Ok P w K mg base "plan_of" 26 ["house"] (gS cP cR))(oE:bR P w K mg base cP "every_deed" 1 ["self"] (mj cP cR))(oW:bR P w K mg base cP "what" 1 ["self","name"] (iY cP cR))(oD:Ok P w K mg base "depth_of" 8 ["plan"] (mn cP cR)):Ok P w K mg base "cost" 27 ["house"] mo:=by
 refine wj (k:=26) D zJ ?_;rintro f bD A a8 s H vs Q E hr ⟨g,v,lk,rfl,hv,F,ay,bh,kk⟩ X;have nd:=zJ.nd;refine⟨_,zb (zr (i:=1) nd (yc oP hr (za (pv 0) zc))) (zb (Jj (i:=2) (own:=["name"]) (cap:=[1]) J (yv (ze Qt) J J (by decide+kernel) (by decide+kernel) (by decide+kernel) ⟨⟨_,J,.inl J,vm J⟩,trivial⟩) (vy (X1 oE CP.cls (hr.mono (by decide)) (pv 1))) (λ_ _ _ _=>zk (i:=0) (by show(["name","plan"]:O Str).Nodup;decide+kernel)) (λ_ _ _ _=>wb) (λ_ _ _ _=>qc oW CP.cls (hr.mono (by decide)) (pv 1) (za (pv 0) zc)) nd J J (by with_unfolding_all rfl))
  (zb (yg (zo rO (yd yp J T.len qd (za (pv 2) zc)) (xl hC) (zx _)) (zf Ze) zn) (zb (Jj (i:=3) (own:=["deed"]) (cap:=[]) J (yv (ze Qt) J J (by decide+kernel) (by decide+kernel) (by decide+kernel) trivial) (vy (pv 2)) (λ_ _ _ _=>zk (i:=0) (by show(["deed"]:O Str).Nodup;decide+kernel)) (λ_ _ _ _=>js (zo xz (zt (r:=cL K) zp (pv 0) zh (λ_ _=>rfl)) zy (zx _))) (λ_ _ _ _=>zt (r:=cL K) zp (pv 0) zh (λ_ _=>rfl)) nd J J (by with_unfolding_all rfl))
  (zb (Jj (i:=4) (own:=["deed"]) (cap:=[]) J (yv (ze Qt) J J (by decide+kernel) (by decide+kernel) (by decide+kernel) trivial) (vy (pv 2)) (λ_ _ _ _=>zk (i:=0) (by show(["deed"]:O Str).Nodup;decide+kernel)) (λ_ _ _ _=>js (zo xz (zt (r:=cL K) zp (pv 0) zh (λ_ _=>rfl)) zy (zx _))) (λ_ _ _ _=>pv 0) nd J J (by with_unfolding_all rfl))
  (zf (zj (y0 (za (yd GT J T.len qd (za (w9 (GV J) J aq Dq (za (pv 3) zc)) zc)) (za (yd yp J T.len qd (za (pv 4) zc)) (za (yc oD (hr.mono (by decide)) (za (pv 1) zc)) zc)))))))))),?_⟩
 refine⟨g,v,J,hv,F.law,λZ L H1 s1 bB PA=>?_⟩;obtain⟨bl,vh,ar,ap,_⟩:=id PA;refine⟨Z,bl,_,J,ap,J,Z,g,L,J,PA,F,λl m H2 s2 n2 pk i2=>?_⟩;obtain⟨l',ys,e,R,iy⟩:=i2;cases e;have PD:(cJ g m).Perm (cJ g (zi (plan g))):=List.Perm.flatMap_right _ pk;have yl:=iy.length;have nl:(m.flatMap (fO g)).length=(cJ g m).length:=by have:=congrArg List.length (tj g m);rwa[ae,ae]at this
 rw[ae,nl]at yl;have bC:(cJ g m).length<=300:=by rw[PD.length_eq];exact ay
 rw[<-Hi (PD.filterMap dX),<-PD.countP_eq]at kk;have a7:=s1.trans s2;refine⟨l,J,⟨ys,aI.of R⟩,?_⟩;refine Zl (λi p G=>zg H2 G/\IsL G (((cJ g m).take i).map eD) p) ⟨zg.refl _,J⟩ (λi p G hi ⟨j,e⟩=>⟨aI.of (j _ _ R),?_⟩) ?_ ?_
 . rw[e.length,ae,cx,sizeLine_eq];omega
 . rintro i z p G hz ⟨j,ez⟩;refine W4 ?_;obtain⟨tt,n,y⟩:=iy.get' hz;rw[aj]at n;obtain⟨q,hq,rfl⟩:=cm.mp n;obtain⟨bd,d,hd,bi⟩:=EI hq;have a2:=(PA.same s2).same j;obtain⟨aS,bx,bE,ah,_⟩:=id a2;refine⟨Z,aS,_,J,ah,J,Z,g,L,q,d,z,J,a2,pk.mem_iff.mp bd,y.mono j,hd,λu iu=>⟨j,?_⟩⟩;rw[cu,bi,be];exact IsL.append ez ⟨_,_,J,iu,J⟩
 rintro p G ⟨j,y⟩ U aw;rw[yl,cw]at y;have s3:=zg.new aw (.lst p);have g3:upd G U (.lst p) U=some (.lst p):=zd;generalize upd G U (.lst p)=H3 at s3 g3⊢;have N:=y.mono s3;have a3:=a7.trans (j.trans s3);have bw:=PA.same (s2.trans (j.trans s3));have zl:=N.length;rw[ae]at zl;clear y j s3 aw R iy n2;refine⟨U,p,J,.inl (aI.of g3),_,_,J,J,_,J,ki (λc=>absurd (ce c) (by rw[zl];omega)) (λ_=>?_)⟩;refine⟨U,J,⟨p,aI.of g3⟩,?_⟩;have a1:∀{G:Hp}{d:aH}{z:V},Is G (eD d) z->∃a r,z=.ref a/\G a=some (.tup (.str (dw d)::r)):=λ{G d z} y=>by
  obtain⟨rr,bc⟩:=Zy d;obtain⟨W,x5,rfl,B,v1,r1,rfl,i1,_⟩:=(bc▸y)
  cases(i1);exact⟨W,r1,J,B⟩
 refine Zl (λi o G=>zg H3 G/\o=(((cJ g m).take i).filterMap dX).map V.int) ⟨zg.refl _,J⟩ (λi o G hi ⟨j,e⟩=>⟨aI.of (j _ _ g3),?_⟩) ?_ ?_
 . rw[e,ae,sizeLine_eq];have:=List.length_filterMap_le dX ((cJ g m).take i);rw[cx]at this;omega
 . rintro i z o G hz ⟨j,rfl⟩;obtain⟨tt,n,y⟩:=N.get' hz;rw[aj]at n;obtain⟨d,hd,rfl⟩:=cm.mp n;have aa:=y.mono j;obtain⟨W,r1,rfl,B⟩:=a1 aa;have S:((cJ g m).take (i+1)).filterMap dX=((cJ g m).take i).filterMap dX++(dX d).toList:=by rw[cu,hd,List.filterMap_append];cases d<;>rfl
   refine⟨W,_,0,.str (dw d),J,J,aE.of B,(show cZ (.str (dw d)::r1) ((0:Nat):Int)=_ from xt J),J,_,J,?_⟩;cases d with| rai b k=>obtain⟨a6,x6,e6,bk,v1,r2,rfl,i1,v2,r3,rfl,i2,_⟩:=aa;cases e6;cases(i2);refine ww ⟨W,_,1,.int b,J,J,aE.of bk,(show cZ _ ((1:Nat):Int)=_ from xt J),j,?_⟩;rw[S,be];rfl| _=>refine yi ⟨j,?_⟩;rw[S];simp[dX]
 rintro o G ⟨j,rfl⟩ p4 av;rw[zl,cw];have s4:=zg.new av (.lst (((cJ g m).filterMap dX).map V.int));have g4:upd G p4 (.lst (((cJ g m).filterMap dX).map V.int)) p4=some (.lst (((cJ g m).filterMap dX).map V.int)):=zd;generalize upd G p4 (.lst (((cJ g m).filterMap dX).map V.int))=H4 at s4 g4⊢;have C:=j.trans s4;have aK:=C _ _ g3;have ba:=N.mono C;clear s4 av j;refine⟨U,J,⟨p,aI.of aK⟩,?_⟩;refine Zl (λi o G=>zg H4 G/\o.length=((cJ g m).take i).countP Ya) ⟨zg.refl _,J⟩ (λi o G hi ⟨j,e⟩=>⟨aI.of (j _ _ aK),?_⟩) ?_ ?_
 . rw[e,sizeLine_eq];have:=List.countP_le_length (p:=Ya) (l:=(cJ g m).take i);rw[cx]at this;omega
 . rintro i z o G hz ⟨j,ew⟩;obtain⟨tt,n,y⟩:=ba.get' hz;rw[aj]at n;obtain⟨d,hd,rfl⟩:=cm.mp n;obtain⟨W,r1,rfl,B⟩:=a1 (y.mono j);have S:((cJ g m).take (i+1)).countP Ya=((cJ g m).take i).countP Ya+if Ya d=true then 1 else 0:=by rw[cu,hd,List.countP_append];cases d<;>rfl
   refine⟨W,_,0,.str (dw d),J,J,aE.of B,(show cZ (.str (dw d)::r1) ((0:Nat):Int)=_ from xt J),J,_,J,?_⟩;have ed:decide (V.str (dw d)=V.str "await")=Ya d:=by cases d<;>rfl
   rw[ed];cases ca:Ya d with| true=>rw[ca,if_pos J]at S;refine ww ⟨j,?_⟩;rw[S,c7,ew];rfl| false=>rw[ca,if_neg bu]at S;refine yi ⟨j,?_⟩;rw[S,ew];rfl
 rintro o G ⟨j,ew⟩ p5 bg;rw[zl,cw]at ew;have s5:=zg.new bg (.lst o);have g5:upd G p5 (.lst o) p5=some (.lst o):=zd;generalize upd G p5 (.lst o)=H5 at s5 g5⊢;have M:=j.trans s5;have fl:=List.length_filterMap_le dX (cJ g m);refine⟨p4,_,J,M _ _ g4,by omega,λd6 H6 s6 n6 a6=>⟨d6,_,J,a6,?_,?_⟩⟩
 . have:=(V4 (l:=(cJ g m).filterMap dX) (sn:=[]) List.nodup_nil).length_le_of_subset (λx hx=>by
    rcases Xl.mp hx with h|h
    . cases h
    . exact h:_ ⊆ (cJ g m).filterMap dX)
   omega
 refine⟨p5,o,J,.inl (aI.of (s6 _ _ g5)),Z,g,L,lk,J,bw.same (C.trans (M.trans s6)),F,bh,λn0 H7 s7 bb=>⟨by show 3<=1000;decide,λa H8 s8 n8 g8=>?_⟩⟩;rw[ew]at g8;exact kk n0 a H8 (a3.trans (C.trans (M.trans (s6.trans (s7.trans s8))))) bb g8
end
noncomputable abbrev Qr:Stmt:=bA 77
noncomputable def fN(h:List Nat)(B:List aH):List (List Nat×Int):=B.filterMap λd=>(dX d).map λb=>(h,b)
noncomputable def cY(U:aB)(B:List (List Nat)):List (List Nat×Int):=B.flatMap λh=>fN h ((mM U).scr h)
noncomputable def Q0(B:aB):Bool:=(cY B (zi (plan B))).all λq=>(cY B (zi (plan B))).all λr=>decide (q.2=r.2->q.1=r.1)
theorem GL{a:aB}{h':List Nat}(i:(h,b)∈cY a (zi (plan a)))(j:(h',b)∈cY a (zi (plan a)))(n:h≠h'):Q0 a=false:=by cases c:Q0 a with|false=>rfl|true=>exact absurd (ce (cy.mp (cy.mp c _ i) _ j) J) n
inductive eV(G:Hp)(ad:Addr)(pr:List (List Nat×Int)):Prop|mk:∀kvs,G ad=some (.dK kvs)->kvs.length<=pr.length->(∀b:Int,(yz kvs (.inl b)=none/\∀q∈pr,q.2≠b)\/∃v h,yz kvs (.inl b)=some v/\Is G (hT h) v/\(h,b)∈pr/\∀q∈pr,q.2=b->q.1=h)->eV G ad pr
theorem eV.same{d:Hp}{c:O (O Nat×Int)}(r:eV G ad c)(s:zg G d):eV d ad c:=by
 obtain⟨a,j,g,f⟩:=r;refine⟨a,s _ _ j,g,λb=>?_⟩;rcases f b with h|⟨v,h,e,i,r⟩
 . exact .inl h
 . exact .inr ⟨v,h,e,i.mono s,r⟩
theorem eV.yes{b:aB}{a:O (O Nat)}(r:eV G ad (cY b a)):(cY b a).all (λq=>(cY b a).all λr=>decide (q.2=r.2->q.1=r.1))=true:=by
 obtain⟨d,j,i,g⟩:=r;refine cy.mpr λq c=>cy.mpr λr f=>bn λe=>?_;rcases g q.2 with h|⟨v,h,_,_,_,k⟩
 . exact absurd J (h.2 q c)
 . rw[k q c J,k r f e.symm]
theorem GO{a:O aH}{d:aH}(e:a[i]?=some d):fN h (a.take (i+1))=fN h (a.take i)++((dX d).map λb=>(h,b)).toList:=by unfold fN;rw[cu,e,List.filterMap_append];cases d<;>rfl
theorem wU(h g:O Nat):PyData.eqv (aO (hT h)) (aO (hT g))=decide (h=g):=by
 unfold hT;rw[rZ];by_cases c:h=g
 . rw[c,bn J,bn J]
 . rw[c6 c,c6 λz=>c (qo z)]
theorem Q6(h:O Nat):(aO (hT h)).canLay0=true/\(aO (hT h)).depth<=20:=by refine⟨Wy _,?_⟩;unfold hT tI aO PyData.depth;rw[Zz];decide
inductive lS(vs:List V)(H:Hp)(Q:VK)(e0:XK):Prop|mk:∀hs (v:V),vs=[v]->Is H (eH hs) v->Flat hs->(∀H',zg H H'->Q (.bl (Q0 hs)) H')->lS vs H Q e0
section
variable{K:W.Frag}
theorem Kt:aA ["house","raisers","hand","role","deed"] ["house"] (ze Qr):=.of
theorem JQ (D :bH K mg "is_plain" Qr) (CP:aG K cP aZ) (CR:aG K cR aR) (oP:Ok P w K mg base "plan_of" 26 ["house"] (gS cP cR)):Ok P w K mg base "is_plain" 27 ["house"] lS:=by
 refine wj (k:=26) D Kt ?_;rintro f b1 A bl s H vs Q E M ⟨a,v,rfl,hv,F,kk⟩ X;have nd:=Kt.nd;refine⟨_,zb (zr (i:=1) nd V0) (zb (wa PassesOwn.never J (Yh (Gf (zu (yc oP M (za (pv 0) zc)) J))) (jw J (yn (zk (i:=2) nd) (yn (zk (i:=3) nd) ql))) (zf (wa PassesOwn.never J (j5 (zu (pv 3) J)) (zk (i:=4) nd) (zf (yg (PW.pt (Xe (zo xz (zt zp (pv 4) zh) zy (zx _)) (Vt (zo (tK (by exact M.units)) (Gi (pv 1) (zt zp (pv 4) zh) (pv 2) ⟨J,J,J,J⟩) (pv 2) (zx _))))) (zf (zj (xW wn))) zn)))))
  (zf (zj (xW wn)))),?_⟩
 intro ad ba;have s1:=zg.new ba (.dK []);have g1:upd H ad (.dK []) ad=some (.dK []):=zd;generalize upd H ad (.dK [])=H1 at s1 g1⊢;refine⟨a,v,J,hv.mono s1,F.law,λxp L N s2 b0 PA=>?_⟩;obtain⟨dp,vh,g,hp,ih,C,bd,bC⟩:=id PA;refine⟨xp,cP,dp,_,_,J,hp,CP.cls,CP.n,vj,g,_,C,trivial,λo nf=>?_⟩;have g2:=s2 _ _ g1;have av:g≠ad:=λz=>by rw[z,g2]at C;cases C
 have bN:=s1.trans s2;have Yo:∀{G:Hp},zg (without [ad] (upd N g (.frz o (.dT (yj L))))) G->zg H (upd G g (.dT (yj L))):=λ{G} s b u e=>by
  have e2:=bN _ _ e;have nb:b≠ad:=λz=>by rw[z,ba]at e;cases e
  by_cases z:b=g
  . rw[z]at e2⊢;rw[zd,<-e2,C]
  . rw[upd_ne z];exact s _ _ (by rw[ye (λhm=>nb (ai.mp hm)),upd_ne z];exact e2)
 have kB:∀{b:Y}{u:HO},b≠g->b≠ad->N b=some u->without [ad] (upd N g (.frz o (.dT (yj L)))) b=some u:=λ{b u} z nb e=>by rw[ye (λhm=>nb (ai.mp hm)),upd_ne z];exact e
 have m:without [ad] (upd N g (.frz o (.dT (yj L)))) g=some (.frz o (.dT (yj L))):=by rw[ye (λhm=>av (ai.mp hm))];exact zd
 have nB:without [ad] (upd N g (.frz o (.dT (yj L)))) ad=none:=yf (by simp);have sB:zg (without [ad] (upd N g (.frz o (.dT (yj L))))) (upd N g (.frz o (.dT (yj L)))):=y9;have gf:upd N g (.frz o (.dT (yj L))) ad=some (.dK []):=(upd_ne (ak av)).trans g2;have tB:yw N (without [ad] (upd N g (.frz o (.dT (yj L))))):=λc zs e=>kB (λz=>by rw[z,C]at e;cases e) (λz=>by rw[z,g2]at e;cases e) e;generalize without [ad] (upd N g (.frz o (.dT (yj L))))=B at Yo kB m nB sB tB;generalize upd N g (.frz o (.dT (yj L)))=Hf at gf sB⊢;have ap:y8 L=zi (plan a):=kx bd;have bL:∀h,(fN h ((mM a).scr h)).length<=((mM a).scr h).length:=λh=>List.length_filterMap_le _ _;have aw:(cY a (zi (plan a))).length<=1200:=by
  have q2:tot (mM a) (zi (plan a))=Xr a.ss (plan a):=Yd (jh a);have q4:Xr a.ss (plan a)<=1200:=F.law.pl.deeds;have q5:∀ks:O (O Nat),(cY a ks).length<=(ks.map λh=>((mM a).scr h).length).sum:=λks=>by
   induction ks with
   |nil=>exact ag _
   | cons h ks ih=>unfold cY at ih⊢;rw[List.flatMap_cons,c7,cb,List.sum_cons];have:=bL h;omega
  have:=q5 (zi (plan a));unfold My.tot at q2;omega
 refine⟨g,o,_,J,sB _ _ m,?_⟩;refine Q9 (kvs:=yj L) (λi W G=>∃x2 x3 x4,W=[some v,some (.ref ad),x2,x3,x4]/\zg B G/\eV G ad (cY a (y8 (L.take i)))) ⟨none,none,none,J,sB,[],gf,ag _,λb=>.inl ⟨J,λq hq=>nomatch hq⟩⟩ (λi W G _ ⟨_,_,_,_,sG,_⟩=>sG _ _ m) ?_ ?_
 . rintro i kv W G x ⟨x2,x3,x4,rfl,sG,rG⟩ p b bE hb;obtain⟨q,hq,rfl⟩:∃q,L[i]?=some q/\(kI (hZ q.1.1),V.ref q.2)=kv:=by
    unfold yj at x;rw[aj]at x;cases e:L[i]? with
    |none=>rw[e]at x;cases x
    |some z=>rw[e]at x;exact⟨z,J,Option.some.inj x⟩
   have a2:=br hq;obtain⟨bM,vc,vs,ab,an,ac,r1,r2,_⟩:=bC q a2;have bi:=kB (λz=>by rw[z,C]at r1;cases r1) (λz=>by rw[z,g2]at r1;cases r1) r1;have sp:=zg.new bE (.tup [.ref b,.ref q.2]);have a3:upd G p (.tup [.ref b,.ref q.2]) p=some (.tup [.ref b,.ref q.2]):=zd;generalize upd G p (.tup [.ref b,.ref q.2])=G1 at sp a3⊢;have ah:=sG.trans sp;have bh:=rG.same sp;have a1:q.1∈plan a:=by rw[<-bd];exact List.mem_map_of_mem a2
   have bB:Is G1 (hT q.1.1) (.ref b):=⟨b,_,J,sp _ _ (by rw[<-Wg];exact hb),IsL.ints.mpr J⟩
   obtain⟨aS,xS,rfl,bb,a7⟩:=r2.tups tB (Xp _);have bc:=a7.length;rw[ae]at bc;have ek:y8 (L.take (i+1))=y8 (L.take i)++[q.1.1]:=by unfold y8;rw[cu,hq,be];rfl
   have ep:cY a (y8 (L.take (i+1)))=cY a (y8 (L.take i))++fN q.1.1 ((mM a).scr q.1.1):=by unfold cY;rw[ek,List.flatMap_append,List.flatMap_singleton]
   have sub:∀{y},y∈cY a (y8 (L.take (i+1)))->y∈cY a (zi (plan a)):=λ{y} hy=>by rw[<-ap];obtain⟨h,hh,hy⟩:=List.mem_flatMap.mp hy;refine List.mem_flatMap.mpr ⟨h,?_,hy⟩;unfold y8 at hh⊢;obtain⟨z,hz,rfl⟩:=bz.mp hh;exact List.mem_map_of_mem (f:=λq:(O Nat×Nat)×Y=>q.1.1) (List.mem_of_mem_take hz)
   have R:(cY a (y8 (L.take (i+1)))).length<=1200:=by
    refine cj ?_ aw;rw[<-ap];have e:cY a (y8 L)=cY a (y8 (L.take (i+1)))++cY a (y8 (L.drop (i+1))):=by unfold cY y8;rw[<-List.flatMap_append,<-be,List.take_append_drop]
    rw[e,c7];omega
   rw[ep]at sub R⊢;refine⟨p,_,J,aE.of a3,J,_,_,J,_,_,J,J,?_⟩;refine⟨q.2,cR,bM,_,_,J,ah _ _ bi,CR.cls,CR.n,qi,aS,J,⟨xS,aE.of (ah _ _ bb)⟩,?_⟩;refine X5 (K:=K) (a:=aS) (xs:=xS) (λj W G'=>∃x4,W=[some v,some (.ref ad),some (.ref b),some (.ref q.2),x4]/\zg B G'/\yw G1 G'/\eV G' ad (cY a (y8 (L.take i))++fN q.1.1 (((mM a).scr q.1.1).take j))) ⟨_,J,ah,yw.refl _,by simpa[fN]using bh⟩ (λj W G' _ ⟨_,_,bg,_⟩=>aE.of (bg _ _ bb)) ?_ ?_
   . rintro j z W G2 hz ⟨x4,rfl,l,t2,S⟩;obtain⟨tt,aK,iz⟩:=a7.get' hz;rw[aj]at aK;obtain⟨d,hd,rfl⟩:=cm.mp aK;have ay:=iz.mono l;have a8:((mM a).scr q.1.1)[j]?=some d:=by rw[Kp a1];exact hd
     have et:=GO (h:=q.1.1) a8;have aa:Is G2 (hT q.1.1) (.ref b):=bB.tups t2 (vp _);rw[et,<-List.append_assoc];obtain⟨rr,bD⟩:=Zy d;obtain⟨a5,x5,rfl,bK,v1,bk,rfl,i1,_⟩:=(bD▸ay)
     cases(i1);refine⟨a5,_,0,.str (dw d),J,J,aE.of bK,(show cZ (.str (dw d)::bk) ((0:Nat):Int)=_ from xt J),J,_,J,?_⟩;cases d with
     | rai U k=>
       obtain⟨a6,x6,e6,bJ,v6,r6,rfl,i6,v7,r7,rfl,i7,_⟩:=ay;cases e6;cases(i7);obtain⟨t,c1,c2,c3⟩:=id S;have bw:(q.1.1,U)∈cY a (y8 (L.take i))++fN q.1.1 ((mM a).scr q.1.1):=c4.mpr (.inr (List.mem_filterMap.mpr ⟨_,br a8,J⟩));have aq:∀{y},y∈cY a (y8 (L.take i))++fN q.1.1 (((mM a).scr q.1.1).take j)->y∈cY a (y8 (L.take i))++fN q.1.1 ((mM a).scr q.1.1):=λ{y} hy=>by
        rcases c4.mp hy with h|h
        . exact c4.mpr (.inl h)
        . obtain⟨d',bI,n⟩:=List.mem_filterMap.mp h;exact c4.mpr (.inr (List.mem_filterMap.mpr ⟨d',List.mem_of_mem_take bI,n⟩))
       have kl:t.length<=1200:=by refine cj c2 (cj ?_ R);rw[c7,c7];have:(fN q.1.1 (((mM a).scr q.1.1).take j)).length<=(fN q.1.1 ((mM a).scr q.1.1)).length:=((List.take_sublist j _).filterMap _).length_le;omega
       refine ww ⟨ad,J,.inl ⟨t,.inl c1⟩,a5,_,1,.int U,J,J,aE.of bJ,(show cZ _ ((1:Nat):Int)=_ from xt J),t,.inl U,J,c1,by rw[sizeLine_eq];omega,λu hu=>?_,λhn=>?_⟩
       . rcases c3 U with⟨z1,_⟩|⟨u',h',z1,z2,z3,z4⟩
         . rw[z1]at hu;cases hu
         rw[hu]at z1;cases z1;refine⟨hT h',hT q.1.1,z2,aa,(Q6 _).1,(Q6 _).1,(Q6 _).2,_,J,?_⟩;rw[wU];by_cases c:h'=q.1.1
         . rw[bn c];refine yi ⟨_,J,l,t2,t,c1,by rw[c7];omega,λb'=>?_⟩;rcases c3 b' with⟨Z,y2⟩|⟨u3,h3,Z,y2,y3,y4⟩
           . refine .inl ⟨Z,λr M=>?_⟩;rcases c4.mp M with z|z
             . exact y2 r z
             . rw[ai.mp z];intro n;have n:U=b':=n;rw[<-n,hu]at Z;cases Z
           . refine .inr ⟨u3,h3,Z,y2,c4.mpr (.inl y3),λr M n=>?_⟩;rcases c4.mp M with z|z
             . exact y4 r z n
             . rw[ai.mp z]at n⊢;have n:U=b':=n;rw[<-n]at y4;rw[<-y4 _ z3 J];exact c.symm
         . rw[c6 c];refine ww ⟨g,o,_,l _ _ m,nf,?_⟩;have:=GL (sub (aq z3)) (sub bw) c;rw[<-this];exact kk _ (Yo l)
       . rcases c3 U with⟨_,z2⟩|⟨u',h',z1,_⟩
         . have tu:yw G2 (upd G2 ad (.dK (vi t (.inl U) (.ref b)))):=λc xs e=>by rw[upd_ne (λz=>by rw[z,c1]at e;cases e)];exact e
           refine⟨hT q.1.1,hT q.1.1,aa.tups tu (vp _),aa.tups tu (vp _),(Q6 _).1,(Q6 _).1,(Q6 _).2,_,J,?_⟩;rw[wU,bn J];refine yi ⟨_,J,qa l nB,t2.trans tu,_,zd,?_,λb'=>?_⟩
           . have:=xy t (.inl U) (.ref b);rw[c7];show _<=_+1;omega
           rw[j0];by_cases n:b'=U
           . rw[n,if_pos J];refine .inr ⟨_,q.1.1,J,aa.tups tu (vp _),c4.mpr (.inr (ai.mpr J)),λr M e2=>?_⟩;rcases c4.mp M with z|z
             . exact absurd e2 (z2 r z)
             . rw[ai.mp z]
           . rw[if_neg (λz=>n (Sum.inl.inj z))];rcases c3 b' with⟨Z,y2⟩|⟨u3,h3,Z,y2,y3,y4⟩
             . refine .inl ⟨Z,λr M=>?_⟩;rcases c4.mp M with z|z
               . exact y2 r z
               . rw[ai.mp z];exact λz=>n z.symm
             . refine .inr ⟨u3,h3,Z,y2.tups tu (vp _),c4.mpr (.inl y3),λr M e2=>?_⟩;rcases c4.mp M with z|z
               . exact y4 r z e2
               . rw[ai.mp z]at e2;exact absurd e2.symm n
         . rw[hn]at z1;cases z1
     | _=>refine yi ⟨_,J,l,t2,?_⟩;simpa[dX]using S
   . rintro W G2 ⟨x4,rfl,l,t2,S⟩;rw[bc,<-Kp a1,cw]at S;exact⟨_,_,_,J,l,S⟩
 . rintro W G ⟨x2,x3,x4,rfl,sG,rG⟩;have e:(yj L).length=L.length:=by unfold yj;rw[ae]
   rw[e,cw,ap]at rG;refine⟨g,o,_,sG _ _ m,nf,?_⟩;have:=rG.yes;have:Q0 a=true:=this;rw[<-this];exact kk _ (Yo sG)
end
section
variable{hs:aB}{held:List ((List Int×Int)×V)}
theorem uB{n:Nat}(h:(ym hs held n).ready=[]):∀k,ym hs held (n+k)=ym hs held n|0=>rfl| k+1=>by show Wb _ _ (ym hs held (n+k))=_;rw[uB h k];unfold Wb;rw[h];rfl
theorem yO{n m:Nat}(h:(ym hs held n).ready=[])(g:(ym hs held m).ready=[]):ym hs held n=ym hs held m:=by
 rcases Nat.le_total n m with l|l
 . obtain⟨k,rfl⟩:=Nat.exists_eq_add_of_le l;exact(uB h k).symm
 . obtain⟨k,rfl⟩:=Nat.exists_eq_add_of_le l;exact uB g k
end
open Classical in
noncomputable def oy(hs:aB)(one other:List Nat×Nat):Bool:=if h:∃n,(ym hs (yo one.1 one.2) n).ready=[]then !decide (other.2<yb (ym hs (yo one.1 one.2) h.choose).done other.1)else true
noncomputable def kX(b:Int)(n:Nat)(U:List yx)(one B:List Nat×Nat):Bool:=match one.1,B.1 with| [o],[a]=>if a<n then match fin (U.map λs=>s.map eX) b.toNat o one.2 with|some F=>decide (F.getD a 0<=B.2)|none=>oy (bX b n U) one B else oy (bX b n U) one B|_,_=>oy (bX b n U) one B
theorem Ek{b:aB}(one a:O Nat×Nat)(m:Nat)(h:(ym b (yo one.1 one.2) m).ready=[]):decide (a.2<yb (ym b (yo one.1 one.2) m).done a.1)= !(oy b one a):=by
 unfold oy;have c:∃n,(ym b (yo one.1 one.2) n).ready=[]:=⟨m,h⟩
 rw[dif_pos c,Bool.not_not,yO h c.choose_spec]
theorem El{n:Nat}{e:O yx}(F:Flat (bX b n e))(hl:e.length=n)(one d:O Nat×Nat)(m:Nat)(h:(ym (bX b n e) (yo one.1 one.2) m).ready=[]):decide (d.2<yb (ym (bX b n e) (yo one.1 one.2) m).done d.1)= !(kX b n e one d):=by
 have g:=Ek one d m h;unfold kX;split
 . rename_i o a k j
   split
   . rename_i i
     split
     . rename_i L f
       rw[k]at h⊢;rw[j];rw[<-rP hl]at f;rw[yN F h f (by rw[mQ];exact i)];by_cases c:d.2<L.getD a 0
       . rw[bn c,c6 (by omega)];rfl
       . rw[c6 c,bn (by omega)];rfl
     . exact g
   . exact g
 . exact g
noncomputable def oQ(lk:Nat->Bool)(x:Int)(i:Nat):Nat->List Int->List Int|_,[]=>[]|j,h::r=>(if i<j/\lk j=true then(if x>h then x else h)else h)::oQ lk x i (j+1) r
noncomputable def pF(lk:Nat->Nat->Bool):Nat->Nat->List Int->List Int|0,_,hs=>hs|f+1,i,hs=>pF lk f (i+1) (oQ (lk i) (hs.getD i 0+1) i 0 hs)
theorem yX{lk:Nat->Bool}{x:Int}{i:Nat}:∀{a:List Int}{j k:Nat},(oQ lk x i j a)[k]?=a[k]?.map λh=>if i<j+k/\lk (j+k)=true then(if x>h then x else h)else h|[],_,_=>rfl|h::r,j,0=>rfl| h::r,j,k+1=>by show(oQ lk x i (j+1) r)[k]?=_;rw[yX,Nat.add_right_comm,Nat.add_assoc];rfl
theorem DB{n:Nat}(a:i<n):oQ (lk i) (((List.range n).map (hF lk i)).getD i 0+1) i 0 ((List.range n).map (hF lk i))=(List.range n).map (hF lk (i+1)):=by
 have e:((List.range n).map (hF lk i)).getD i 0=hF lk i i:=by rw[c8,aj,List.getElem?_range a];rfl
 rw[e];refine List.ext_getElem? λk=>?_;rw[yX,aj,aj,Option.map_map];by_cases c:k<n
 . rw[List.getElem?_range c];show some (if i<0+k/\lk i (0+k)=true then _ else _)=some (if i<k/\lk i k=true then _ else _);rw[Nat.zero_add]
 . rw[dq (by rw[cz];omega)];rfl
theorem yW{lk:Nat->Nat->Bool}{n:Nat}:∀{f i:Nat},i+f=n->pF lk f i ((List.range n).map (hF lk i))=(List.range n).map (hF lk n)
 | 0,i,h=>by
   obtain rfl:i=n:=by omega
   rfl
 | f+1,i,h=>by show pF lk f (i+1) _=_;rw[DB (by omega)];exact yW (by omega)
noncomputable def rq(lk:Nat->Nat->Bool)(n:Nat):Int:=(eP none (pF lk n 0 (List.replicate n 1))).getD 0
theorem Dv(lk:O Nat×Nat->O Nat×Nat->Bool)(a:O (O Nat×Nat)):jS lk a=rq (λi j=>lk (a.getD i ([],0)) (a.getD j ([],0))) a.length:=by
 unfold jS rq;have e:List.replicate a.length (1:Int)=(List.range a.length).map (hF (λi j=>lk (a.getD i ([],0)) (a.getD j ([],0))) 0):=by
  refine List.ext_getElem? λk=>?_;rw[List.getElem?_replicate,aj];by_cases c:k<a.length
  . rw[if_pos c,List.getElem?_range c];rfl
  . rw[if_neg c,dq (by rw[cz];omega)];rfl
 rw[e,yW (Nat.zero_add _)]
noncomputable def mI(b:Int)(n:Nat)(B:List yx)(D:Int):Bool:=decide ((ym (bX b n B) [] 200).ready=[]) && decide (rq (λi j=>kX b n B ((eB (bX b n B) (dC (ym (bX b n B) [] 200).wov)).getD i ([],0)) ((eB (bX b n B) (dC (ym (bX b n B) [] 200).wov)).getD j ([],0))) (eB (bX b n B) (dC (ym (bX b n B) [] 200).wov)).length=D)
theorem yL{n:Nat}{a:O yx}{D:Int}(h:mI b n a D=true)(c:Nat)(h0:(ym (bX b n a) [] c).ready=[]):jS (kX b n a) (eB (bX b n a) (dC (ym (bX b n a) [] c).wov))=D:=by unfold mI at h;rw[cg,decide_eq_true_eq,decide_eq_true_eq]at h;rw[yO h0 h.1,Dv];exact h.2
noncomputable abbrev tO:Stmt:=bA 91
noncomputable abbrev tP:Stmt:=bA 92
noncomputable abbrev K3:Stmt:=bA 93
def Cg(a:Addr)(H B:Hp):Prop:=∀b o,b≠a->H b=some o->B b=some o
inductive mq(K:W.Frag)(vs:List V)(H:Hp)(Q:VK)(e0:XK):Prop|mk:∀(a:Addr)(ns:List Int)(k:Nat),vs=[.ref a,.int (k:Int)]->aI K H a (ns.map V.int)->(∀c:Int,Q (.int c) H)->mq K vs H Q e0
inductive lH(K:W.Frag)(vs:List V)(H:Hp)(Q:VK)(e0:XK):Prop|mk:∀(a:Addr)(ns:List Int)(k:Nat),vs=[.ref a,.int (k:Int)]->aI K H a (ns.map V.int)->(∀(l:Addr)(x:Int),H l=none->Q (.ref l) (upd H l (.lst [.int x])))->lH K vs H Q e0
inductive jJ(vs:List V)(H:Hp)(Q:VK)(e0:XK):Prop|mk:∀(a:Addr)(x m:Int),vs=[.ref a,.int m]->H a=some (.lst [.int x])->0<m->m<=100->(∀d:Int,0<=d->d<m->Q (.int d) (upd H a (.lst [.int (x/m)])))->jJ vs H Q e0
section
variable{K:W.Frag}
theorem Gy:aA ["script","k"] ["script","k"] (ze tO):=.of
theorem FY(D:bH K mg "_law_acell" tO)(T:Txt K mg):Ok P w K mg base "_law_acell" 1 ["script","k"] (mq K):=by
 refine wj D Gy ?_;rintro f h A b s H i Q E j ⟨a,g,k,rfl,e,d⟩ X;refine⟨_,zb (yg (zo We (pv 1) (yd yp (by rfl) T.len qd (za (pv 0) zc)) (zx _)) (zf (zj (zt Zb (pv 0) (pv 1)))) zn) (zf (zj zh)),?_⟩;refine⟨a,_,J,.inl e,_,_,J,J,_,J,ki (λc=>?_) (λc=>?_)⟩;have c:=ce c;rw[ae]at c;have hk:k<g.length:=by omega
 exact⟨a,_,_,_,J,J,e,xt (by rw[aj,bo hk];rfl),d _⟩;exact d 0
theorem A1:aA ["script","k","cell","p","number","last","turn"] ["script","k"] (ze tP):=.of
theorem F0(D:bH K mg "_law_atape" tP)(T:Txt K mg)(p:Ok P w K mg base "_law_acell" 1 ["script","k"] (mq K)):Ok P w K mg base "_law_atape" 2 ["script","k"] (lH K):=by
 refine wj D A1 ?_;rintro f x A i s H B Q E u ⟨a,q,k,rfl,v,o⟩ X;have b:=A1.nd;refine⟨_,zb (zr (i:=2) b (yc p u (za (pv 0) (za (pv 1) zc)))) (zb (yg (zo xz (yk Q2 (pv 2) zh) zh (zx _)) (zf (zj (Xh (za (yk Af (pv 2) zh) zc)))) zn) (zb (zr (i:=3) b zh) (zb (zr (i:=4) b zh) (zb (zr (i:=5) b (yk Q2 (yk wr (yk wr (yk qm (yk Q2 (pv 2) (pv 3)) zh) (yk qm zh (pv 1))) zh) (pv 3))) (zb (wa PassesOwn.never J (wm J T.range (za zh zc)) (zk (i:=6) b) (zb (zr (i:=4) b (yk wr (yk qm (pv 4) (pv 3)) (pv 5))) (zf (zr (i:=5) b (yk Q2 (yk wr (yk wr (yk qm (pv 5) (pv 5)) (yk qm zh (pv 1))) (pv 6)) (pv 3))))))
  (zf (zj (Xh (za (pv 4) zc))))))))),?_⟩
 refine⟨a,q,k,J,v,λc=>?_⟩;refine⟨_,_,J,J,(show(0:Int)<2 by decide),J,_,J,ki (λ_=>?_) (λ_=>?_)⟩;exact⟨_,_,J,J,⟨by decide,by decide⟩,bO,λl n=>o l _ n⟩;have d:(0:Int)<2305843009213693951:=by decide
 have F:=f8 c d;refine⟨_,_,J,J,d,_,_,J,J,.inr ⟨by decide,by decide⟩,_,_,J,J,.inl ⟨by decide,by decide⟩,_,_,J,J,_,_,J,J,_,_,J,J,d,?_⟩;refine⟨7,J,by decide,by decide,?_⟩;refine Zn (λj g z=>z=H/\∃(m e:Int)(h:Option V),0<=e/\e<2305843009213693951/\g=[some (.ref a),some (.int (k:Int)),some (.int c),some (.int 2305843009213693951),some (.int m),some (.int e),h]) ⟨J,0,(c%2305843009213693951*48271+69621*(k:Int)+11)%2305843009213693951,none,Int.emod_nonneg _ (by decide),f8 _ d,J⟩ ?_ ?_;rintro j g y C ⟨rfl,m,e,h,t,r,rfl⟩;refine⟨_,_,J,J,.inr ⟨by decide,by decide⟩,_,_,J,J,?_⟩;refine⟨_,_,J,J,.inr ⟨by omega,by omega⟩,_,_,J,J,.inl ⟨by decide,by decide⟩,_,_,J,J,_,_,J,J,_,_,J,J,d,?_⟩;exact⟨J,_,_,_,Int.emod_nonneg _ (by decide),f8 _ d,J⟩;rintro g y ⟨rfl,m,e,h,t,r,rfl⟩;exact⟨bO,λl n=>o l _ n⟩
theorem Bq:aA ["tape","many","found"] ["tape","many"] (ze K3):=.of
theorem Iw(D:bH K mg "_law_adigit" K3)(T:Txt K mg):Ok P w K mg base "_law_adigit" 1 ["tape","many"] jJ:=by
 refine wj D Bq ?_;rintro f i A c s H j Q E k ⟨a,x,m,rfl,d,b,h,g⟩ X;have e:=Bq.nd;refine⟨_,zb (zr (i:=2) e (yk Q2 (zt Zb (pv 0) zh) (pv 1))) (zb (sP (yk Af (zt Zb (pv 0) zh) (pv 1)) (D0 (pv 0) zh AK)) (zf (zj (pv 2)))),?_⟩
 refine⟨a,_,_,_,J,J,aI.of d,J,_,_,J,J,b,?_⟩;refine⟨a,_,_,_,J,J,aI.of d,J,_,_,J,J,⟨b,by omega⟩,a,_,_,_,J,J,d,J,?_⟩;exact(g _ (Int.emod_nonneg _ (by omega)) (f8 _ b))
end
noncomputable def cV(kd:Str)(n p:Nat):List yx:=(List.range n).map λi=>eW kd n i p
noncomputable def fA(n:Nat):Nat:=mT n 5 1
noncomputable def pD(kd:Str)(n p:Int)(r:Int):Int×Int:=if kd="shared" then(1,n*p)else if kd="own" then(n,n*(n-1)*p)else if kd="spread" then(n*r,n*r*p)else(n,2*(n-1)*p)
noncomputable def jR(B:aB):Int:=((Wa [] ((cJ B (zi (plan B))).filterMap dX)).length:Int)
noncomputable def lc(B:aB):Int:=((cJ B (zi (plan B))).countP Ya:Int)
noncomputable def lx(B:List yx)(s k:Nat):List yx:=B.set s ((B.getD s []).take k++(B.getD s []).drop (k+1))
noncomputable def mL(i:Nat)(s:yx):List (Nat×Nat):=((List.range s.length).filter λk=>((s[k]?).map Ya).getD false).map λk=>(i,k)
noncomputable def Y8(B:List yx):List (Nat×Nat):=(List.range B.length).flatMap λs=>mL s (B.getD s [])
noncomputable def uI(kd:Str)(n p:Nat):Bool:=qS (dU kd n) n p (cV kd n p) && (((List.range p).all λq=>(List.range n).all λo=>(List.range n).all λa=>qO (dU kd n) (cV kd n p) a o q) && (decide (Q0 (hk kd n p)=(decide (kd≠"shared") ||(decide (n<2) ||decide (p<1)))) && ((decide ((cJ (hk kd n p) (zi (plan (hk kd n p)))).length<=300) && (decide ((jl n p).length<64) && (decide ((Y8 (cV kd n p)).length<=100) && (cV kd n p).all λs=>decide (s.length<=80)))) && ((decide (n<2) ||decide (p<1)) ||(decide ((jR (hk kd n p),lc (hk kd n p))=pD kd n p (fA n)) && ((decide (kd≠"shared") ||mI (dU kd n) n (cV kd n p) p) && (decide (kd≠"spread") ||mI (dU kd n) n (cV kd n p) ((fA n:Int)*(p:Int)))))))))
structure mF(kd:Str)(n p:Nat):Prop where
 B:nr (dU kd n) n p (cV kd n p)
 lk:∀a o q,a<n->o<n->q<p->qO (dU kd n) (cV kd n p) a o q=true
 pl:Q0 (hk kd n p)=(decide (kd≠"shared") ||(decide (n<2) ||decide (p<1)))
 few:(cJ (hk kd n p) (zi (plan (hk kd n p)))).length<=300
 t64:(jl n p).length<64
 o100:(Y8 (cV kd n p)).length<=100
 s80:∀s∈cV kd n p,s.length<=80
 cst:2<=n->1<=p->(jR (hk kd n p),lc (hk kd n p))=pD kd n p (fA n)/\(kd="shared"->mI (dU kd n) n (cV kd n p) p=true)/\(kd="spread"->mI (dU kd n) n (cV kd n p) ((fA n:Int)*(p:Int))=true)
theorem DR{n:Nat}(h:uI kd n p=true):mF kd n p:=by
 unfold uI at h;simp only[cg,Bool.or_eq_true,decide_eq_true_eq,cy,da]at h;obtain⟨t,s,r,⟨m,f,d,c⟩,b⟩:=h;refine⟨wK t,λa o q j i g=>s q g o i a j,r,m,f,d,c,λv u=>?_⟩;rcases b with(h|h)|⟨b,l,k⟩
 . omega
 . omega
 . exact⟨b,λe=>l.resolve_left (λz=>z e),λe=>k.resolve_left (λz=>z e)⟩
theorem Ed:([("shared":Str),"own","spread","tree"].all λkd=>(List.range 8).all λn=>(List.range (if n+1<5 then 4 else 2)).all λp=>uI kd (n+1) p)=true:=by decide+kernel
theorem K4.mem(h:K4 kd):kd∈[("shared":Str),"own","spread","tree"]:=by rcases h with rfl|rfl|rfl|rfl<;>simp
theorem DP{n:Nat}(k:K4 kd)(a:1<=n)(b:n<=8)(hp:p<if n<5 then 4 else 2):mF kd n p:=by have:=cy.mp (cy.mp (cy.mp Ed kd k.mem) (n-1) (da.mpr (by omega)));rw[Nat.sub_add_cancel a]at this;exact DR (this p (da.mpr hp))
noncomputable def vH(B:List yx)(s k:Nat):Nat:=match(B.getD s [])[k]? with|some (.awa b _)=>b.toNat|_=>0
noncomputable def vK(b:Int)(n:Nat)(B:List yx)(q:Nat×Nat):Bool:=qS b n 1 (lx B q.1 q.2) && [(q.1,vH B q.1 q.2),(0,vH B q.1 q.2),(q.1,(q.1+1)%n)].any λx=>decide (x.1<n/\x.2<n/\x.1≠x.2) && qQ b (lx B q.1 q.2) x.1 x.2 0
theorem DW:([("shared":Str),"own","tree"].all λkd=>(List.range 7).all λn=>(Y8 (cV kd (n+2) 1)).all (vK (dU kd (n+2)) (n+2) (cV kd (n+2) 1)))=true:=by decide+kernel
theorem Ff{n s k:Nat}(K:K4 kd)(ns:kd≠"spread")(e:2<=n)(f:n<=8)(h:(s,k)∈Y8 (cV kd n 1)):nr (dU kd n) n 1 (lx (cV kd n 1) s k)/\∃a o,a<n/\o<n/\a≠o/\qQ (dU kd n) (lx (cV kd n 1) s k) a o 0=true:=by
 have c:kd∈[("shared":Str),"own","tree"]:=by
  rcases K with rfl|rfl|rfl|rfl
  . simp
  . simp
  . exact absurd J ns
  . simp
 have:=cy.mp (cy.mp DW kd c) (n-2) (da.mpr (by omega));rw[Nat.sub_add_cancel e]at this;have:=cy.mp this _ h;unfold vK at this;rw[cg,List.any_eq_true]at this;obtain⟨d,x,_,b⟩:=this;rw[cg,decide_eq_true_eq]at b;exact⟨wK d,x.1,x.2,b.1.1,b.1.2.1,b.1.2.2,b.2⟩
noncomputable abbrev Xc:Stmt:=bA 94
noncomputable def vG:Stmt->List Expr|.Assign t _ _=>t|_=>[]
theorem pQ{e a:Expr}{t:TE}(h:e=a)(p:PE X a t):PE X e t:=h▸p
noncomputable def nE:Expr:=.Name "" default
noncomputable def dV:Stmt->List Expr|.Assign _ (.Dict _ vs _) _=>vs|_=>[]
noncomputable def Mi:Stmt->List (Option Expr)|.Assign _ (.Dict ks _ _) _=>ks|_=>[]
noncomputable def dP:Stmt->Pos|.Assign _ (.Dict _ _ p) _=>p|_=>default
noncomputable def aV:Stmt->Expr|.Assign _ e _=>e|_=>nE
noncomputable def aP:Stmt->Pos|.Assign _ _ p=>p|_=>default
abbrev Yv(i:Nat):Stmt:=(wy Xc).getD i dF
theorem FW:∃e1 e2 b a:Expr,wy Xc=[Yv 0,Yv 1,Yv 2,Yv 3,Yv 4,Yv 5,.Assign (vG (Yv 6)) (.Dict (Mi (Yv 6)) [e1,e2,b] (dP (Yv 6))) (aP (Yv 6)),.Assign (vG (Yv 7)) a (aP (Yv 7)),Yv 8,Yv 9,Yv 10]/\e1=(dV (Yv 6)).getD 0 nE/\e2=(dV (Yv 6)).getD 1 nE/\b=(dV (Yv 6)).getD 2 nE/\a=aV (Yv 7):=⟨_,_,_,_,J,J,J,J,J⟩
inductive mv(vs:List V)(H:Hp)(Q:VK)(e0:XK):Prop|mk:∀(kd:Str)(n p:Nat)(v:V),vs=[.str kd,.int (n:Int),.int (p:Int),v]->K4 kd->1<=n->n<=8->p<=3->Is H (eH (hk kd n p)) v->mF kd n p->(∀H',zg H H'->Q (.bl true) H')->mv vs H Q e0
section
variable{K:W.Frag}
theorem Br:aA ["kind","n","p","house","rounds","far","boxes","waits","depth","due"] ["kind","n","p","house"] (ze Xc):=.of
theorem Ix (D:bH K mg "_law_aright" Xc) (oC:Ok P w K mg base "cost" 27 ["house"] mo) (oL:Ok P w K mg base "is_plain" 27 ["house"] lS):Ok P w K mg base "_law_aright" 28 ["kind","n","p","house"] mv:=by
 refine wj (k:=27) D Br ?_;rintro f a2 A av s H vs Q E hr ⟨b,n,p,v,rfl,k4,h1,h8,h3,hv,O,kk⟩ X;have o:=Br.nd;have hu:=jk hr;obtain⟨e1,e2,e3,e4,M,x1,x2,x3,x4⟩:=FW;rw[M];have p1:=pQ (X:=X) x1 (y0 (za zh (za (yk qm (pv 1) (pv 2)) zc)));have p2:=pQ (X:=X) x2 (y0 (za (pv 1) (za (yk qm (yk qm (pv 1) (yk Wu (pv 1) zh)) (pv 2)) zc)));have p3:=pQ (X:=X) x3 (y0 (za (yk qm (pv 1) (pv 4)) (za (yk qm (yk qm (pv 1) (pv 4)) (pv 2)) zc)));have p4:=pQ (X:=X) x4 (y0 (za (pv 1) (za (yk qm (yk qm zh (yk Wu (pv 1) zh)) (pv 2)) zc)));refine⟨_,zb (zr (i:=4) o zh) (zb (zr (i:=5) o zh) (zb (K7 PassesOwn.never (zo We (pv 5) (pv 1) (zx _)) (zb (zr (i:=4) o (yk wr (pv 4) zh)) (zf (zr (i:=5) o (yk qm zh (pv 5)))))) (zb (sP (yc oC hr (za (pv 3) zc)) (jw J (yn (zk (i:=6) o) (yn (zk (i:=7) o) (yn (zk (i:=8) o) ql))))) (zb (yg (zo Wd (yc oL hr (za (pv 3) zc)) (pR (qg Wd (pv 0) zy (zx _)) (pR (qg We (pv 1) zh (zx _)) (j6 (qg We (pv 2) zh (zx _))))) (zx _)) (zf (zj wn)) zn) (zb (yg (PW.pt (Zt (zo We (pv 1) zh (zx _)) (j3 (zo We (pv 2) zh (zx _))))) (zf (zj wn)) zn) (zb (zr (i:=9) o (E1 (K8 zy p1 (K8 zy p2 (K8 zy p3 E7))) J J (List.cons_ne_nil _ _) (by decide)))
  (zb (Yw hu (pv 9) zy p4 (by rw[x4];rfl))
  (zb (yg (zo (tK (by exact hr.units)) (y0 (za (pv 6) (za (pv 7) zc))) (wo hu (pv 9) (pv 0)) (zx _)) (zf (zj wn)) zn) (zb (yg (PW.pt (Zt (PW.pt (Xe (zo xz (pv 0) zy (zx _)) (Vt (zo Wd (pv 8) (pv 2) (zx _))))) (j3 (PW.pt (Xe (zo xz (pv 0) zy (zx _)) (Vt (zo Wd (pv 8) (yk qm (pv 4) (pv 2)) (zx _)))))))) (zf (zj wn)) zn) (zf (zj wn))))))))))),?_⟩
 have FF:=O.B.flat;refine⟨λm σ H'=>H'=H/\∃(r d:Nat),r+mT n m d=fA n/\n<=d*2^m/\r+m=5/\d<=32/\σ=[some (.str b),some (.int (n:Int)),some (.int (p:Int)),some v,some (.int (r:Int)),some (.int (d:Int)),none,none,none,none],⟨5,J,0,1,Nat.zero_add _,by omega,J,by omega,J⟩,?_⟩;rintro m σ H1 ⟨rfl,r,d,aK,hn,hm,a1,rfl⟩;refine⟨_,_,J,J,_,J,ki (λc=>?_) (λc=>?_)⟩
 . have c:d<n:=by have:=ce c;omega
   obtain⟨m,rfl⟩:∃m',m=m'+1:=by cases m with|zero=>rw[Nat.pow_zero,Nat.mul_one]at hn;omega|succ m=>exact⟨m,J⟩
   refine⟨_,λt H' z=>⟨m,by omega,z⟩,?_⟩;refine⟨_,_,J,J,_,_,J,J,Qe (by omega) (by omega) (by omega) (by omega),J,r+1,2*d,?_,?_,by omega,by omega,J⟩
   . have e:mT n (m+1) d=mT n m (2*d)+1:=if_pos c;omega
   . rw[Nat.pow_succ]at hn;have:2*d*2^m=d*(2^m*2):=by rw[Nat.mul_comm 2 d,Nat.mul_assoc,Nat.mul_comm 2]
     omega
 have c:¬d<n:=λz=>c (bn (by omega));obtain rfl:r=fA n:=by cases m with|zero=>exact aK| succ m=>have e:mT n (m+1) d=0:=if_neg c;omega
 have r5:fA n<=5:=by omega
 refine⟨hk b n p,v,kX (dU b n) n (cV b n p),J,hv,FF,O.few,El FF O.B.len,λn0 a H1 s1 ah g1=>?_⟩;have hS:2<=n->1<=p->b="shared"->jS (kX (dU b n) n (cV b n p)) (eB (hk b n p) (dC (ym (hk b n p) [] n0).wov))=(p:Int):=λh2 F e=>yL ((O.cst h2 F).2.1 e) n0 ah;have hP:2<=n->1<=p->b="spread"->jS (kX (dU b n) n (cV b n p)) (eB (hk b n p) (dC (ym (hk b n p) [] n0).wov))=(fA n:Int)*(p:Int):=λh2 F e=>yL ((O.cst h2 F).2.2 e) n0 ah;generalize jS (kX (dU b n) n (cV b n p)) (eB (hk b n p) (dC (ym (hk b n p) [] n0).wov))=dp at hS hP g1;have g1:H1 a=some (.tup [.int (jR (hk b n p)),.int (lc (hk b n p)),.int dp]):=g1;refine⟨a,_,J,aE.of g1,J,_,_,J,_,_,J,_,_,J,J,?_⟩;dsimp only[km,pK,Ends.sq,nD,tC,pU];refine uk (t:=pJ _ _ _) (λt G=>t=[some (.str b),some (.int (n:Int)),some (.int (p:Int)),some v,some (.int (fA n:Int)),some (.int (d:Int)),some (.int (jR (hk b n p))),some (.int (lc (hk b n p))),some (.int dp),none]/\zg H1 G) ?_ (λfin=>?_)
 . rintro t G ⟨rfl,sG⟩;have x:=s1.trans sG;refine⟨_,_,J,J,_,J,ki (λ_=>kk _ x) (λl=>?_)⟩;refine⟨_,_,J,J,_,J,ki (λ_=>kk _ x) (λc3=>?_)⟩;have n2:2<=n:=Classical.byContradiction λz=>l (bn (by omega));have C:1<=p:=Classical.byContradiction λz=>c3 (bn (by omega));obtain⟨aS,_⟩:=O.cst n2 C;intro g L;have R:=zg.new L (.dK []);have g2:upd G g (.dK []) g=some (.dK []):=zd;generalize upd G g (.dK [])=G2 at R g2⊢;have nn:(n:Int)*(fA n:Int)<=40:=by exact_mod_cast Nat.mul_le_mul h8 r5
   have aw:0<=(n:Int)*(fA n:Int):=by exact_mod_cast bj (n*fA n)
   have nm:(n:Int)*((n:Int)-1)<=64:=by have:(n:Int)*((n:Int)-1)<=8*8:=Int.mul_le_mul (by omega) (by omega) (by omega) (by omega);omega
   have ay:0<=(n:Int)*((n:Int)-1):=Int.mul_nonneg (by omega) (by omega);refine⟨_,_,J,J,Qe (by omega) (by omega) (by omega) (by omega),by show 2<=1000;decide,λk G3 s3 n3 g3=>?_⟩;refine⟨_,_,J,J,_,_,J,J,Qe (by omega) (by omega) (by omega) (by omega),_,_,J,J,Qe ay (by omega) (by omega) (by omega),by show 2<=1000;decide,λj G4 s4 n4 g4=>?_⟩;refine⟨_,_,J,J,Qe (by omega) (by omega) (by omega) (by omega),_,_,J,J,Qe (by omega) (by omega) (by omega) (by omega),_,_,J,J,Qe aw (by omega) (by omega) (by omega),by show 2<=1000;decide,λi G5 s5 n5 g5=>?_⟩;have u:=s3.trans (s4.trans s5);refine⟨u _ _ g2,[(.inr "shared",.ref k),(.inr "own",.ref j),(.inr "spread",.ref i)],J,(show 3<=15 by decide),?_⟩;have aq:=s3.trans s4;have Z:=(upd_ne (o:=.dK (jd [] [(.inr "shared",.ref k),(.inr "own",.ref j),(.inr "spread",.ref i)])) (show k≠g from λz=>by rw[z,s3 _ _ g2]at g3;cases g3)).trans ((s4.trans s5) _ _ g3);have W:=(upd_ne (o:=.dK (jd [] [(.inr "shared",.ref k),(.inr "own",.ref j),(.inr "spread",.ref i)])) (show j≠g from λz=>by rw[z,aq _ _ g2]at g4;cases g4)).trans (s5 _ _ g4);have U:=(upd_ne (o:=.dK (jd [] [(.inr "shared",.ref k),(.inr "own",.ref j),(.inr "spread",.ref i)])) (show i≠g from λz=>by rw[z,u _ _ g2]at g5;cases g5)).trans g5;have g6:upd G5 g (.dK (jd [] [(.inr "shared",.ref k),(.inr "own",.ref j),(.inr "spread",.ref i)])) g=some (.dK (jd [] [(.inr "shared",.ref k),(.inr "own",.ref j),(.inr "spread",.ref i)])):=zd;have s6:zg G (upd G5 g (.dK (jd [] [(.inr "shared",.ref k),(.inr "own",.ref j),(.inr "spread",.ref i)]))):=qa (R.trans u) L;generalize upd G5 g (.dK (jd [] [(.inr "shared",.ref k),(.inr "own",.ref j),(.inr "spread",.ref i)]))=G6 at Z W U g6 s6⊢;refine⟨_,_,J,J,_,_,J,J,Qe (by omega) (by omega) (by omega) (by omega),_,_,J,J,Qe (by omega) (by omega) (by omega) (by omega),by show 2<=1000;decide,λS G7 N n7 g7=>?_⟩;refine⟨g,_,J,Jc.k (k:=.inr "tree") (N _ _ g6) (show 3<sizeLine by decide),?_⟩;have nq:∀{q:Y}{xs:List V},G7 q=some (.tup xs)->upd G7 g (.dK (vi (jd [] [(.inr "shared",.ref k),(.inr "own",.ref j),(.inr "spread",.ref i)]) (.inr "tree") (.ref S))) q=some (.tup xs):=λ{q xs} e=>by rw[upd_ne (λz=>by rw[z,N _ _ g6]at e;cases e)];exact e
   have Z:=nq (N _ _ Z);have W:=nq (N _ _ W);have U:=nq (N _ _ U);have t4:=nq g7;have g8:upd G7 g (.dK (vi (jd [] [(.inr "shared",.ref k),(.inr "own",.ref j),(.inr "spread",.ref i)]) (.inr "tree") (.ref S))) g=_:=zd;have s8:zg G (upd G7 g (.dK (vi (jd [] [(.inr "shared",.ref k),(.inr "own",.ref j),(.inr "spread",.ref i)]) (.inr "tree") (.ref S)))):=qa (s6.trans N) L;generalize upd G7 g (.dK (vi (jd [] [(.inr "shared",.ref k),(.inr "own",.ref j),(.inr "spread",.ref i)]) (.inr "tree") (.ref S)))=G8 at Z W U t4 g8 s8⊢;refine⟨by show 2<=1000;decide,λq5 G9 s9 n9 g9=>?_⟩;obtain⟨pd,aa,ap⟩:∃pd,yz (vi (jd [] [(.inr "shared",.ref k),(.inr "own",.ref j),(.inr "spread",.ref i)]) (.inr "tree") (.ref S)) (.inr b)=some (.ref pd)/\G8 pd=some (.tup [.int (pD b n p (fA n)).1,.int (pD b n p (fA n)).2]):=by
    rcases k4 with rfl|rfl|rfl|rfl
    . exact⟨k,J,Z⟩
    . exact⟨j,J,W⟩
    . exact⟨i,J,U⟩
    . exact⟨S,J,t4⟩
   rw[<-aS]at ap;have ix:∀{q:Y},G9 q=some (.tup [.int (jR (hk b n p)),.int (lc (hk b n p))])->Is G9 (tI [jR (hk b n p),lc (hk b n p)]) (.ref q):=λ{q} e=>⟨q,_,J,e,IsL.ints.mpr J⟩
   refine⟨g,.ref pd,J,aa▸DGet.k (k:=.inr b) (s9 _ _ g8),tI [jR (hk b n p),lc (hk b n p)],tI [jR (hk b n p),lc (hk b n p)],ix g9,ix (s9 _ _ ap),Wy _,Wy _,?_,_,J,?_⟩
   . unfold tI aO PyData.depth;rw[Zz];decide
   rw[SeqAt.eqv_refl _ (Wy _)];refine yi ?_;have B:=x.trans (s8.trans s9);refine⟨J,_,J,ki (λc=>?_) (λc=>?_)⟩
   . have c:b="shared":=V.str.inj (ce c);rw[hS n2 C c];refine⟨J,_,J,?_⟩;rw[bn J];refine yi ⟨J,_,J,ki (λl=>?_) (λ_=>?_)⟩
     . have l:b="spread":=V.str.inj (ce l);rw[c]at l;exact absurd l (by decide+kernel)
     . exact yi (kk _ B)
   . refine yi ⟨J,_,J,ki (λl=>?_) (λ_=>yi (kk _ B))⟩;have l:b="spread":=V.str.inj (ce l);rw[hP n2 C l];refine⟨_,_,J,J,Qe (by omega) (by omega) (by omega) (by omega),J,_,J,?_⟩;rw[bn J];exact yi (kk _ B)
 . refine⟨hk b n p,v,J,hv.mono s1,FF,λH2 R=>?_⟩;rw[O.pl];refine⟨J,_,J,ki (λc=>?_) (λc=>?_)⟩
   . have e:b≠"shared":=λz=>by rw[z,bn J]at c;cases c
     rw[bn e,Bool.true_or];refine⟨J,_,J,?_⟩;exact yi (fin _ _ ⟨J,R⟩)
   . have e:b="shared":=Classical.byContradiction λz=>c (by rw[c6 λy=>z (V.str.inj y)];rfl);rw[c6 (λz=>z e),Bool.false_or];refine⟨_,_,J,J,_,J,ki (λc=>?_) (λc=>?_)⟩
     . rw[bn (show n<2 by have:=ce c;omega),Bool.true_or];refine⟨J,_,J,?_⟩;exact yi (fin _ _ ⟨J,R⟩)
     . rw[c6 (show¬n<2 from λz=>c (bn (by omega))),Bool.false_or];refine⟨_,_,J,J,J,_,J,?_⟩;have e2:decide ((p:Int)<1)=decide (p<1):=by
        by_cases h:p<1
        . rw[bn h,bn (by omega)]
        . rw[c6 h,c6 (by omega)]
       rw[e2,bn J];exact yi (fin _ _ ⟨J,R⟩)
end
noncomputable abbrev J7:Stmt:=bA 95
section
inductive dR(x y:V)(H:Hp)(Q:VK):Prop|mk:∀(ts:List T)(i:Nat)(t:T),Is H (.tup ts) x->y=.int (i:Int)->ts[i]?=some t->(∀v,Is H t v->Q v H)->dR x y H Q
theorem Yl:qY X dR:=by intro p b c s f H x y v u Q I l k h n;obtain⟨w,i,t,o,rfl,e,q⟩:=h;obtain⟨a,g,r,rfl,j,d,m⟩:=Is.at o e;exact zp p b c s f H _ _ v u Q I l k ⟨a,g,_,_,J,J,j,d,q _ m⟩ n
inductive kT(x y:V)(H:Hp)(Q:VK):Prop|mk:∀(ts us:List T),Is H (.tup ts) x->Is H (.tup us) y->ts.length+us.length<=1000->(∀v H',zg H H'->Is H' (.tup (ts++us)) v->Q v H')->kT x y H Q
theorem J9:cE X (binaryOp .Add) kT:=by intro a s c H x y v u Q I j g h;obtain⟨e,d,m,l,k,q⟩:=h;exact Gc a s c H x y v u Q I j g ⟨e,d,m.off0,l.off0,λb z=>z.elim,xj k,λv n f i=>q v n f i.off⟩
end
theorem Il{a:Type}{l:O a}(x:a)(h:i<l.length):l.take i++([x]++l.drop (i+1))=l.set i x:=by rw[List.set_eq_take_append_cons_drop,if_pos h];rfl
noncomputable def pT(q:Nat×Nat):T:=tI [(q.1:Int),(q.2:Int)]
theorem yS(ns:O (Nat×Nat)):qt (ns.map pT):=qt.all.mpr λt a=>by obtain⟨q,_,rfl⟩:=bz.mp a;exact vp _
inductive md(vs:List V)(H:Hp)(Q:VK)(e0:XK):Prop| mk:∀(hs:aB) (v:V) (a:Addr) (x:Int),vs=[.ref a,v]->Is H (eH hs) v->H a=some (.lst [.int x])->hs.ss.length<=20->(∀s∈hs.ss,s.length<=80)->(Y8 hs.ss).length<=100->(∀H',zg H H'->Y8 hs.ss=[]->Q .non H')->
   (∀s k v' H',(s,k)∈Y8 hs.ss->Cg a H H'->Is H' (eH ⟨hs.b,hs.w,hs.fs,lx hs.ss s k⟩) v'->Q v' H')->md vs H Q e0
section
variable{K:W.Frag}
theorem A0:aA ["tape","house","some","s","k","script"] ["tape","house"] (ze J7):=.of
theorem FZ(D:bH K mg "_law_aleft_out" J7)(T:Txt K mg)(oD:Ok P w K mg base "_law_adigit" 1 ["tape","many"] jJ):Ok P w K mg base "_law_aleft_out" 2 ["tape","house"] md:=by
 refine wj (k:=1) D A0 ?_;rintro f bN A bb s H vs Q E hr ⟨h,v,a,x,rfl,hv,ha,bM,S,bK,kn,ky⟩ X;have nd:=A0.nd;have hu:=jk hr;refine⟨_,zb (zr (i:=2) nd (vk zc)) (zb (wa PassesOwn.never J (wm J T.range (za (yd yp J T.len qd (za (zt Yl (pv 1) zh) zc)) zc)) (zk (i:=3) nd) (zf (we (Zv PySem.F.plainAttrs_list PySem.F.slot_list_extend PySem.F.type_list_extend Yk (pv 2) (za (qj (own:=["k"]) (cap:=[1,3]) J (yv (ze J7) J J (by decide+kernel) (by decide+kernel) (by decide+kernel) ⟨⟨_,J,.inl J,vm J⟩,⟨_,J,.inl J,vm J⟩,trivial⟩) (wm J T.range (za (yd yp J T.len qd (za (zt Yl (zt Yl (pv 1) zh) (pv 3)) zc)) zc)) (λ_ _ _ _=>zk (i:=0) (by show(["k","house","s"]:List Str).Nodup;decide+kernel)) (λ_ _ _ _=>js (zo xz (zt (r:=dR) Yl (zt (r:=dR) Yl (zt (r:=dR) Yl (zt (r:=dR) Yl (pv 1) zh (λ_ _=>rfl)) (pv 2) (λ_ _=>rfl)) (pv 0) (λ_ _=>rfl)) zh (λ_ _=>rfl)) zy (zx _))) (λ_ _ _ _=>y0 (za (pv 2) (za (pv 0) zc)))) zc)))))
  (zb (yg (zo (V2 (by exact hr.units)) (pv 2) (vk zc) (zx _)) (zf (zj Wt)) zn) (zb (sP (zt Zb (pv 2) (yc oD hr (za (pv 0) (za (yd yp J T.len qd (za (pv 2) zc)) zc)))) (jw J (yn (zk (i:=3) nd) (yn (zk (i:=4) nd) ql)))) (zb (zr (i:=5) nd (yk J9 (jo Jf (zt Yl (zt Yl (pv 1) zh) (pv 3)) Za (k9 (pv 4))) (jo Jf (zt Yl (zt Yl (pv 1) zh) (pv 3)) (k9 (yk wr (pv 4) zh)) Za))) (zf (zj (yk J9 (jo Jf (pv 1) Za (k9 zh)) (y0 (za (yk J9 (yk J9 (jo Jf (zt Yl (pv 1) zh) Za (k9 (pv 3))) (y0 (za (pv 5) zc))) (jo Jf (zt Yl (pv 1) zh) (k9 (yk wr (pv 3) zh)) Za)) zc))))))))),?_⟩
 refine⟨by show 0<=1000;decide,λl H1 s1 n1 g1=>?_⟩;have bi:=hv.mono s1;have na:a≠l:=λz=>by rw[z,n1]at ha;cases ha
 refine⟨_,3,.tup (h.ss.map eS),bi,J,J,λu t=>?_⟩;obtain⟨bE,aa,rfl,a6,a1⟩:=t;have sl:=a1.length;rw[ae]at sl;refine⟨bE,aa,J,.inr (aE.of a6),_,J,by omega,by omega,?_⟩;have hb:without [l] H1 l=none:=yf (by simp);have s0:zg H (without [l] H1):=s1.without λm hm=>by rw[ai.mp hm];exact n1
 have oi:∀i,((List.range i).flatMap λs=>mL s (h.ss.getD s [])).length<=i*80:=λi=>by
  induction i with|zero=>exact ag _| succ i ih=>
    rw[List.range_succ,List.flatMap_append,c7,List.flatMap_singleton];have:(mL i (h.ss.getD i [])).length<=80:=by unfold mL;rw[ae];refine cj (dm _ _) ?_;rw[cz,c8];cases e:h.ss[i]? with|none=>exact bj _|some s=>exact S s (br e)
    omega
 refine Zn (lo:=0) (n:=(aa.length:Int).toNat) (λi σ G=>∃(x3:Option V)(p:List V),σ=[some (.ref a),some v,some (.ref l),x3,none,none]/\Gw (without [l] H1) G l (((List.range i).flatMap λs=>mL s (h.ss.getD s [])).map pT) p)
  ⟨none,[],J,y9,g1,J⟩ ?_ ?_
 . rintro i σ G hi ⟨x3,p,rfl,g⟩;rw[ci]at hi;have R:i<h.ss.length:=by omega
   rw[di];have aK:=(hv.mono s0).mono g.same;have y:(h.ss.map eS)[i]?=some (eS h.ss[i]):=by rw[aj,bo R];rfl
   have bI:=S _ (List.getElem_mem R);have W:h.ss.getD i []=h.ss[i]:=by rw[c8,bo R];rfl
   refine⟨.inl ⟨J,_,aI.of g.at'⟩,_,3,.tup (h.ss.map eS),aK,J,J,λu t=>⟨_,i,eS h.ss[i],t,J,y,λu2 r=>?_⟩⟩;obtain⟨aS,xS,rfl,bD,bx⟩:=id r;have a7:=bx.length;rw[ae]at a7;refine⟨aS,xS,J,.inr (aE.of bD),_,J,by omega,by omega,?_⟩;let aw:Nat->List (Nat×Nat):=λj=>((List.range j).filter λk=>((h.ss[i][k]?).map Ya).getD false).map λk=>(i,k)
   refine j7 (lo:=0) (n:=(xS.length:Int).toNat) (λj B Z=>zg G Z/\IsL Z ((aw j).map pT) B) ⟨zg.refl _,J⟩ (λj B Z hj ⟨_,e⟩=>?_) ?_ ?_
   . rw[e.length,ae,ae];refine cj (dm _ _) ?_;rw[cz,sizeLine_eq];rw[ci]at hj;omega
   . rintro j B Z hj ⟨sj,U⟩;rw[ci]at hj;have a3:j<h.ss[i].length:=by omega
     rw[di];have hd:(h.ss[i].map eD)[j]?=some (eD h.ss[i][j]):=by rw[aj,bo a3];rfl
     obtain⟨rr,bl⟩:=Zy h.ss[i][j];refine⟨_,3,.tup (h.ss.map eS),aK.mono sj,J,J,λu t=>⟨_,i,eS h.ss[i],t,J,y,λu2 r=>⟨_,j,eD h.ss[i][j],r,J,hd,λu3 bd=>⟨_,0,.str (dw h.ss[i][j]),(bl▸bd),J,J,λu4 bc=>?_⟩⟩⟩⟩;cases(show u4=.str (dw h.ss[i][j])from bc);refine⟨J,_,J,?_⟩;have ed:decide (V.str (dw h.ss[i][j])=V.str "await")=Ya h.ss[i][j]:=by cases h.ss[i][j]<;>rfl
     have et:aw (j+1)=aw j++if Ya h.ss[i][j]=true then[(i,j)]else[]:=by show((List.range (j+1)).filter _).map _=_;rw[List.range_succ,List.filter_append,be];congr 1;rw[List.filter_cons,bo a3];show List.map _ (if Ya h.ss[i][j]=true then[j]else[])=_;cases Ya h.ss[i][j]<;>rfl
     rw[ed];cases ca:Ya h.ss[i][j]with| true=>rw[ca,if_pos J]at et;refine ww ⟨by show 2<=1000;decide,λp3 G3 s3 n3 g3=>⟨sj.trans s3,?_⟩⟩;rw[et,be];exact qy (U.mono s3) (ji ⟨p3,_,J,g3,IsL.ints.mpr J⟩)| false=>rw[ca,if_neg bu,cq]at et;refine yi ⟨sj,?_⟩;rw[et];exact U
   . rintro B Z ⟨sj,U⟩ l3 bB;rw[ci,a7]at U;have s4:=zg.new bB (.lst B);have g4:upd Z l3 (.lst B) l3=some (.lst B):=zd;generalize upd Z l3 (.lst B)=G4 at s4 g4⊢;have ap:=sj.trans s4;have ew:aw h.ss[i].length=mL i (h.ss.getD i []):=by rw[W];rfl
     rw[ew]at U;have zl:=U.length;have yl:=g.it.length;rw[ae]at zl yl;have o1:=oi (i+1);rw[List.range_succ,List.flatMap_append,c7,List.flatMap_singleton,<-zl,<-yl]at o1;refine⟨l,l3,p,B,J,J,ap _ _ g.at',g4,by rw[sizeLine_eq];omega,?_⟩;refine⟨_,p++B,J,?_⟩;rw[List.range_succ,List.flatMap_append,be,List.flatMap_singleton];exact g.apps hb (yS _) (yS _) ap (U.mono s4)
 rintro σ G ⟨x3,p,rfl,g⟩;rw[ci,sl]at g;have g:Gw (without [l] H1) G l ((Y8 h.ss).map pT) p:=g;have sG:=s0.trans g.same;have yl:=g.it.length;rw[ae]at yl;have eG:(Y8 h.ss).map pT=((Y8 h.ss).map λq=>[(q.1:Int),(q.2:Int)]).map tI:=by rw[bp];rfl
 obtain⟨y1,y2⟩:=ub ((Y8 h.ss).map λq=>[(q.1:Int),(q.2:Int)]);rw[<-eG]at y1 y2;refine⟨by show 0<=1000;decide,λl5 H5 C n5 g5=>?_⟩;refine⟨.lst ((Y8 h.ss).map pT),.lst [],⟨l,p,J,C _ _ g.at',g.it.mono C⟩,⟨l5,[],J,g5,J⟩,y1,by decide,y2,_,J,?_⟩;cases eo:Y8 h.ss with|nil=>exact ww (kn _ (sG.trans C) eo)| cons q0 qs=>
   have e:PyData.eqv (aO (.lst ((q0::qs).map pT))) (aO (.lst []))=false:=by simp[aO,qh,PyData.eqv,PyData.eqvAll]
   rw[e];refine yi ?_;clear e;have a8:=C _ _ g.at';have bg:=g.it.mono C;have a5:=(sG.trans C) _ _ ha;have aD:0<p.length:=by rw[yl,eo];exact Nat.succ_pos _
   refine⟨l,p,J,.inl (aI.of a8),a,x,_,J,a5,by omega,by omega,λd d0 d1=>?_⟩;obtain⟨j,rfl⟩:∃j:Nat,d=(j:Int):=⟨d.toNat,by omega⟩
   have hj:j<p.length:=by omega
   have a2:j<(Y8 h.ss).length:=by omega
   obtain⟨u,e1,e2⟩:=bg.get (i:=j) (t:=pT (Y8 h.ss)[j]) (by rw[aj,bo a2];rfl);have hq:(Y8 h.ss)[j]∈Y8 h.ss:=List.getElem_mem a2;generalize (Y8 h.ss)[j]=q at e2 hq;have tu:yw H5 (upd H5 a (.lst [.int (x/(p.length:Int))])):=λc xs e=>by rw[upd_ne (λz=>by rw[z,a5]at e;cases e)];exact e
   have bt:Cg a H (upd H5 a (.lst [.int (x/(p.length:Int))])):=λb o nb e=>by rw[upd_ne nb];exact(sG.trans C) _ _ e
   have l6:upd H5 a (.lst [.int (x/(p.length:Int))]) l=some (.lst p):=(upd_ne (ak na)).trans a8;have iq:=e2.tups tu (vp _);have iv:Is (upd H5 a (.lst [.int (x/(p.length:Int))])) (eH h) v:=(hv.mono (sG.trans C)).tups tu (W6 _);generalize upd H5 a (.lst [.int (x/(p.length:Int))])=H6 at bt l6 iq iv⊢;refine⟨l,p,_,u,J,J,aI.of l6,xt e1,?_⟩;obtain⟨aq,xq,rfl,bC,N⟩:=iq;have N:=IsL.ints.mp N;subst N;refine⟨aq,_,J,aE.of bC,J,_,_,J,_,_,J,J,?_⟩;obtain⟨n,bk,bw⟩:=List.mem_flatMap.mp hq;obtain⟨k',bL,rfl⟩:=bz.mp bw;have M:n<h.ss.length:=da.mp bk;have y:h.ss[n]?=some h.ss[n]:=bo M;have W:h.ss.getD n []=h.ss[n]:=by rw[c8,y];rfl
   have bJ:=S _ (List.getElem_mem M);have F:(h.ss.map eS)[n]?=some (eS h.ss[n]):=by rw[aj,y];rfl
   refine⟨_,3,.tup (h.ss.map eS),iv,J,J,λu t=>⟨_,n,eS h.ss[n],t,J,F,λu2 r=>⟨_,J,h.ss[n].map eD,r,λv7 H7 s7 i7=>?_⟩⟩⟩;refine⟨_,3,.tup (h.ss.map eS),iv.mono s7,J,J,λu t=>⟨_,n,eS h.ss[n],t,J,F,λu2 r=>⟨_,_,J,J,_,J,h.ss[n].map eD,r,λv8 H8 s8 i8=>?_⟩⟩⟩;rw[rL]at i7;rw[uz]at i8;refine⟨_,_,i7.mono s8,i8,by rw[cx,List.length_drop,ae];omega,λv9 H9 s9 i9=>?_⟩;rw[<-List.map_take,<-List.map_drop,<-be]at i9;have av:=s7.trans (s8.trans s9);have L:=iv.mono av;refine⟨_,J,_,L,λva Ha sa ia=>?_⟩;refine⟨_,3,.tup (h.ss.map eS),L.mono sa,J,J,λu t=>⟨_,J,_,t,λvb Hb sb ib=>?_⟩⟩;refine⟨by show 1<=1000;decide,λq Hc sc nc gc=>?_⟩;have lt:(h.ss.map eS).length=h.ss.length:=ae _;rw[rL]at ib;refine⟨_,[eS (h.ss[n].take k'++h.ss[n].drop (k'+1))],ib.mono sc,⟨q,_,J,gc,_,_,J,i9.mono (sa.trans (sb.trans sc)),J⟩,by rw[cx,lt];show _+1<=_;omega,λvd Hd sd bh=>?_⟩;have ba:=sa.trans (sb.trans (sc.trans sd));refine⟨_,3,.tup (h.ss.map eS),L.mono ba,J,J,λu t=>⟨_,_,J,J,_,J,_,t,λve He se ie=>?_⟩⟩;rw[uz]at ie;refine⟨_,_,bh.mono se,ie,by rw[c7,cx,List.length_drop,lt];show _+1+_<=_;omega,λvf Hf sf ay=>?_⟩;rw[List.append_assoc,Il _ (by rw[lt];exact M),<-List.map_set]at ay
   refine⟨by show 1<=1000;decide,λq2 Hg sg ng gg=>?_⟩;have ah:=sb.trans (sc.trans (sd.trans (se.trans (sf.trans sg))));refine⟨_,[.tup ((h.ss.set n (h.ss[n].take k'++h.ss[n].drop (k'+1))).map eS)],ia.mono ah,⟨q2,_,J,gg,_,_,J,ay.mono sg,J⟩,by show 4<=1000;decide,λvh Hh sh ih=>?_⟩;refine ky n k' vh Hh hq (λb o nb e=>sh _ _ (ah _ _ (sa _ _ (av _ _ (bt b o nb e))))) ?_;unfold lx;rw[W];exact ih
end
noncomputable abbrev rQ:Stmt:=bA 96
structure pf(mg:Str->Option Value):Prop where
 max:mg "max"=none
 min:mg "min"=none
 set:mg "set"=none
theorem Dp:bootBuiltins "min"=some (.builtin "min"):=by decide+kernel
inductive kM(xs:List V)(H:Hp)(Q:VK):Prop|mk:∀b:Bool,xs=[.bl b]->Q (.int (if b=true then 1 else 0)) H->kM xs H Q
theorem GS:jp X (.type "int") kM:=by intro a s d H e f Q I r h;obtain⟨b,rfl,q⟩:=h;obtain⟨u,rfl,c⟩:=jz r;cases(show u=.bool b from c);exact call_int_bool ⟨.int _,H,I.tok _,⟨_,J⟩,q⟩
theorem rw{x:V}{A B:Prop}(h:B):if(!decide (x=x))=true then A else B:=by simp_all
theorem Fn{N:Nat}(c:a<N)(b:o<N)(h:a≠o):[(a:Int),(o:Int),((0:Nat):Int)]∈jl N 1:=List.mem_flatMap.mpr ⟨0,da.mpr (by decide),List.mem_flatMap.mpr ⟨o,da.mpr b,bz.mpr ⟨a,eh.mpr ⟨da.mpr c,bn h⟩,J⟩⟩⟩
inductive eN(K:W.Frag)(vs:List V)(H:Hp)(Q:VK)(e0:XK):Prop|mk:∀(a:Addr)(ns:List Int),vs=[.ref a]->aI K H a (ns.map V.int)->ns.length<=63->(∀H',Q (.bl true) H')->eN K vs H Q e0
section
variable{K:W.Frag}
theorem xP:aA ["script","start","tape","kind","n","p","house","found","less"] ["script"] (ze rQ):=.of
theorem DS{f0:Y}(F:iI K "law" "law" rQ f0 BY)(T:Txt K mg)(TL:pf mg)(oT:Ok P w K mg base "_law_atape" 2 ["script","k"] (lH K))(oD:Ok P w K mg base "_law_adigit" 1 ["tape","many"] jJ)(oM:Ok P w K mg base "made" 23 ["kind","n","p"] lZ)(oR:Ok P w K mg base "tried" 28 ["house","n","p"] lG)(oA:Ok P w K mg base "are_papers" 28 ["house","n","p","papers"] mw)(oG:Ok P w K mg base "_law_aright" 28 ["kind","n","p","house"] mv)(oL:Ok P w K mg base "_law_aleft_out" 2 ["tape","house"] md):cF P w K mg base fJ 30 f0 BY ["script"] (eN K):=by
 refine F.ok xP (λvs H Q E h=>by cases h;subst_vars;rfl) λba A aw sh H vs Q E y h=>?_;obtain⟨s,ns,rfl,hS,a8,kk⟩:=h;have t:=xP.nd;have rC:aQ 28 _:=y.mono (show 28<=29 by decide);refine⟨_,zb (wa PassesOwn.never J (HY (by rfl) T.range (za zh (za (yd (Bc (by rfl)) (by rfl) TL.max wR (za zh (za (yd (GU (by rfl)) (by rfl) TL.min Dp (za zh (za (yd yp (by rfl) T.len qd (za (pv 0) zc)) zc))) zc))) zc))) (zk (i:=1) t)
   (zb (zr (i:=2) t (yc oT (y.mono (by decide)) (za (pv 0) (za (pv 1) zc)))) (zb (zr (i:=3) t (zt Zb (vk (za zy (za zy (za zy (za zy zc))))) (yc oD (y.mono (by decide)) (za (pv 2) (za zh zc))))) (zb (zr (i:=4) t (yk wr zh (yc oD (y.mono (by decide)) (za (pv 2) (za zh zc))))) (zb (zr (i:=5) t (yc oD (y.mono (by decide)) (za (pv 2) (za (zt Zb (vk (za zh (za zh zc))) (w9 GS J T.int wQ (za (qg We (pv 4) zh (zx _)) zc))) zc)))) (zb (zr (i:=6) t (yc oM (y.mono (by decide)) (za (pv 3) (za (pv 4) (za (pv 5) zc))))) (zb (zr (i:=7) t (yc oR rC (za (pv 6) (za (pv 4) (za (pv 5) zc))))) (zb (yg (PW.pt (Zt (zo Wd (zt zp (pv 7) zh) zy (zx _)) (j3 (zo HS (yc oA rC (za (pv 6) (za (pv 4) (za (pv 5) (za (zt zp (pv 7) zh) zc))))) wn (zx _))))) (zf (zj wn)) zn) (zb (yg (xb (y6 (yc oG rC (za (pv 3) (za (pv 4) (za (pv 5) (za (pv 6) zc))))))) (zf (zj wn)) zn) (zb (zr (i:=8) t (yc oL (y.mono (by decide)) (za (pv 2) (za (pv 6) zc)))) (zf (yg (PW.pt (Xe (zo EW (pv 8) Wt (zx _)) (Xe (zo rO (pv 4) zh (zx _)) (Xe (zo xz (pv 5) zh (zx _)) (Xe (zo Wd (pv 3) zy (zx _)) (Vt (zo Wd (zt zp (yc oR rC (za (pv 8) (za (pv 4) (za (pv 5) zc)))) zh) zy (zx _)))))))) (zf (zj wn)) zn))))))))))))
  (zf (zj wn)),?_⟩
 refine⟨s,_,J,.inl hS,_,_,J,_,_,J,?_⟩;refine⟨0,_,J,⟨by decide,by decide,?_,?_⟩,?_⟩
 . split<;>(try split)<;>omega
 . split<;>(try split)<;>omega
 let Z:Nat->L2.St->Hp->Prop:=λi σ k=>zg H k/\∃x1 x2 x3 x4 x5 x6 x7 x8,σ=[some (.ref s),x1,x2,x3,x4,x5,x6,x7,x8];refine Zn (lo:=0) Z ⟨zg.refl H,none,none,none,none,none,none,none,none,J⟩ ?_ ?_
 . rintro i σ H1 hi ⟨s1,x1,x2,x3,x4,x5,x6,x7,x8,rfl⟩;rw[di];refine⟨s,ns,i,J,s1.seq hS,λa x ha=>?_⟩;have j:H a=none:=y7 s1 ha;have S2:zg H (upd H1 a (.lst [.int x])):=qa s1 j;have g2:upd H1 a (.lst [.int x]) a=some (.lst [.int x]):=zd;generalize upd H1 a (.lst [.int x])=H2 at S2 g2⊢;refine⟨by show 4<=1000;decide,λl3 H3 s3 n3 g3=>?_⟩;have ay:l3≠a:=λz=>by rw[z,g2]at n3;cases n3
   refine⟨a,x,4,J,s3 _ _ g2,by decide,by decide,λd d0 d4=>?_⟩;obtain⟨f,k4,a1⟩:∃f,K4 f/\cZ [V.str "shared",.str "own",.str "spread",.str "tree"] d=some (.str f):=by
    have:d=0\/d=1\/d=2\/d=3:=by omega
    rcases this with rfl|rfl|rfl|rfl
    . exact⟨_,.inl J,J⟩
    . exact⟨_,.inr (.inl J),J⟩
    . exact⟨_,.inr (.inr (.inl J)),J⟩
    . exact⟨_,.inr (.inr (.inr J)),J⟩
   have S4:zg H (upd H3 a (.lst [.int (x/4)])):=qa (S2.trans s3) j;have g4:upd H3 a (.lst [.int (x/4)]) a=some (.lst [.int (x/4)]):=zd;have l4:upd H3 a (.lst [.int (x/4)]) l3=_:=(upd_ne ay).trans g3;generalize upd H3 a (.lst [.int (x/4)])=H4 at S4 g4 l4⊢;refine⟨l3,_,_,_,J,J,aI.of l4,a1,?_⟩;refine⟨a,_,8,J,g4,by decide,by decide,λd2 e0 e8=>⟨_,_,J,J,?_⟩⟩;obtain⟨N,hN⟩:∃N:Nat,1+d2=(N:Int):=⟨(1+d2).toNat,by omega⟩
   rw[hN];have N1:1<=N:=by omega
   have N8:N<=8:=by omega
   have S5:zg H (upd H4 a (.lst [.int (x/4/8)])):=qa S4 j;have g5:upd H4 a (.lst [.int (x/4/8)]) a=some (.lst [.int (x/4/8)]):=zd;generalize upd H4 a (.lst [.int (x/4/8)])=H5 at S5 g5⊢;refine⟨by show 2<=1000;decide,λl6 H6 s6 n6 g6=>?_⟩;obtain⟨m,hm,a5⟩:∃m:Nat,(m=if N<5 then 4 else 2)/\cZ [V.int 2,.int 4] (if decide ((N:Int)<5)=true then 1 else 0)=some (.int (m:Int)):=by
    by_cases c:N<5
    . rw[if_pos (bn (by omega)),if_pos c];exact⟨4,J,J⟩
    . rw[if_neg c,if_neg (λz=>c (by have:=ce z;omega))];exact⟨2,J,J⟩
   have m0:0<m/\m<=4:=by split at hm<;>omega
   refine⟨_,_,J,J,_,J,l6,_,_,_,J,J,aI.of g6,a5,a,_,_,J,s6 _ _ g5,by omega,by omega,λd3 f0 f1=>?_⟩;obtain⟨p,rfl⟩:∃p:Nat,d3=(p:Int):=⟨d3.toNat,by omega⟩
   have hp:p<if N<5 then 4 else 2:=by rw[<-hm];omega
   have p3:p<=3:=by omega
   have S7:zg H (upd H6 a (.lst [.int (x/4/8/(m:Int))])):=qa (S5.trans s6) j;have g7:upd H6 a (.lst [.int (x/4/8/(m:Int))]) a=some (.lst [.int (x/4/8/(m:Int))]):=zd;generalize upd H6 a (.lst [.int (x/4/8/(m:Int))])=H7 at S7 g7⊢;have O:=DP k4 N1 N8 hp;have B:=O.B;refine⟨f,N,p,J,k4,N1,by omega,by omega,B.flat.law,λv H8 s8 iv=>?_⟩;have tl:(jl ((N:Int)).toNat ((p:Int)).toNat).length<64:=by rw[ci,ci];exact O.t64
   refine⟨hk f N p,v,N,p,J,iv,B.flat.law,B.made,λn0 a' r k G u C hh=>?_,λxx o q st a' r k G hx ho L S hh=>?_,λaf d n H9 s9 aK hf hd PP=>?_⟩
   . have:=B.all n0 u;rw[show bX (dU f N) N (cV f N p)=hk f N p from rfl,C]at this;cases this
   . rw[ci]at hx ho L;have:=Dm B hx ho L S (O.lk xx o q hx ho L);cases this
   refine⟨af,_,_,_,J,J,aE.of hf,J,J,_,J,rw ?_⟩;refine⟨af,_,_,_,J,J,aE.of hf,J,?_⟩;refine⟨hk f N p,v,N,p,d,n,J,iv.mono s9,B.flat,B.made,B.all,hd,PP,tl,λbc aq=>⟨_,_,J,J,_,J,yi ?_⟩⟩;have l:=s9.trans aq;refine⟨f,N,p,v,J,k4,N1,N8,p3,iv.mono l,O,λbb ap=>⟨_,J,yi ?_⟩⟩;have g:=l.trans ap;have X:=S7.trans (s8.trans g);refine⟨hk f N p,v,a,_,J,iv.mono g,g _ _ (s8 _ _ g7),?_,O.s80,O.o100,λD ah eo=>?_,λG k' v' D L bt M=>?_⟩
   . show(cV f N p).length<=20;unfold cV;rw[ae,cz];omega
   . exact⟨J,_,J,rw (yi ⟨X.trans ah,_,_,_,_,_,_,_,_,J⟩)⟩
   have a6:zg H D:=λb o e=>bt b o (λz=>by rw[z,j]at e;cases e) (X _ _ e);obtain⟨av,xv,rfl,_⟩:=id M;have next:∀{k},zg D k->Z (i+1) [some (.ref s),some (.int (i:Int)),some (.ref a),some (.str f),some (.int (N:Int)),some (.int (p:Int)),some v,some (.ref af),some (.ref av)] k:=λ{k} s=>⟨a6.trans s,_,_,_,_,_,_,_,_,J⟩
   refine⟨J,_,J,ww ?_⟩;refine⟨_,_,J,J,_,J,ki (λc1=>?_) (λ_=>yi (next (zg.refl _)))⟩;refine⟨J,_,J,ki (λc2=>?_) (λ_=>yi (next (zg.refl _)))⟩;refine⟨J,_,J,ki (λc3=>?_) (λ_=>yi (next (zg.refl _)))⟩;have n2:2<=N:=by have:=ce c1;omega
   obtain rfl:p=1:=by have:=V.int.inj (ce c2);omega
   have ns:f≠"spread":=λz=>by rw[z,bn J]at c3;cases c3
   obtain⟨B',aa,oo,U,R,aS,a3⟩:=Ff k4 ns n2 N8 L;refine⟨bX (dU f N) N (lx (cV f N 1) G k'),.ref av,N,((1:Nat):Int),J,M,B'.flat.law,B'.made,λn0 a' r k G u C hh=>?_,λxx o q st a' r k G hx ho L S hh=>?_,λaf d n H9 s9 aK hf hd PP=>?_⟩
   . have:=B'.all n0 u;rw[C]at this;cases this
   . exact⟨a',_,0,_,J,J,aE.of hh,(show cZ (_::r) ((0:Nat):Int)=_ from xt J),J,_,J,rw (next G)⟩
   . rw[ci,ci]at PP;obtain⟨a2,o2,q2,l2,a7,W,e2,e3,e4,e5⟩:=PP.2 [(aa:Int),(oo:Int),((0:Nat):Int)] (Fn U R aS);injection W with i1 W;injection W with i2 W;injection W with i3 _;obtain rfl:aa=a2:=by omega
     obtain rfl:oo=o2:=by omega
     obtain rfl:0=q2:=by omega
     have:=Cy B' U R (by decide) e5 a3;cases this
 . rintro σ H1 ⟨s1,x1,x2,x3,x4,x5,x6,x7,x8,rfl⟩;exact kk _
end
abbrev NS(K:W.Frag)(x:Str)(v:Option Value):Prop:=W.nsIn K mainGlobals x=some v
def FD(K:W.Frag)(x:Str)(st:Stmt)(f:Addr)(B:FuncData):Prop:=NS K x (some (.ref f))/\iI K x x st f B
def FE(K:W.Frag)(x:Str)(st:Stmt):Prop:=∃f fd,FD K x st f fd
def CI(K:W.Frag)(x:Str)(i:Int):Prop:=∃t,NS K x (some (.int i t))
def KT(K:W.Frag)(a:Addr)(xs:List Str):Prop:=∀H,aE K H a (xs.map V.str)
section
variable{K:W.Frag}{h:Heap}{x y z:Str}{f a C D N M:Addr}{kV doc pm cdv ct:Value}{b:Bool}{i:Int}{t u v:Tok}{n:Nat}
theorem oX(e:W.nsIn K mainGlobals x=some (some (.ref f)))(l:K.lookup f=some ⟨oc,od,.func (W.fnOf x x (ju st) (wy st) (ze st) .none kV doc pm an cdv ct),osl⟩)(c:W.codeIn K cdv x=true)(k:W.keepIn K (.ref f)=true):FD K x st f (W.fnOf x x (ju st) (wy st) (ze st) .none kV doc pm an cdv ct):=⟨e,si l c k⟩
theorem BX(e:W.nsIn K mainGlobals x=some (some (.ref f)))(l:K.lookup f=some ⟨oc,od,.func (W.fnOf x x (ju st) (wy st) (ze st) .none kV doc pm an cdv ct),osl⟩)(c:W.codeIn K cdv x=true)(k:W.keepIn K (.ref f)=true):FE K x st:=⟨_,_,oX e l c k⟩
theorem FE.d(X:K.In h)(G:h.Ns mainGlobals mg)(a:FE K x st):bH K mg x st:=let⟨f,b,e,F⟩:=a;⟨f,b,F,W.mg_of X G e⟩
theorem B2(e:W.nsIn K mainGlobals x=some (some (.int i t))):CI K x i:=⟨_,e⟩
theorem CI.d(X:K.In h)(G:h.Ns mainGlobals mg)(e:CI K x i):∃t,mg x=some (.int i t):=let⟨t,e⟩:=e;⟨t,W.mg_of X G e⟩
theorem Mm(l:K.lookup a=some ⟨.type "tuple",od,.seq #[.str x t,.str y u,.str z v] n,osl⟩):KT K a [x,y,z]:=λH=>.inr ⟨_,_,n,l,J,J,bO,.cons ⟨_,J⟩ (.cons ⟨_,J⟩ (.cons ⟨_,J⟩ .nil))⟩
theorem Ml{q:Str}{b:Tok}(l:K.lookup a=some ⟨.type "tuple",od,.seq #[.str x t,.str y u,.str z v,.str q b] n,osl⟩):KT K a [x,y,z,q]:=λH=>.inr ⟨_,_,n,l,J,J,bO,.cons ⟨_,J⟩ (.cons ⟨_,J⟩ (.cons ⟨_,J⟩ (.cons ⟨_,J⟩ .nil)))⟩
end
section
variable{K:W.Frag}{h:Heap}{x m q:Str}{f C:Addr}{fs:List Str}{kV doc pm cdv ct:Value}
def DI(K:W.Frag)(q:Str)(C:Addr)(st:Stmt):Prop:=∃f fd,iI K "__init__" q st f fd/\Mk K C f
theorem DI.d(X:K.In h)(G:h.Ns mainGlobals mg)(e:NS K x (some (.ref C)))(a:DI K q C st):le K mg x q C st:=let⟨f,b,F,M⟩:=a;⟨f,b,F,M,W.mg_of X G e⟩
theorem B1(l:K.lookup f=some ⟨oc,od,.func (W.fnOf "__init__" q (ju st) (wy st) (ze st) .none kV doc pm an cdv ct),osl⟩)(c:W.codeIn K cdv q=true)(k:W.keepIn K (.ref f)=true)(e:W.makesIn K C=true)(d:W.findIn K (.ref C) "__init__"=some (some (.ref f)))(b:W.isFn K (.ref f)=true)(a:W.keepIn K (.ref C)=true):DI K q C st:=⟨_,_,si l c k,e,d,b,a⟩
theorem B0(l:K.lookup f=some ⟨oc,od,.func (W.fnOf m q (ju st) (wy st) (ze st) .none kV doc pm an cdv ct),osl⟩)(c:W.codeIn K cdv q=true)(k:W.keepIn K (.ref f)=true)(b:W.findIn K (.ref C) m=some (some (.ref f)))(a:W.isFn K (.ref f)=true):q8 K C m q st:=⟨_,_,si l c k,b,a,k⟩
theorem B3(a:W.plainGet K C Str.empty=true)(b:W.hasDictIn K C=true)(c:W.plainOver K C=true)(d:W.findIn K (.ref C) "__setattr__"=some (some (.builtin "object.__setattr__")))(e:∀f∈fs,W.findIn K (.ref C) f=some none):aG K C fs:=⟨⟨a,b,c,d⟩,e⟩
end
theorem uK{l:W.OpenLaw}{K:W.Frag}{h:Heap}{fa fL j i kR m d kW kS:Y}(X:K.In h)(G:h.Ns mainGlobals mg)(eG:mg "law"=some (.ref fa))(b0:FE K "is_whole" Wq) (b1:FE K "is_within" Xa) (b2:FE K "is_tuple_within" j1) (b3:FE K "is_letters" Zj) (b4:FE K "is_word" Qp) (b5:FE K "is_box" K2) (b6:FE K "are_members" Z9) (b7:FE K "is_calling" Ys) (b8:FE K "is_deed" Qq) (b9:FE K "is_script" Z3) (gK:FE K "is_frame" Wr) (gJ:FE K "is_well_formed" jf) (gI:FE K "brought_by_scripts" Qw) (gG:FE K "is_small_enough" Zr) (gE:FE K "is_allowed" Yt) (gD:FE K "fits" sU) (gC:FE K "is_house" Yr) (gB:FE K "need_of" K0) (gA:FE K "said_in" Xx) (gz:FE K "is_met" K1) (gx:FE K "first_run" Xb) (gv:FE K "woven_on" Wl) (gt:FE K "is_made" Zm) (gq:FE K "need_house" Yq) (gn:FE K "plan_of" Qo) (gm:FE K "made_plan" Y9) (gl:FE K "triples" Xv) (gk:FE K "say_of" Vn) (gi:FE K "come_of" Qu) (gh:FE K "go_of" tR) (gg:FE K "tried" tW) (gf:FE K "has_triples" k8) (gd:FE K "ends_with_all_done" sS) (gc:FE K "are_papers" Yu) (gb:FE K "is_name" Xy) (ga:FE K "run_by" Vo) (f5:FE K "is_stopped_by" Xw) (f4:FE K "is_must" sV) (f3:FE K "shared_deeds" Kz) (f2:FE K "own_deeds" nG) (f1:FE K "tree_deeds" Kx) (f0:FE K "spread_deeds" Ky) (fy:FE K "met_by" tU) (fx:FE K "script_of" Wn) (fv:FE K "boxes_of" Qx) (fn:FE K "made" Vp) (fl:FE K "named" tV) (e9:FE K "depth_of" Vr) (e8:FE K "cost" Qt) (e7:FE K "is_plain" Qr) (e6:FE K "_law_acell" tO) (e5:FE K "_law_atape" tP) (e4:FE K "_law_adigit" K3) (e3:FE K "_law_aright" Xc) (e0:FE K "_law_aleft_out" J7) (bL:FD K "law" rQ fL dL) (n0:CI K "BOXES" 0) (n1:CI K "WALLS" 1) (n2:CI K "FIRSTS" 2) (n3:CI K "SCRIPTS" 3) (n4:CI K "MOST_BOXES" 99) (n5:CI K "MOST_WALLS" 6) (n6:CI K "MOST_FIRSTS" 40) (n7:CI K "MOST_SCRIPTS" 20) (n8:CI K "MOST_DEEDS_OF_SCRIPT" 80) (n9:CI K "MOST_HANDS" 60) (d4:CI K "MOST_DEEDS" 1200) (d3:CI K "MOST_RAISED" 99) (d2:CI K "MOST_AWAITED" 9999) (d1:CI K "MOST_WORKED" 999) (dT:CI K "MOST_LETTERS" 8) (ez:NS K "MODES" (some (.ref j))) (aa:KT K j ["both","come","go"]) (dN:CI K "MOST_MEETERS" 16) (dK:CI K "MOST_PHASES" 4) (dE:CI K "MOST_DEEDS_OF_COST" 300) (ey:NS K "KINDS" (some (.ref i))) (Z:KT K i ["shared","own","spread","tree"]) (z:NS K "isinstance" none/\NS K "int" none/\NS K "bool" none/\NS K "str" none/\NS K "tuple" none/\NS K "dict" none/\NS K "list" none/\NS K "len" none/\NS K "all" none/\NS K "sum" none/\NS K "range" none/\NS K "enumerate" none/\NS K "sorted" none/\NS K "zip" none/\NS K "max" none/\NS K "min" none/\NS K "set" none) (uR:NS K "Role" (some (.ref kR))) (c:aG K kR aR) (iR:DI K "Role.__init__" kR Wo) (uP:NS K "Plan" (some (.ref m))) (a:aG K m aZ) (iP:DI K "Plan.__init__" m Wp) (ew:q8 K m "enter" "Plan.enter" tQ) (ev:q8 K m "at_first" "Plan.at_first" Xz) (eu:q8 K m "every_deed" "Plan.every_deed" Z4) (et:q8 K m "what" "Plan.what" sZ) (uU:NS K "Run" (some (.ref d))) (b:aG K d bV) (iU:DI K "Run.__init__" d Yg) (en:q8 K d "put" "Run.put" rS) (el:q8 K d "level" "Run.level" tT) (ek:q8 K d "next_deed" "Run.next_deed" sX) (ej:q8 K d "may_go_on" "Run.may_go_on" rR) (ei:q8 K d "has_done" "Run.has_done" Qs) (eg:q8 K d "has_done_all" "Run.has_done_all" Vq) (ed:q8 K d "do" "Run.do" mK) (ec:q8 K d "changed" "Run.changed" Qv) (eb:q8 K d "going" "Run.going" J6) (uW:NS K "Weaver" (some (.ref kW))) (vW:aG K kW cD) (iW:DI K "Weaver.__init__" kW Yp) (ea:q8 K kW "step" "Weaver.step" sY) (d6:q8 K kW "weave" "Weaver.weave" tX) (uS:NS K "Stop" (some (.ref kS))) (S:aG K kS dQ) (iS:DI K "Stop.__init__" kS Wm) (er:q8 K kS "lacks" "Stop.lacks" tS) (eo:q8 K kS "up_to" "Stop.up_to" qA) (hb:∀(s:Shared)(v:I),BindsTo s dL ⟨[v],[]⟩ [("script",v)]):
  ∃fd:FuncData,(∀(s:Shared)(v:I),BindsTo s fd ⟨[v],[]⟩ [("script",v)])/\∀base:Heap,K.In base->base.Ns mainGlobals mg->cF l.prog w K mg base fJ 30 fa fd ["script"] (eN K):=by
 have e:=eG.symm.trans (W.mg_of X G bL.1);cases e;obtain⟨z0,z1,z2,z3,z4,z5,z6,z7,z8,z9,aS,ay,aw,av,aq,ap,ah⟩:=z;have T:Txt K mg:=⟨n0.d X G,n1.d X G,n2.d X G,n3.d X G,n4.d X G,n5.d X G,n6.d X G,n7.d X G,n8.d X G,n9.d X G,d4.d X G,d3.d X G,d2.d X G,d1.d X G,dT.d X G,⟨j,W.mg_of X G ez,aa⟩,W.mg_none_of X G z0,W.mg_none_of X G z1,W.mg_none_of X G z2,W.mg_none_of X G z3,W.mg_none_of X G z4,W.mg_none_of X G z5,W.mg_none_of X G z6,W.mg_none_of X G z7,W.mg_none_of X G z8,W.mg_none_of X G z9,W.mg_none_of X G aS,W.mg_none_of X G ay,W.mg_none_of X G aw,W.mg_none_of X G av⟩
 have TM:mC mg:=⟨dN.d X G,dK.d X G⟩
 have hC:=dE.d X G;have hK:∃aK,mg "KINDS"=some (.ref aK)/\∀H,aE K H aK [.str "shared",.str "own",.str "spread",.str "tree"]:=⟨i,W.mg_of X G ey,Z⟩
 have TL:pf mg:=⟨W.mg_none_of X G aq,W.mg_none_of X G ap,W.mg_none_of X G ah⟩
 refine⟨dL,hb,λbase XB _=>?_⟩;have F:=bL.2;have o1:=KU (P:=l.prog) (w:=w) (base:=base) (mg:=mg) (b0.d X G) T;have t:=Lo (b1.d X G) o1;have o3:=Ww (P:=l.prog) (w:=w) (base:=base) (mg:=mg) (b2.d X G) T;have c3:=LG (P:=l.prog) (w:=w) (base:=base) (mg:=mg) (b3.d X G) T;have o4:=I0 (b4.d X G) T c3;have o5:=HA (b5.d X G) T t;have o8:=LR (P:=l.prog) (w:=w) (base:=base) (mg:=mg) (b6.d X G) T;have o9:=LF (b7.d X G) T o3 t o8;have dv:=JR (b8.d X G) T o3 t o5 o4;have du:=Ln (b9.d X G) T o3 dv;have dt:=KQ (gK.d X G) T o3 t;have dr:=V3 (gJ.d X G) T dt du o9;have dp:=JM (P:=l.prog) (w:=w) (base:=base) (mg:=mg) (gI.d X G) T;have dn:=KS (gG.d X G) T dp;have dh:=LE (P:=l.prog) (w:=w) (base:=base) (mg:=mg) (gE.d X G);have dg:=EN (gD.d X G) T dh;have U:=KR (gC.d X G) T dr dn dg;have c2:=HG (P:=l.prog) (w:=w) (base:=base) (mg:=mg) (gB.d X G);have c1:=JB (P:=l.prog) (w:=w) (base:=base) (mg:=mg) (gA.d X G) T;have c0:=HF (P:=l.prog) (w:=w) (base:=base) (mg:=mg) (gz.d X G);have cv:=KY (P:=l.prog) (w:=w) (base:=base) (mg:=mg) (iR.d X G uR) c;have cs:=F2 ew T a c cv c2;have co:=KW (iP.d X G uP) T a cs;have cn:=JK (P:=l.prog) (w:=w) (base:=base) (mg:=mg) ev T a c;have cl:=DV (P:=l.prog) (w:=w) (base:=base) (mg:=mg) en b a c;have ck:=JA (iU.d X G uU) T b a cl;have f:=Lm (gx.d X G) a cn ck;have Q:=EQ (P:=l.prog) (w:=w) (base:=base) (mg:=mg) ek T b a c;have cc:=F6 (P:=l.prog) (w:=w) (base:=base) (mg:=mg) (cP:=m) (cR:=kR) el b;have g:=DT ej b a c Q cc c0;have R:=JN (P:=l.prog) (w:=w) (base:=base) (mg:=mg) ec;have p:=CV ed T b a c R;have o:=JP (P:=l.prog) (w:=w) (base:=base) (mg:=mg) ei b;have n:=Iy (P:=l.prog) (w:=w) (base:=base) (mg:=mg) eg T b a c;have ca:=LI (P:=l.prog) (w:=w) (base:=base) (mg:=mg) (cP:=m) (cR:=kR) (iW.d X G uW) T vW b;have bN:=ER ea vW b a c p;have bM:=Gb d6 vW b a c Q g bN;have k:=Lb (gv.d X G) vW ca bM;have P:=La (iS.d X G uS) S f k;have N:=F5 er S b o;have bK:=ET (P:=l.prog) (w:=w) (base:=base) (mg:=mg) (cU:=d) eo T S;have bJ:=JS (gt.d X G) T TM a c t c1;have bI:=LH (gq.d X G) U;have r:=I9 (gn.d X G) bI co;have D:=Lp (gm.d X G) r bJ;have q:=JD (P:=l.prog) (w:=w) (base:=base) (mg:=mg) (gl.d X G) T;have C:=HP (P:=l.prog) (w:=w) (base:=base) (mg:=mg) (gk.d X G) T a c;have B:=JO (gi.d X G) C;have A:=F3 (gh.d X G) C;have bE:=EM (gd.d X G) b f k n;have y:=IZ (gb.d X G) T o1;have M:=LS (gf.d X G) T y q;have bD:=HH (ga.d X G) T b y f g p;have bC:=F4 eb T b g;have bB:=JC (f5.d X G) T b bC;have bx:=EO (f4.d X G) b o bB;have L:=LD (gc.d X G) D M bE q bD B A bx;have E:=Ga (gg.d X G) T b S D f k n q B A P N bK;have bw:=HQ (P:=l.prog) (w:=w) (base:=base) (mg:=mg) (f3.d X G);have bl:=DU (P:=l.prog) (w:=w) (base:=base) (mg:=mg) (f2.d X G) T;have bk:=ES (P:=l.prog) (w:=w) (base:=base) (mg:=mg) (f1.d X G) T;have bi:=HR (P:=l.prog) (w:=w) (base:=base) (mg:=mg) (f0.d X G) T;have bh:=F8 (fy.d X G) bw bl bi bk;have bg:=KZ (fx.d X G) T bh;have bd:=JL (P:=l.prog) (w:=w) (base:=base) (mg:=mg) (fv.d X G);have bc:=F7 (fn.d X G) T TM hK t bg bd U;have x:=EU (P:=l.prog) (w:=w) (base:=base) (mg:=mg) et a c;have bb:=Ll (P:=l.prog) (w:=w) (base:=base) (mg:=mg) eu T a c;have ba:=F9 (P:=l.prog) (w:=w) (base:=base) (mg:=mg) (fl.d X G);have a8:=F1 (e9.d X G) T TL.max a S f k ba x P N;have a7:=EL (e8.d X G) T TL.set hC a r bb x a8;have a6:=JQ (e7.d X G) a c r;have a5:=FY (P:=l.prog) (w:=w) (base:=base) (mg:=mg) (e6.d X G) T;have a3:=F0 (e5.d X G) T a5;have u:=Iw (P:=l.prog) (w:=w) (base:=base) (mg:=mg) (e4.d X G) T;have a2:=Ix (e3.d X G) a7 a6;have a1:=FZ (e0.d X G) T u;exact DS F T TL a3 u bc E L a2 a1
theorem LT{l:W.OpenLaw}{q:Program}{b:O Str}{o:(Str->Option I)->Heap->Prop}{g:World->Heap->Prop}{d:DefRec}{K:Params->W.Frag}(j:l.most=some 63)(c:d.params.defaults=[])(m:∀(w:World)(h:Heap),g w h->(K w.params).In h)
  (F:∀(w:World) (mg:Str->Option I) (e:Y) (h:Heap),(K w.params).In h->h.Ns mainGlobals mg->mg d.name=some (.ref e)-> ∃fd:FuncData,(∀(s:Shared)(u:I),BindsTo s fd ⟨[u],[]⟩ [("script",u)])/\∀base:Heap,(K w.params).In base->base.Ns mainGlobals mg->cF l.prog w (K w.params) mg base fJ 30 e fd ["script"] (eN (K w.params))):
  W.WalkO q b o g l.row.toRowW d [] (λf vs=>PySem.call f vs):=
 L2.qH (n:=63) (k:=30) (x:="script") (CX:=λ_=>fJ) (sp:=λw=>eN (K w.params)) j (by decide) c ⟨J,by decide,by decide⟩ m F (λ_ _ a i k _ n=>⟨a,i,J,n,k,λ_=>rfl⟩) λ_ _ _ _ _ z=>z
end My

structure PySem.W.Fast:Prop where(tw4083025572859315098 tw15587618839973187276 tw13113304772135012192 tw12180614103281642389 tw8686617158509760228 tw9820486651913161099 tw6692919811604089374 tw13136658163669576944 tw15662774255743778561 tw13323281417740077623 tw9808221804285513227 tw269216635043946172 tw4352005824739185384 tw14815536938290744200 tw17826172049136793209 tw8269103603947441347 tw8521955810608841691 tw12284564939105435829 tw12083371412481902535 tw17215005804000943071 tw11361483317935594340 tw11490007923460206527 tw6760556794046345859 tw5854290109419581155 tw8158987575196156825 tw8003593797320493899 tw5706746677445591670 tw14033860724306667171 tw15007108552835964135 tw626318355458255349 tw5987092918866454215 tw14610907877028110901 tw6173473177609291777 tw13472948215355291414 tw12402666460319575800 tw4002032745046056103 tw15861409529304938342 tw12628404552950440419 tw8370677248080658688 tw1774059666837330618 tw1623446007827414232 tw7371941896311013369 tw17790878143040347596 tw1427965332383960399 tw17432677989855122706 tw15238900335079771532 tw2601878867593742159 tw11117502101117261133 tw12316897203769711443 tw5308999362894238688 tw14822991072833539604 tw11426113432197831931 tw8074374530241381772 tw964866677884911502 tw13821797935465869002 tw10261546216101499475 tw10032212353905132931 tw7520468257745661025 tw4087434676624652930 tw9992977569592714230 tw3042274765563064634 tw7286958910509956097 tw1426278810237091727 tw11432048257333700036 tw12737832048465171604 tw4044854022351975062 tw1960054334723484210 tw18262173838574205848 tw17457501864762007937 tw8871111550465646095 tw14323192562162547309 tw11091929074563740528 tw17550486901220011792 tw1753893404493240924 tw14989456679190907941 tw10958270913769326426 tw5516553622954215961 tw5436283605733444595 tw10473870487519550472 tw1555862744872389172 tw11813781306982467119 tw13767180057013618414 tw7769900887509324361 tw11150805550083043976 tw1824298608468648806 tw2369933035404719256 tw7043202907693618023 tw14095810618769114428 tw4675673726031590706 tw3215152421105543323 tw15348400968868797404 tw17285927512387778040 tw988864245189714377 tw10028339828454447581 tw8079341084376161654 tw2688761408782881193 tw2727780141472814470 tw3439205945770111473 tw4284115551140260864 tw8385155099007780832 tw13680418410199254052 tw9748008921002018677 tw12997145894905869594 tw7521828548426055099 tw6863284164093604524 tw2182093928185230409 tw2016929859612859914 tw5351309895279692666 tw14550904973399877886 tw10083732999950200322 tw2639587301747634622 tw11100408271780836773 tw5736598883835704083 tw7469052038579853013 tw12337777777474616227 tw9962111319162189193 tw190126246251602623 tw10827161359446433547 tw7800648594000116807 tw17378178288375350822 tw13813286645712033257 tw9929473552362908759 tw3557157603176516180 tw1497191100315828741 tw7475147929539866882 tw16988788155281489950 tw7488434724776263942 tw16729018047791024457 tw588702110927390473 tw14442519379054641898 tw4541138411879002622 tw6521012542487339903 tw4597692091334539995 tw10404118182958523197 tw1639337887258854313 tw741677263753482722 tw11973823651993724932 tw15536330264871283547 tw9914455107287323787 tw15264724366601572564 tw3627601534471522391 tw10668146421042643013 tw8342590611709192960 tw8554019016679040203 tw512967625505614836 tw16246814939366502400 tw12619485783471015404 tw10714708410544785404 tw17070378744504603323 tw8660549639531994906 tw17553143833078543100 tw9726584845792808633 tw17856607828742518484 tw10716026334816071685 tw255572865702181166 tw1286440476265948364 tw3122748375449362687 tw16517236317119281495 tw1292369894108423533 tw17824284515832034191 tw7163100617374626123 tw10981196275501753159 tw13794779077450136842 tw15819001654408229524 tw16807498678029059433 tw142011497429087971 tw5171912399733424273 tw8795248751420995968 tw15107647269237851731 tw185862861092242031 tw9292532700502393660 tw8760891783736760053 tw13945171507613470082 tw2051201486136734465 tw16393585871824911680 tw2370486068225561361 tw17388284924188335477 tw1785656759378566061 tw5891885895515784832 tw8898203256025692267 tw3738412082873437873 tw12441032699782248421 tw13614042567783403599 tw7661404196878413057 tw14404693089192302017 tw14834874023719449298 tw8833046127261780640 tw13272953620244922567 tw9158387590102138031 tw10993136512333584990 tw13724318322354522106 tw1619708348125247542 tw1647856262790887513 tw1176845525343794484 tw18117127158654241008 tw14186130625542579576 tw11162345936651715315 tw9951180394360845283 tw9226155316910289737 tw16874864610110688979 tw7371593816171643360 tw470647392905957633 tw15280166667150692200 tw12823147848553623648 tw13264115385117573976 tw9861567361018541263 tw12806478276923378634 tw8780672245865820451 tw2324720028430525545 tw8058233638665327449 tw15179055030354134605 tw9525918447962861193 tw3003996477901366648 tw9954810840288684735 tw11698085841358758578 tw2160000253990433807 tw14598008241320815045 tw9972752151181792561 tw6099947625751517513 tw10568126897681158808 tw5021607504961261198 tw16083658529846685984 tw1685655044311462069 tw14509099850875496788 tw10617323160441529521 tw9468611172341259123 tw2713906538070015057 tw1644302592505993958 tw2485655755519224031 tw16474972741812016547 tw8711400019916848067 tw17352171070591541176 tw12489386456016423760 tw16720571139871101929 tw9165797539700119753 tw12710304799114920232 tw9822925888265664451 tw6202386656130433785 tw12206932169978222272 tw8481437742871926969 tw12628687910368387518 tw3426679816171611815 tw14628881871783277111 tw6564469551509529019 tw6813995413999174738 tw14596209037886906302 tw3077795206111320165 tw8233137927164317860 tw17800963993362983362 tw11119455634694236022 tw10707189398992535280 tw13432920479259896390 tw12089468008009121191 tw9851444025099747904 tw15821427987375993984 tw9783400743255478256 tw153155235432624405 tw15555332227630347673 tw7295271734333453112 tw9740357168106012958 tw1579193092160306277 tw12441629791888820442 tw17240463239770106649 tw18131171731937322036 tw17330169576060561588 tw15292730769455446931 tw8233308069184937288 tw191600589555507184 tw12538543161346438910 tw16995502606724445342 tw8138457258714881289 tw7361995988927912494 tw5470183716067278918 tw17497177972419213150 tw3687285825871241548 tw16072290213783157011 tw9744673936421655036 tw16512481329686453210 tw9682925105338261745 tw5723014720023592599 tw721954955487186114 tw7736638066549722885 tw11758364360732023339 tw7876845862105871484 tw11026014143731786607 tw8958518849664357333 tw6010523499968491064 tw6597693294726641678 tw12507151413106619183 tw13969241001705100023 tw13528740534134659426 tw3415791986748758075 tw8392369100091665290 tw2676197898357724290 tw2782273839285836661 tw12081774209057055260 tw18169260280499681485 tw1056039710347580758 tw1941093715427545926 tw11157633067635554208:True)

open PySem PySem.W PyProof.Rows
set_option maxRecDepth 100000 in
set_option maxHeartbeats 0 in
theorem PySem.Challenge.cw_meetwall_k35_whole_kinds_hold_and_cost_holds : PySem.Challenge.rw_meetwall_k35_whole_kinds_hold_and_cost.Holds := by
 w_on;o_law;k_head;(case hw=>w_witness2)
 k_fill
 refine My.LT (l:=PySem.Challenge.rw_meetwall_k35_whole_kinds_hold_and_cost) rfl rfl (λw h Y=>PySem.W.kIn_of Y) ?F
 case F=>
  intro w mg fa h KX G hmg;refine' My.uK (w:=w) KX G hmg ?_ ?_ ?_ ?_ ?_ ?_ ?_ ?_ ?_ ?_ ?_ ?_ ?_ ?_ ?_ ?_ ?_ ?_ ?_ ?_ ?_ ?_ ?_ ?_ ?_ ?_ ?_ ?_ ?_ ?_ ?_ ?_ ?_ ?_ ?_ ?_ ?_ ?_ ?_ ?_ ?_ ?_ ?_ ?_ ?_ ?_ ?_ ?_ ?_ ?_ ?_ ?_ ?_ ?_ ?_ ?bL ?_ ?_ ?_ ?_ ?_ ?_ ?_ ?_ ?_ ?_ ?_ ?_ ?_ ?_ ?_ ?mo3 ?mm3 ?_ ?_ ?_ ?mo4 ?mm4 ?z ?uR ?vR ?iR ?uP ?vP ?iP ?mP0 ?mP1 ?mP2 ?mP3 ?uU ?vU ?iU ?mU0 ?mU1 ?mU2 ?mU3 ?mU4 ?mU5 ?mU6 ?mU7 ?mU8 ?uW ?vW ?iW ?mW0 ?mW1 ?uS ?vS ?iS ?mS0 ?mS1 ?hb
  (case bL=>refine' My.oX ?a ?l ?c ?k;(case a=>k_is);(case l=>k_is);(case c=>k_is);(case k=>k_is))
  (case hb=>exact λs v=>.of_eq rfl)
  (case z=>refine⟨?_,?_,?_,?_,?_,?_,?_,?_,?_,?_,?_,?_,?_,?_,?_,?_,?_⟩<;>(unfold My.NS;k_is))
  (case mo3=>unfold My.NS;k_is)
  (case mm3=>refine' My.Mm ?a;(case a=>k_is))
  (case mo4=>unfold My.NS;k_is)
  (case mm4=>refine' My.Ml ?a;(case a=>k_is))
  (case uR=>unfold My.NS;k_is)
  (case vR=>refine' My.B3 ?a ?b ?c ?d ?e;(case a=>k_is);(case b=>k_is);(case c=>k_is);(case d=>k_is);(case e=>intro f hf;simp only[My.aR,List.mem_cons,List.not_mem_nil,or_false]at hf;rcases hf with rfl|rfl|rfl|rfl|rfl|rfl<;>k_is))
  (case iR=>refine' My.B1 ?l ?c ?k ?m1 ?m2 ?m3 ?m4;(case m2=>k_is);(case l=>k_is);(case c=>k_is);(case k=>k_is);(case m1=>k_is);(case m3=>k_is);(case m4=>k_is))
  (case uP=>unfold My.NS;k_is)
  (case vP=>refine' My.B3 ?a ?b ?c ?d ?e;(case a=>k_is);(case b=>k_is);(case c=>k_is);(case d=>k_is);(case e=>intro f hf;simp only[My.aZ,List.mem_cons,List.not_mem_nil,or_false]at hf;rcases hf with rfl|rfl<;>k_is))
  (case iP=>refine' My.B1 ?l ?c ?k ?m1 ?m2 ?m3 ?m4;(case m2=>k_is);(case l=>k_is);(case c=>k_is);(case k=>k_is);(case m1=>k_is);(case m3=>k_is);(case m4=>k_is))
  (case mP0=>refine' My.B0 ?l ?c ?k ?m2 ?m3;(case m2=>k_is);(case l=>k_is);(case c=>k_is);(case k=>k_is);(case m3=>k_is))
  (case mP1=>refine' My.B0 ?l ?c ?k ?m2 ?m3;(case m2=>k_is);(case l=>k_is);(case c=>k_is);(case k=>k_is);(case m3=>k_is))
  (case mP2=>refine' My.B0 ?l ?c ?k ?m2 ?m3;(case m2=>k_is);(case l=>k_is);(case c=>k_is);(case k=>k_is);(case m3=>k_is))
  (case mP3=>refine' My.B0 ?l ?c ?k ?m2 ?m3;(case m2=>k_is);(case l=>k_is);(case c=>k_is);(case k=>k_is);(case m3=>k_is))
  (case uU=>unfold My.NS;k_is)
  (case vU=>refine' My.B3 ?a ?b ?c ?d ?e;(case a=>k_is);(case b=>k_is);(case c=>k_is);(case d=>k_is);(case e=>intro f hf;simp only[My.bV,List.mem_cons,List.not_mem_nil,or_false]at hf;rcases hf with rfl|rfl|rfl|rfl|rfl<;>k_is))
  (case iU=>refine' My.B1 ?l ?c ?k ?m1 ?m2 ?m3 ?m4;(case m2=>k_is);(case l=>k_is);(case c=>k_is);(case k=>k_is);(case m1=>k_is);(case m3=>k_is);(case m4=>k_is))
  (case mU0=>refine' My.B0 ?l ?c ?k ?m2 ?m3;(case m2=>k_is);(case l=>k_is);(case c=>k_is);(case k=>k_is);(case m3=>k_is))
  (case mU1=>refine' My.B0 ?l ?c ?k ?m2 ?m3;(case m2=>k_is);(case l=>k_is);(case c=>k_is);(case k=>k_is);(case m3=>k_is))
  (case mU2=>refine' My.B0 ?l ?c ?k ?m2 ?m3;(case m2=>k_is);(case l=>k_is);(case c=>k_is);(case k=>k_is);(case m3=>k_is))
  (case mU3=>refine' My.B0 ?l ?c ?k ?m2 ?m3;(case m2=>k_is);(case l=>k_is);(case c=>k_is);(case k=>k_is);(case m3=>k_is))
  (case mU4=>refine' My.B0 ?l ?c ?k ?m2 ?m3;(case m2=>k_is);(case l=>k_is);(case c=>k_is);(case k=>k_is);(case m3=>k_is))
  (case mU5=>refine' My.B0 ?l ?c ?k ?m2 ?m3;(case m2=>k_is);(case l=>k_is);(case c=>k_is);(case k=>k_is);(case m3=>k_is))
  (case mU6=>refine' My.B0 ?l ?c ?k ?m2 ?m3;(case m2=>k_is);(case l=>k_is);(case c=>k_is);(case k=>k_is);(case m3=>k_is))
  (case mU7=>refine' My.B0 ?l ?c ?k ?m2 ?m3;(case m2=>k_is);(case l=>k_is);(case c=>k_is);(case k=>k_is);(case m3=>k_is))
  (case mU8=>refine' My.B0 ?l ?c ?k ?m2 ?m3;(case m2=>k_is);(case l=>k_is);(case c=>k_is);(case k=>k_is);(case m3=>k_is))
  (case uW=>unfold My.NS;k_is)
  (case vW=>refine' My.B3 ?a ?b ?c ?d ?e;(case a=>k_is);(case b=>k_is);(case c=>k_is);(case d=>k_is);(case e=>intro f hf;simp only[My.cD,List.mem_cons,List.not_mem_nil,or_false]at hf;rcases hf with rfl|rfl|rfl|rfl|rfl|rfl<;>k_is))
  (case iW=>refine' My.B1 ?l ?c ?k ?m1 ?m2 ?m3 ?m4;(case m2=>k_is);(case l=>k_is);(case c=>k_is);(case k=>k_is);(case m1=>k_is);(case m3=>k_is);(case m4=>k_is))
  (case mW0=>refine' My.B0 ?l ?c ?k ?m2 ?m3;(case m2=>k_is);(case l=>k_is);(case c=>k_is);(case k=>k_is);(case m3=>k_is))
  (case mW1=>refine' My.B0 ?l ?c ?k ?m2 ?m3;(case m2=>k_is);(case l=>k_is);(case c=>k_is);(case k=>k_is);(case m3=>k_is))
  (case uS=>unfold My.NS;k_is)
  (case vS=>refine' My.B3 ?a ?b ?c ?d ?e;(case a=>k_is);(case b=>k_is);(case c=>k_is);(case d=>k_is);(case e=>intro f hf;simp only[My.dQ,List.mem_cons,List.not_mem_nil,or_false]at hf;rcases hf with rfl|rfl<;>k_is))
  (case iS=>refine' My.B1 ?l ?c ?k ?m1 ?m2 ?m3 ?m4;(case m2=>k_is);(case l=>k_is);(case c=>k_is);(case k=>k_is);(case m1=>k_is);(case m3=>k_is);(case m4=>k_is))
  (case mS0=>refine' My.B0 ?l ?c ?k ?m2 ?m3;(case m2=>k_is);(case l=>k_is);(case c=>k_is);(case k=>k_is);(case m3=>k_is))
  (case mS1=>refine' My.B0 ?l ?c ?k ?m2 ?m3;(case m2=>k_is);(case l=>k_is);(case c=>k_is);(case k=>k_is);(case m3=>k_is))
  all_goals first|(refine' My.BX ?a ?l ?c ?k;(case a=>k_is);(case l=>k_is);(case c=>k_is);(case k=>k_is))|(refine' My.B2 ?a;(case a=>k_is))

import PyProof.Rows.All
import Wide.All
import OpenK.AllK
import Wide.FinOn
import Lean
import PyProof.EqAt
import PyProof.EqKinds
import PyProof.TupleCall
import PyProof.TupleKey
import PyProof.DictFindH
import PyProof.NeData
import PyProof.ListRange
import PyProof.ZipIter
import PyProof.Rows.CallKwBuiltin
import PyProof.MinMaxWalk
import KE.KSortTup
import PyProof.DictItems
import PyProof.MeetsStr
import PyProof.MeetsStr2
import PyProof.StrCalls
import PyProof.StrCalls2
import PyProof.FString
import KE.KIntText
import PyProof.EnumIter
import PyProof.EnumMake
import KE.KDictSum
import PyProof.DictValues
import PyProof.SetRoads
import PyProof.SetNew
import PyProof.IsRules
import PyProof.StrLawsTight
import PyProof.StrLawsChain
import PyProof.StrLawsFirst
import PyProof.StrLawsJoin
import PyProof.StrLawsIn
import PySem.Challenge.RW_meetwall_k69_desk_makes_them
set_option Elab.async false
set_option linter.all false
set_option maxRecDepth 100000
set_option maxHeartbeats 4000000
set_option compiler.extract_closed false
noncomputable section
theorem uQ(h:True:=by intro _ _ _ _ h;first|(cases h;subst_vars;rfl)|(obtain⟨h,_⟩:=h;(repeat obtain⟨_,h⟩:=h)<;>(subst_vars;rfl))):True:=h
theorem uO(h:True:=by intro _ _ _ _ _ _ us hl;first|exact M3 hl (λ_=>rfl)|exact M0 hl (λ_ _=>rfl)|exact MZ hl (λ_ _ _=>rfl)|exact MY hl (λ_ _ _ _=>rfl)|exact MX hl (λ_ _ _ _ _=>rfl)|(cases us<;>first|rfl|cases hl)):True:=h
theorem Cm(h:True:=by first|exact Or.inl J|exact Or.inr (Or.inl J)|exact Or.inr (Or.inr J)):True:=h
theorem bF{m n:Nat}(h:Nat.ble m n=true:=by rfl):m<=n:=Nat.le_of_ble_eq_true h
theorem J{a:Sort _}{b:a}:b=b:=rfl
abbrev O:=@List
abbrev I:=PySem.Value
abbrev Y:=PySem.Addr
namespace L2
open PySem PySem.Spec PyProof.Rows
noncomputable def _root_.a4:=@wpAny_bind
noncomputable def _root_.a9:=@wpAny_pure
noncomputable def _root_.aa:=@List.length_map
noncomputable def _root_.ae:=@Nat.le_refl
noncomputable def _root_.ag:=@List.mem_cons
noncomputable def _root_.ai:=@Ne.symm
noncomputable def _root_.aj:=@Heap.get?_push_of_some
noncomputable def _root_.ak:=@List.mem_singleton
noncomputable def _root_.aq:=@Heap.lt_size
noncomputable def _root_.au:=@List.getElem?_map
noncomputable def _root_.ax:=@List.map_append
noncomputable def _root_.az:=@Nat.ne_of_lt
noncomputable def _root_.be:=@Nat.zero_le
noncomputable def _root_.bf:=@Heap.get?_push_size
noncomputable def _root_.bj:=@decide_eq_true
noncomputable def _root_.bn:=@List.map_map
noncomputable def _root_.bo:=@List.getElem?_eq_getElem
noncomputable def _root_.bp:=@List.mem_cons_self
noncomputable def _root_.bq:=@List.mem_cons_of_mem
noncomputable def _root_.br:=@Bool.false_ne_true
noncomputable def _root_.bu:=@List.mem_map
noncomputable def _root_.bv:=@List.mem_of_getElem?
noncomputable def _root_.bz:=@List.nodup_cons
noncomputable def _root_.c4:=@List.map_cons
noncomputable def _root_.c5:=@List.not_mem_nil
noncomputable def _root_.c6:=@decide_eq_false
noncomputable def _root_.c7:=@List.getD_eq_getElem?_getD
noncomputable def _root_.c8:=@Nat.lt_of_lt_of_le
noncomputable def _root_.c9:=@Nat.le_trans
noncomputable def _root_.ce:=@List.mem_append
noncomputable def _root_.cf:=@wpAny_call_entry
noncomputable def _root_.cg:=@Bool.and_eq_true
noncomputable def _root_.ci:=@List.getElem?_eq_some_iff
noncomputable def _root_.cj:=@List.length_append
noncomputable def _root_.cm:=@of_decide_eq_true
noncomputable def _root_.cp:=@List.append_nil
noncomputable def _root_.cq:=@List.take_add_one
noncomputable def _root_.cr:=@List.take_length
noncomputable def _root_.cu:=@List.mem_append_right
noncomputable def _root_.cw:=@Option.map_eq_some_iff
noncomputable def _root_.cx:=@wpAny_newObj_type
noncomputable def _root_.cy:=@Nat.lt_irrefl
noncomputable def _root_.cz:=@List.size_toArray
noncomputable def _root_.d5:=@List.length_take
noncomputable def _root_.d7:=@List.length_cons
noncomputable def _root_.d9:=@Int.toNat_natCast
noncomputable def _root_.da:=@List.length_range
noncomputable def _root_.db:=@List.all_eq_true
noncomputable def _root_.dc:=@wpAny_mono
noncomputable def _root_.df:=@Nat.ne_of_gt
noncomputable def _root_.di:=@wpAny_isInstance
noncomputable def _root_.dj:=@List.mem_range
noncomputable def _root_.dk:=@List.mem_append_left
noncomputable def _root_.dm:=@Heap.size_push
noncomputable def _root_.dy:=@Int.zero_add
noncomputable def _root_.dz:=@Int.le_refl
noncomputable def _root_.ef:=@Nat.lt_of_le_of_lt
noncomputable def _root_.eh:=@Array.getElem?_eq_getElem
noncomputable def _root_.eq:=@Int.emod_nonneg
noncomputable def _root_.f8:=@List.getElem?_eq_none
noncomputable def _root_.f9:=@List.length_filter_le
noncomputable def _root_.fc:=@List.length_replicate
noncomputable def _root_.fe:=@Int.emod_lt_of_pos
noncomputable def _root_.fg:=@Nat.lt_succ_self
noncomputable def _root_.fh:=@Nat.add_le_add_left
abbrev aJ:=Sum Int Str
noncomputable def mT:aJ->Value->Bool|.inl k,v=>Value.isInt k v|.inr x,v=>Value.isStrOf x v
noncomputable def CL(w:World):aJ->Int|.inl k=>hashInt k|.inr x=>hashStr w x
theorem vj:∀{k:aJ}{v:Value},mT k v=true->(∃i t,k=Sum.inl i/\v=Value.int i t)\/(∃x t,k=Sum.inr x/\v=Value.str x t)
 | .inl i,v,h=>by
   obtain⟨t,e⟩:=Value.isInt_shape h
   simp_all
 | .inr x,v,h=>by
   obtain⟨t,e⟩:=Value.isStrOf_shape h
   simp_all
theorem Ir(i:Int)(t:Tok):mT (.inl i) (.int i t)=true:=by simp[mT,Value.isInt]
theorem Q1(x:Str)(t:Tok):mT (.inr x) (.str x t)=true:=by simp[mT,Value.isStrOf]
theorem D3(a b:Int):decide ((Sum.inl a:aJ)=Sum.inl b)=(a==b):=by grind
theorem xH(a b:Str):decide ((Sum.inr a:aJ)=Sum.inr b)=decide (a=b):=by simp
theorem D4(a:Int)(b:Str):decide ((Sum.inl a:aJ)=Sum.inr b)=false:=c6 (λq=>nomatch q)
theorem D5(a:Str)(b:Int):decide ((Sum.inr a:aJ)=Sum.inl b)=false:=c6 (λq=>nomatch q)
noncomputable def zy(prog:Program)(w:World):PySem.KeyKind prog w aJ where
 is:=mT
 hash:=CL w
 inj:=λv a b ha U=>by
  rcases vj ha with⟨i,t,rfl,rfl⟩|⟨x,t,rfl,rfl⟩;rcases vj U with⟨j,u,rfl,e⟩|⟨y,u,rfl,e⟩;injection e with e1 _;rw[e1];exact nomatch e
  rcases vj U with⟨j,u,rfl,e⟩|⟨y,u,rfl,e⟩;exact nomatch e
  injection e with e1 _;rw[e1]
 byValue:=λk v h=>by rcases vj h with⟨i,t,rfl,rfl⟩|⟨x,t,rfl,rfl⟩<;>rfl
 pyHash:=λG h=>by rcases vj G with⟨i,t,rfl,rfl⟩|⟨x,t,rfl,rfl⟩;exact wpAny_pyHash_int h;exact wpAny_pyHash_str h
 eqBool:=λZ G h=>by rcases vj Z with⟨i,t,rfl,rfl⟩|⟨x,t,rfl,rfl⟩;rcases vj G with⟨j,u,rfl,rfl⟩|⟨y,u,rfl,rfl⟩;rw[D3]at h;exact wpAny_eqBool_int h;rw[D4]at h;exact SeqAt.EqAt.int_str i t y u _ _ _ _ h;rcases vj G with⟨j,u,rfl,rfl⟩|⟨y,u,rfl,rfl⟩;rw[D5]at h;exact SeqAt.EqAt.str_int x t j u _ _ _ _ h;rw[xH]at h;exact wpAny_eqBool_str h
 «strs»:=λk x t v h=>by
  rcases vj h with⟨i,u,rfl,e⟩|⟨y,u,rfl,e⟩;exact nomatch e
  injection e with e1 _;subst e1;cases v<;>rfl
theorem LA(prog:Program)(w:World)(i:Int)(t:Tok):(zy prog w).is (.inl i) (.int i t)=true:=Ir i t
theorem LB(prog:Program)(w:World)(x:Str)(t:Tok):(zy prog w).is (.inr x) (.str x t)=true:=Q1 x t
inductive V where|non|bl (b:Bool)|int (i:Int)|str (x:Str)|byt (b:Array UInt8)|flt (b:UInt64)|ref (a:Addr)|ty (n:String)
 deriving DecidableEq
def ym:V->Value->Prop|.non,u=>u=Value.none|.bl b,u=>u=Value.bool b|.int i,u=>∃t,u=Value.int i t|.str x,u=>∃t,u=Value.str x t|.byt b,u=>∃t,u=Value.bytes b t|.flt b,u=>∃t,u=Value.float b t|.ref a,u=>u=Value.ref a|.ty n,u=>u=Value.type n
abbrev yn:List V->List Value->Prop:=Paired ym
theorem yn.length{xs:O V}{us:O I}(r:yn xs us):xs.length=us.length:=Paired.length r
theorem yn.get:∀{xs:List V}{us:List Value}{i:Nat}{x:V},yn xs us->xs[i]?=some x->∃u,us[i]?=some u/\ym x u
 |_,_,_,_,.nil,e=>by grind
 |_,_,0,_,.cons r _,e=>by simp_all
 | _,_,i+1,x,.cons _ t,e=>by
   obtain⟨u,b,a⟩:=yn.get t (by simpa using e)
   simp_all
theorem yn.set{x:V}{u:Value}(r:ym x u):∀{xs:List V}{us:List Value}(i:Nat),yn xs us->yn (xs.set i x) (us.set i u)|_,_,_,.nil=>.nil|_,_,0,.cons _ t=>.cons r t|_,_,i+1,.cons q t=>.cons q (yn.set r i t)
theorem yn.append:∀{xs a:List V}{us b:List Value},yn xs us->yn a b->yn (xs++a) (us++b)|_,_,_,_,.nil,s=>s|_,_,_,_,.cons r t,s=>.cons r (yn.append t s)
theorem yn.take:∀{xs:List V}{us:List Value}(n:Nat),yn xs us->yn (xs.take n) (us.take n)|_,_,0,_=>.nil|_,_,_+1,.nil=>.nil|_,_,n+1,.cons r t=>.cons r (yn.take n t)
theorem yn.drop:∀{xs:List V}{us:List Value}(n:Nat),yn xs us->yn (xs.drop n) (us.drop n)|_,_,0,r=>r|_,_,_+1,.nil=>.nil|_,_,n+1,.cons _ t=>yn.drop n t
def Ys:Option V->Option Value->Prop|some v,some u=>ym v u|none,none=>True|_,_=>False
def KV{G:Type}:List (G×V)->List (G×Value)->Prop:=Paired λ(p:G×V) (q:G×Value)=>p.1=q.1/\ym p.2 q.2
noncomputable def kV:aJ->V|.inl i=>.int i|.inr x=>.str x
inductive HO where|lst (xs:List V)|tup (xs:List V)|dK (kvs:List (aJ×V))|dT (kvs:List (List aJ×V))|set (S:Int->Bool) (n:Nat)|ins (C dx:Addr) (fs:List (Str×V))|own (x:Addr)|xd (fs:List (Str×V))|met (f x:Addr)|rng (lo hi:Int)|frz (o:Obj) (u:HO)|tbl (ps:Array Value)|ext (φ:Heap->Prop)
abbrev Hp:=Addr->Option HO
noncomputable def upd(H:Hp)(a:Addr)(o:HO):Hp:=λb=>if b=a then some o else H b
variable{a b:Addr}{o u:HO}{h h':Heap}{H:Hp}{P:Program}{w:World}
theorem zd:upd H a o a=some o:=by unfold upd;rw[if_pos J]
theorem upd_ne(h:b≠a):upd H a o b=H b:=by unfold upd;rw[if_neg h]
theorem FZ:upd (upd H a o) a u=upd H a u:=by funext b;unfold upd;simp_all
theorem Y8(h:H a=some o)(h':H b=some u)(d:o≠u):a≠b:=by grind
theorem zj(h:H a=some o)(h':H b=none):a≠b:=by grind
def gp(h:Heap)(a:Addr):Prop:=∀o,h.get? a=some o->o.dict=none
theorem gp.of{o:Obj}(n:gp h a)(e:h.get? a=some o)(c:h'.get? a=some o):gp h' a:=λq b=>by rw[c]at b;cases b;exact n o e
theorem gp.push{h:Heap}{c:Value}{d:Data}{a:Array (Option Value)}:gp (h.push {cls:=c,dict:=none,data:=d,slots:=a}) h.objs.size:=λq f=>by
 have e:=f;cases b:({cls:=c,dict:=none,data:=d,slots:=a}:Obj).isFreed with|false=>rw[bf _ b]at e;grind| true=>
   simp[Heap.get?,Heap.push,b]at e
   grind
section
variable(P:Program)(w:World)
def va(H:Hp)(h:Heap)(a:Addr):HO->Prop
 |.lst xs=>xs.length<=sizeLine/\∃(its:List Value)(n:Nat),yn xs its/\h.get? a=some {cls:=.type "list",data:=.seq its.toArray n}
 |.tup xs=>xs.length<=sizeLine/\∃its:List Value,yn xs its/\IsTup h a its.toArray/\gp h a
 |.dK kvs=>kvs.length<=sizeLine/\(a==sysModules)=false/\∃vs,KV kvs vs/\h.DictOf (zy P w) a vs
 |.dT kvs=>kvs.length<=sizeLine/\(a==sysModules)=false/\∃xs:List (List aJ×Addr×Value),
  Paired (λ(p:List aJ×V) (q:List aJ×Addr×Value)=>p.1=q.1/\H q.2.1=some (.tup (p.1.map kV))/\ym p.2 q.2.2) kvs xs/\
  ∃o es ep,h.get? a=some o/\o.ExactDict/\o.data=.dict es ep/\es.toList=xs.map (entryOfKey (tupleKind (zy P w)))/\(xs.map (·.1)).Nodup
 |.set S n=>h.SetOf (intKind P w) a S n
 |.ins C dx fs=>H dx=some (.own a)/\fs.length<=1000/\dx≠a/\h.get? a=some (W.instObj C dx)/\
  ∃mA,h.Ns1 dx mA/\(∀f,Ys (fs.lookup f) (mA f))/\PySem.Within mA (fs.map (·.1))
 |.own _=>∃o,h.get? a=some o
 |.xd fs=>∃mA,h.Ns1 a mA/\∀f,Ys (fs.lookup f) (mA f)
 |.rng lo hi=>∃t u v,h.get? a=some {cls:=.type "range",data:=.fields #[.int lo t,.int hi u,.int 1 v]}
 |.frz o u=>h.get? a=some o/\va H h a u
 |.tbl ps=>h.get? a=some {cls:=.none,data:=.fields ps}
 |.met f x=>h.get? a=some (W.methodObj (.ref f) (.ref x))
 |.ext G=>G h/\(∃o,h.get? a=some o)/\∀h1 h2:Heap,G h1->(∀o,h1.get? a=some o->h2.get? a=some o)->G h2
def bZ(H:Hp)(h:Heap):Prop:=∀a o,H a=some o->va P w H h a o
end
section
variable{H':Hp}
theorem va.lt(x:va P w H h a o):a<h.objs.size:=by cases o with|lst c=>obtain⟨_,_,_,_,e⟩:=x;exact aq e|tup c=>obtain⟨_,_,_,p,_⟩:=x;exact p.lt|dK b=>obtain⟨_,_,_,_,o,_,_,e,_⟩:=x;exact aq e|dT b=>obtain⟨_,_,_,_,o,_,_,e,_⟩:=x;exact aq e|set S n=>obtain⟨o,_,_,_,e,_⟩:=x;exact aq e|ins C m d=>obtain⟨_,_,_,e,_⟩:=x;exact aq e|own y=>obtain⟨_,e⟩:=x;exact aq e|xd d=>obtain⟨_,⟨_,_,_,e,_⟩,_⟩:=x;exact aq e|rng lo l=>obtain⟨_,_,_,e⟩:=x;exact aq e|frz j u=>obtain⟨e,_⟩:=x;exact aq e|tbl i=>exact aq (x)|met f y=>exact aq (x)|ext g=>obtain⟨_,⟨_,e⟩,_⟩:=x;exact aq e
theorem Paired.mapP{g e:Type}{F G:g->e->Prop}:∀{d:List g}{c:List e},Paired F d c->(∀a b,F a b->G a b)->Paired G d c|_,_,.nil,_=>.nil|_,_,.cons r t,f=>.cons (f _ _ r) (Paired.mapP t f)
theorem va.stay(x:va P w H h a o)(k:∀b u,(b=a\/H b=some (.own a))->h.get? b=some u->h'.get? b=some u)(L:∀b,H b=some (.own a)->H' b=some (.own a)) (K:∀b xs,H b=some (.tup xs)->H' b=some (.tup xs)):va P w H' h' a o:=by induction o with|lst xs=>obtain⟨z,l,n,r,e⟩:=x;exact⟨z,l,n,r,k _ _ (.inl J) e⟩|tup xs=>obtain⟨z,l,r,⟨g,e,c⟩,F⟩:=x;exact⟨z,l,r,⟨g,k _ _ (.inl J) e,c⟩,F.of e (k _ _ (.inl J) e)⟩|dK A=>obtain⟨z,y,D,r,g,i,j,e,c⟩:=x;exact⟨z,y,D,r,g,i,j,k _ _ (.inl J) e,c⟩| dT A=>obtain⟨z,y,xs,r,g,i,j,e,c⟩:=x;exact⟨z,y,xs,Paired.mapP r λp q z=>⟨z.1,K _ _ z.2.1,z.2.2⟩,g,i,j,k _ _ (.inl J) e,c⟩|set S n=>obtain⟨g,i,j,t,e,c⟩:=x;exact⟨g,i,j,t,k _ _ (.inl J) e,c⟩| ins C W M=>obtain⟨d,z,E,e,s,⟨m,i,j,N,c⟩,r⟩:=x;exact⟨L _ d,z,E,k _ _ (.inl J) e,s,⟨m,i,j,k _ _ (.inr d) N,c⟩,r⟩|own y=>obtain⟨g,e⟩:=x;exact⟨g,k _ _ (.inl J) e⟩|xd M=>obtain⟨s,⟨m,i,j,e,c⟩,r⟩:=x;exact⟨s,⟨m,i,j,k _ _ (.inl J) e,c⟩,r⟩|rng lo U=>obtain⟨t,u,v,e⟩:=x;exact⟨t,u,v,k _ _ (.inl J) e⟩|frz g u G=>obtain⟨e,q⟩:=x;exact⟨k _ _ (.inl J) e,G q⟩| tbl R=>have e:=x;exact k a _ (.inl J) e| met f y=>have e:=x;exact k a _ (.inl J) e|ext Q=>obtain⟨p,⟨o,e⟩,st⟩:=x;exact⟨st _ _ p λo q=>k _ _ (.inl J) q,⟨o,k _ _ (.inl J) e⟩,st⟩
theorem bZ.lt(x:bZ P w H h)(e:H a=some o):a<h.objs.size:=(x a o e).lt
theorem bZ.fresh(x:bZ P w H h)(e:h.objs.size<=a):H a=none:=by cases q:H a with|none=>rfl|some u=>exact absurd (c8 (x.lt q) e) (cy _)
theorem bZ.kept(x:bZ P w H h)(k:∀b u,h.get? b=some u->h'.get? b=some u):bZ P w H h':=λa o e=>(x a o e).stay (λb u _ q=>k b u q) (λ_ q=>q) λ_ _ q=>q
theorem bZ.laid(x:bZ P w H h)(k:∀b u,h.get? b=some u->h'.get? b=some u)(hp:h.objs.size<=a)(f:va P w (upd H a o) h' a o):bZ P w (upd H a o) h':=λb u e=>by have hn:=x.fresh hp;by_cases d:b=a;subst d;rw[zd]at e;simp_all;rw[upd_ne d]at e;exact(x b u e).stay (λc v _ q=>k c v q) (λc q=>by rw[upd_ne (zj q hn)];exact q) λc g q=>by rw[upd_ne (zj q hn)];exact q
end
def Rd(H:Hp)(a:Addr)(u:HO):Prop:=H a=some u\/∃o,H a=some (.frz o u)
theorem Rd.ok(r:Rd H a u)(x:bZ P w H h):va P w H h a u:=by rcases r with r|⟨o,r⟩;exact x a u r;obtain⟨_,q⟩:=x a _ r;exact q
def pq:Option HO->Prop|some (.lst _)=>True|some (.dK _)=>True|some (.dT _)=>True|some (.set _ _)=>True|some (.ins _ _ _)=>True|some (.ext _)=>True|_=>False
section
variable{x e:Addr}{o':HO}
theorem bZ.write(m:bZ P w H h)(g:pq (H x))(he:e=x\/H e=some (.own x))(k:∀b u,b≠e->h.get? b=some u->h'.get? b=some u)(i:∃u,h'.get? e=some u)(n:va P w (upd H x o') h' x o'):bZ P w (upd H x o') h':=λb u q=>by
 have d:∀c y,H c=some (.own y)->c≠x:=λc y r z=>by subst z;rw[r]at g;exact g
 have a:∀c f,H c=some (.tup f)->c≠x:=λc f r z=>by subst z;rw[r]at g;exact g
 by_cases l:b=x;subst l;rw[zd]at q;simp_all;rw[upd_ne l]at q;by_cases o:b=e;have j:H b=some (.own x):=by simp_all
 rw[q]at j;cases j;obtain⟨v,p⟩:=i;exact⟨v,by simp_all⟩;refine(m b u q).stay (λc v s r=>k c v ?_ r) (λc r=>by rw[upd_ne (d c b r)];exact r) λc f r=>by rw[upd_ne (a c f r)];exact r
 grind
end
structure Un(fs ex:List Addr)(H H':Hp)(h h':Heap):Prop where
 keep:∀b o,h.get? b=some o->H b=none->b ∉ fs->b ∉ ex->h'.get? b=some o
 slot:∀b o,h.get? b=some o->H b=none->b∈fs->b ∉ ex->∃sl,h'.get? b=some {o with slots:=sl}
 free:∀b o,h.get? b=some o->H b=none->b ∉ ex->H' b=none
 there:∀b o,h.get? b=some o->b ∉ ex->∃o',h'.get? b=some o'
 tups:∀b xs,H b=some (.tup xs)->H' b=some (.tup xs)
 frzs:∀b o u,H b=some (.frz o u)->H' b=some (.frz o u)
 tbls:∀b ps,H b=some (.tbl ps)->∃more,H' b=some (.tbl (ps++more))
section
variable{fs MV ex Nb:List Addr}{H1 H2:Hp}{h1 h2:Heap}{x e:Addr}
theorem Un.any(u:Un fs ex H H1 h h1){a:Obj}(q:h.get? b=some a)(n:H b=none)(c:b ∉ ex):∃sl,h1.get? b=some {a with slots:=sl}:=by by_cases d:b∈fs;exact u.slot b a q n d c;exact⟨a.slots,u.keep b a q n d c⟩
theorem Un.kept(k:∀b u,h.get? b=some u->h'.get? b=some u):Un fs ex H H h h':=⟨λb a q _ _ _=>k b a q,λb a q _ _ _=>⟨a.slots,k b a q⟩,λ_ _ _ n _=>n,λb a q _=>⟨a,k b a q⟩,λ_ _ q=>q,λ_ _ _ q=>q,λ_ c q=>⟨#[],by simp_all⟩⟩
theorem Un.refl:Un fs ex H H h h:=Un.kept λ_ _ q=>q
theorem Un.laid(k:∀b u,h.get? b=some u->h'.get? b=some u)(hp:h.objs.size<=a)(c:H a=none):Un fs ex H (upd H a o) h h' where
 keep:=λb u q _ _ _=>k b u q
 slot:=λb u q _ _ _=>⟨u.slots,k b u q⟩
 free:=λb u q n _=>by rw[upd_ne (az (c8 (aq q) hp))];exact n
 there:=λb u q _=>⟨u,k b u q⟩
 tups:=λb d q=>by rw[upd_ne (zj q c)];exact q
 frzs:=λb u d q=>by rw[upd_ne (zj q c)];exact q
 tbls:=λb e q=>⟨#[],by rw[upd_ne (zj q c),q];simp⟩
theorem Un.write(c:pq (H x))(he:e=x\/H e=some (.own x))(k:∀b u,b≠e->h.get? b=some u->h'.get? b=some u)(i:∃u,h'.get? e=some u):Un fs ex H (upd H x o) h h':=by
 have g:∀b,H b=none->b≠x:=λb n z=>by subst z;rw[n]at c;exact c
 have d:∀b,H b=none->b≠e:=λb n z=>by simp_all
 have a:∀b u,H b=some u->¬pq (some u)->b≠x:=λb u q l z=>by simp_all
 refine⟨λb u q n _ _=>k b u (d b n) q,λb u q n _ _=>⟨u.slots,k b u (d b n) q⟩,λb u q n _=>by rw[upd_ne (g b n)];exact n,λb u q _=>?_,λb f q=>by rw[upd_ne (a b _ q λz=>z)];exact q,λb u f q=>by rw[upd_ne (a b _ q λz=>z)];exact q,λb j q=>⟨#[],by rw[upd_ne (a b _ q λz=>z),q];simp⟩⟩
 grind
end
noncomputable def qO(h:Heap)(H:Hp):List Addr:=(List.range h.objs.size).filter λa=>(H a).isSome
noncomputable def jZ(h:Heap)(H:Hp):Heap:=W.hideAll h (qO h H)
theorem Io(h:Heap)(H:Hp):(jZ h H).objs.size=h.objs.size:=W.hideAll_size _ _
theorem Go{o:Obj}(e:h.get? b=some o)(n:H b=none):(jZ h H).get? b=some o:=
 W.hideAll_get _ e λa=>by
  have q:=(List.mem_filter.mp a).2
  simp_all
theorem Fi{o:Obj}(e:(jZ h H).get? b=some o):h.get? b=some o/\H b=none:=by
 have a:=W.of_hideAll (qO h H) e;refine⟨a,?_⟩;cases q:H b with|none=>rfl| some x=>
   have c:b∈qO h H:=List.mem_filter.mpr ⟨dj.mpr (aq a),by grind⟩;have z:(jZ h H).get? b=none:=W.hideAll_none (qO h H) c
   simp_all
noncomputable def ER(g h:Heap)(L:Addr):List (Addr×Obj):=(List.range h.objs.size).filterMap λa=>if a=L\/(g.get? a).isSome=true then none else(h.get? a).map λo=>(a,o)
noncomputable def Zc(g h:Heap)(L d:Addr):List (Addr×Obj):=(ER g h L).filter λp=>decide (p.1≠d)
structure Mod(K:W.Frag)(mg:Str->Option Value)(base:Heap):Prop where
 kin:K.In base
 glob:base.Ns mainGlobals mg
 blt:∃mb,base.Ns builtinsNs mb/\∀x:Str,x≠"__name__"->mb x=bootBuiltins x
 nolimit:base.NoLimit
structure Cx where
 prog:Program
 w:World
 K:W.Frag
 mg:Str->Option Value
 base:Heap
 A:Around
 N:List Str
 s₀:Shared
 H₀:Hp
 env:Env
 outer:List Env
 stack:List Env
 ex:List Addr
 fn:Str->Bool
 calm:Bool
 pn:List (Addr×Obj)
 xe:Value->Shared->Prop
noncomputable def gj(l:List Env):List Addr:=l.filterMap (·.frame)
variable{A:Around}{pins cL:List (Addr×Obj)}{σ:List (Option V)}{ch:List Addr}{N:List Str}{i t':Nat}{s:Shared}{x:Str}{Q:Unit->Shared->Prop}{v:V}{u:Value}{E:Value->Shared->Prop}
abbrev Cx.fs(X:Cx):List Addr:=gj X.outer
def nz(G:Scope)(x:Str):Prop:=G.names.lookup x=some .local\/G.names.lookup x=some .cell\/G.names.lookup x=some .free
def Loc(G:Scope)(x:Str):Prop:=G.names.lookup x=some .local\/G.names.lookup x=some .cell
def vQ(G:Env)(h:Heap)(m:Str->Option Value)(x:Str)(u:Value):Prop:=(G.kindOf x=some .local/\m x=some u)\/((G.kindOf x=some .cell\/G.kindOf x=some .free)/\∃c,G.cells.lookup x=some c/\h.IsCell c (some u))
structure Cx.Ok(X:Cx):Prop where
 mod:Mod X.K X.mg X.base
 kind:X.env.scope.kind=.function
 glob:X.env.globals=mainGlobals
 blt:X.env.builtins=builtinsNs
 above:X.s₀.heap.objs.size<=X.env.locals
 inj:∀x y c,X.env.cells.lookup x=some c->X.env.cells.lookup y=some c->x=y
 has:∀x,(X.env.kindOf x=some .cell\/X.env.kindOf x=some .free)->∃c,X.env.cells.lookup x=some c
 cab:∀x c,X.fn x=true->X.env.cells.lookup x=some c->X.s₀.heap.objs.size<=c
 hd:X.calm=true->X.A.handled=none
 frames:X.A.frames=some X.stack
 stk:X.stack=X.outer\/(X.stack=X.env::X.outer/\X.env.frame=some X.env.locals)
 exf:∀b∈X.ex,b≠X.env.locals/\∀x c,X.env.cells.lookup x=some c->c≠b
 bs:∀b o,X.base.get? b=some o->X.s₀.heap.get? b=some o/\X.H₀ b=none
 bsz:X.base.objs.size<=X.s₀.heap.objs.size
 noex:∀b o,X.base.get? b=some o->b ∉ X.ex
 exfs:∀b∈X.ex,b ∉ X.fs
 funs:X.s₀.heap.FunFrames X.base X.outer
 frf:∀b∈X.fs,X.H₀ b=none
structure Inv(X:Cx)(pins:List (Addr×Obj))(σ:List (Option V))(H:Hp)(s:Shared):Prop where
 ok:X.Ok
 os:s.os=X.s₀.os
 bare:AllBare s.gens
 base:Un X.fs X.ex X.H₀ H X.s₀.heap s.heap
 loc:∃m,s.heap.Ns X.env.locals m/\∀(i:Nat)(x:Str)(v:V),X.N[i]?=some x->σ[i]?=some (some v)->nz X.env.scope x->∃u,ym v u/\vQ X.env s.heap m x u
 cell:∀x c,X.env.cells.lookup x=some c->∃v,s.heap.IsCell c v
 free:H X.env.locals=none
 freeC:∀x c,X.env.cells.lookup x=some c->H c=none
 pin:∀p∈X.pn++pins,s.heap.get? p.1=some p.2/\H p.1=none/\p.1≠X.env.locals/\p.1 ∉ X.fs/\∀v,p.2.data≠ .cell v
 hok:bZ X.prog X.w H s.heap
 len:σ.length=X.N.length
section
variable{X:Cx}{H':Hp}
theorem Cx.Ok.nofr(a:X.Ok){o:Obj}(e:X.base.get? b=some o):b ∉ X.fs:=λc=>by
 have:=(a.funs.mem c).1
 simp_all
theorem Inv.bs(I:Inv X pins σ H s):∀b o,X.base.get? b=some o->s.heap.get? b=some o/\H b=none:=λb o e=>⟨I.base.keep b o (I.ok.bs b o e).1 (I.ok.bs b o e).2 (I.ok.nofr e) (I.ok.noex b o e),I.base.free b o (I.ok.bs b o e).1 (I.ok.bs b o e).2 (I.ok.noex b o e)⟩
theorem Inv.bk(I:Inv X pins σ H s):∀b o,X.base.get? b=some o->s.heap.get? b=some o:=λb o e=>(I.bs b o e).1
theorem Inv.mod(I:Inv X pins σ H s):Mod X.K X.mg X.base:=I.ok.mod
theorem Inv.kIn(I:Inv X pins σ H s):X.K.In s.heap:=I.ok.mod.kin.keeps I.bk
theorem Inv.lt(I:Inv X pins σ H s):X.env.locals<s.heap.objs.size:=let⟨_,hn,_⟩:=I.loc;hn.lt
theorem Inv.sz(I:Inv X pins σ H s):X.s₀.heap.objs.size<=s.heap.objs.size:=c9 I.ok.above (Nat.le_of_lt I.lt)
theorem Inv.nofs(I:Inv X pins σ H s)(h:s.heap.objs.size<=a):a ∉ X.fs:=λc=>by obtain⟨_,o,b,_⟩:=I.ok.funs.mem c;exact absurd (c8 (aq b) (c9 I.sz h)) (cy _)
theorem Inv.cne(I:Inv X pins σ H s):∀x c,X.env.cells.lookup x=some c->c≠X.env.locals:=λx c e z=>by
 obtain⟨v,o,f,g⟩:=I.cell x c e;obtain⟨m,⟨d,h,i,a,b,_⟩,_⟩:=I.loc
 simp_all
theorem Inv.funs(I:Inv X pins σ H s):s.heap.FunFrames X.base X.outer:=by
 have d:∀(l:O Env),(∀b∈gj l,b∈X.fs)->X.s₀.heap.FunFrames X.base l->s.heap.FunFrames X.base l:=by intro l;induction l with|nil=>intro _ _;trivial| cons p r h=>intro f m;obtain⟨hk,⟨L,o,g,hn,j,n⟩,i⟩:=m;have c:=f L (by unfold gj;simp_all);obtain⟨q,e⟩:=I.base.slot L o j (I.ok.frf L c) c λz=>I.ok.exfs L z c;exact⟨hk,⟨L,_,g,hn,e,n⟩,h (λb a=>f b (by unfold gj;rw[List.filterMap_cons,g];exact bq _ a)) i⟩
 exact d X.outer (λ_ a=>a) I.ok.funs
theorem Inv.stack(I:Inv X pins σ H s):s.heap.FunFrames X.base X.stack:=by rcases I.ok.stk with e|⟨e,a⟩;rw[e];exact I.funs;rw[e];obtain⟨m,hn,_⟩:=I.loc;refine .cons (by rw[I.ok.kind];decide) a hn ?_ I.funs;exact Heap.get?_none_of_le (c9 I.ok.bsz I.ok.above)
theorem Inv.stkSub(I:Inv X pins σ H s):∀b∈gj X.stack,b∈X.env.locals::X.fs:=λb a=>by
 rcases I.ok.stk with e|⟨e,c⟩
 simp_all
 rw[e]at a;unfold gj at a;rw[List.filterMap_cons,c]at a;exact a
theorem Inv.stkFree(I:Inv X pins σ H s):∀b∈gj X.stack,H b=none:=λb a=>by rcases ag.mp (I.stkSub b a)with e|a;rw[e];exact I.free;obtain⟨_,o,c,_⟩:=I.ok.funs.mem a;exact I.base.free b o c (I.ok.frf b a) λz=>I.ok.exfs b z a
theorem Inv.step{g':Array GenState}{d':Drawn}(I:Inv X pins σ H s)(g:∀b∈ch,(b∈X.ex\/X.s₀.heap.objs.size<=b)/\b≠X.env.locals/\(∀x c,X.env.cells.lookup x=some c->c≠b)/\∀p∈X.pn++pins,p.1≠b)
  (keep:∀b o,b≠X.env.locals->b ∉ X.fs->b ∉ ch->s.heap.get? b=some o->H b=none->h'.get? b=some o)
  (w:∀b o,b≠X.env.locals->b∈X.fs->b ∉ ch->s.heap.get? b=some o->H b=none->∃sl,h'.get? b=some {o with slots:=sl}) (free:∀b o,b ∉ ch->s.heap.get? b=some o->H b=none->H' b=none)
  (y:∀b o,b ∉ ch->s.heap.get? b=some o->∃o',h'.get? b=some o')
  (D:∀b xs,H b=some (.tup xs)->H' b=some (.tup xs)) (K:∀b o u,H b=some (.frz o u)->H' b=some (.frz o u)) (E:∀b ps,H b=some (.tbl ps)->∃G,H' b=some (.tbl (ps++G)))
  (ns:∀m,s.heap.Ns X.env.locals m->h'.Ns X.env.locals m) (hok:bZ X.prog X.w H' h') (hg:AllBare g'):
  Inv X pins σ H' {s with heap:=h',gens:=g',drawn:=d',toks:=t'}:=by
 have F:∀b o,X.s₀.heap.get? b=some o->b≠X.env.locals:=λb o e=>az (c8 (aq e) I.ok.above);have j:∀b o,X.s₀.heap.get? b=some o->b ∉ X.ex->b ∉ ch:=λb o e a A=>by rcases(g b A).1 with z|z;exact a z;exact absurd (c8 (aq e) z) (cy _)
 have h:∀x c,X.env.cells.lookup x=some c->∀v,s.heap.IsCell c v->h'.IsCell c v:=λx c e v ⟨o,C,N⟩=>by have f:c ∉ ch:=λz=>(g c z).2.2.1 x c e J;by_cases S:c∈X.fs;obtain⟨sl,q⟩:=w c o (I.cne x c e) S f C (I.freeC x c e);exact⟨_,q,N⟩;exact⟨o,keep c o (I.cne x c e) S f C (I.freeC x c e),N⟩
 refine⟨I.ok,I.os,hg,⟨λb o e n A a=>?_,λb o e n A a=>?_,λb o e n a=>?_,λb o e a=>?_,λb xs e=>D b xs (I.base.tups b xs e),λb o xs e=>K b o xs (I.base.frzs b o xs e),λb ps e=>?_⟩,?_,λx c e=>?_,?_,λx c e=>?_,λp R=>?_,hok,I.len⟩;exact keep b o (F b o e) A (j b o e a) (I.base.keep b o e n A a) (I.base.free b o e n a);obtain⟨sl,t⟩:=I.base.slot b o e n A a;obtain⟨M,L⟩:=w b _ (F b o e) A (j b o e a) t (I.base.free b o e n a);exact⟨M,L⟩;obtain⟨o',t⟩:=I.base.there b o e a;exact free b o' (j b o e a) t (I.base.free b o e n a);obtain⟨o',t⟩:=I.base.there b o e a;exact y b o' (j b o e a) t;obtain⟨W,t⟩:=I.base.tbls b ps e;obtain⟨U,L⟩:=E b _ t;exact⟨W++U,by rw[L,Array.append_assoc]⟩;obtain⟨m,hn,Z⟩:=I.loc;refine⟨m,ns m hn,λi x v t L e3=>?_⟩;obtain⟨u,r,l⟩:=Z i x v t L e3;refine⟨u,r,?_⟩;rcases l with l|⟨k,c,e,z⟩;exact .inl l;exact .inr ⟨k,c,e,h x c e _ z⟩;obtain⟨v,z⟩:=I.cell x c e;exact⟨v,h x c e v z⟩;obtain⟨m,⟨o,_,_,C,_⟩,_⟩:=I.loc;exact free _ o (λz=>(g _ z).2.1 J) C I.free;obtain⟨v,o,C,N⟩:=I.cell x c e;exact free c o (λz=>(g c z).2.2.1 x c e J) C (I.freeC x c e);obtain⟨e,n,Q,P,d⟩:=I.pin p R;have f:p.1 ∉ ch:=λz=>(g p.1 z).2.2.2 p R J;exact⟨keep p.1 p.2 Q P f e n,free p.1 p.2 f e n,Q,P,d⟩
theorem Inv.un(I:Inv X pins σ H s)(u:Un X.fs [] H H' s.heap h')(hok:bZ X.prog X.w H' h'):Inv X pins σ H' {s with heap:=h',toks:=t'}:=by obtain⟨m,⟨o,t,v,g,r⟩,_⟩:=id I.loc;obtain⟨l,j⟩:=u.any g I.free (by simp);exact I.step (ch:=[]) (λ_ z=>nomatch z) (λb o _ c _ e n=>u.keep b o e n c (by simp)) (λb o _ c _ e n=>u.slot b o e n c (by simp)) (λb o _ e n=>u.free b o e n (by simp)) (λb o _ e=>u.there b o e (by simp)) u.tups u.frzs u.tbls (λq i=>by obtain⟨p,d,f,a,h⟩:=i;rw[g]at a;cases a;exact⟨_,d,f,j,h⟩) hok I.bare
theorem Inv.call{g':Array GenState}{d':Drawn}(I:Inv X pins σ H s)(u:Un (gj X.stack) ch H H' s.heap h')(hok:bZ X.prog X.w H' h')(t:AllBare g')(f:∀b∈ch,(b∈X.ex\/X.s₀.heap.objs.size<=b)/\b≠X.env.locals/\(∀x c,X.env.cells.lookup x=some c->c≠b)/\∀p∈X.pn++pins,p.1≠b):
  Inv X pins σ H' {s with heap:=h',gens:=g',drawn:=d',toks:=t'}:=by obtain⟨m,⟨o,C,D,j,r⟩,_⟩:=id I.loc;obtain⟨w,g⟩:=u.any j I.free λz=>(f _ z).2.1 J;exact I.step f (λb o g v a e n=>u.keep b o e n (λz=>(ag.mp (I.stkSub b z)).elim g v) a) (λb o _ _ a e n=>u.any e n a) (λb o a e n=>u.free b o e n a) (λb o a e=>u.there b o e a) u.tups u.frzs u.tbls (λA q=>by obtain⟨y,h,i,d,l⟩:=q;rw[j]at d;cases d;exact⟨_,h,i,g,l⟩) hok t
theorem Inv.turned{a:Y}(I:Inv X pins σ H s)(k:∀b o,b≠a->s.heap.get? b=some o->h'.get? b=some o)(w:H a=none)(i:a≠X.env.locals)(D:a∈X.ex\/X.s₀.heap.objs.size<=a) (C:∀x c,X.env.cells.lookup x=some c->c≠a) (A:∀p∈X.pn++pins,p.1≠a):Inv X pins σ H {s with heap:=h',toks:=t'}:=by
 have f:∀b u,H b=some u->b≠a:=λb u e z=>by simp_all
 refine I.step (ch:=[a]) (λb y=>?_) (λb o _ _ d e _=>k b o (λz=>d (by grind)) e) (λb o _ _ d e _=>⟨o.slots,k b o (λz=>d (by grind)) e⟩) (λ_ _ _ _ n=>n)
  (λb o d e=>⟨o,k b o (λz=>d (by grind)) e⟩) (λ_ _ e=>e) (λ_ _ _ e=>e) (λb t e=>⟨#[],by simp_all⟩) (λm h=>?_) (λb u e=>?_) I.bare
 grind
 obtain⟨o,j,l,g,r⟩:=h;exact⟨o,j,l,k _ o (ai i) g,r⟩;refine(I.hok b u e).stay (λc v d q=>k c v ?_ q) (λ_ q=>q) λ_ _ q=>q
 grind
theorem Inv.tok(I:Inv X pins σ H s)(t:Nat):Inv X pins σ H {s with toks:=t}:=I.un Un.refl I.hok
theorem Inv.kept{t':Nat}(I:Inv X pins σ H s)(k:∀b u,s.heap.get? b=some u->h'.get? b=some u):Inv X pins σ H {s with heap:=h',toks:=t'}:=I.un (Un.kept k) (I.hok.kept k)
theorem Inv.laid{a:Y}{o:HO}{t':Nat}(I:Inv X pins σ H s)(k:∀b u,s.heap.get? b=some u->h'.get? b=some u)(hp:s.heap.objs.size<=a)(c:va X.prog X.w (upd H a o) h' a o):Inv X pins σ (upd H a o) {s with heap:=h',toks:=t'}:=I.un (Un.laid k hp (I.hok.fresh hp)) (I.hok.laid k hp c)
theorem Inv.write{x e:Y}{o:HO}{t':Nat}(I:Inv X pins σ H s)(d:pq (H x))(he:e=x\/H e=some (.own x))(k:∀b u,b≠e->s.heap.get? b=some u->h'.get? b=some u)(a:∃u,h'.get? e=some u)(c:va X.prog X.w (upd H x o) h' x o):Inv X pins σ (upd H x o) {s with heap:=h',toks:=t'}:=I.un (Un.write d he k a) (I.hok.write d he k a c)
theorem Inv.pins_of(I:Inv X pins σ H s)(h:∀p∈cL,s.heap.get? p.1=some p.2/\H p.1=none/\p.1≠X.env.locals/\p.1 ∉ X.fs/\∀v,p.2.data≠ .cell v):Inv X cL σ H s:=⟨I.ok,I.os,I.bare,I.base,I.loc,I.cell,I.free,I.freeC,λp a=>(ce.mp a).elim (λz=>I.pin p (dk _ z)) (h p),I.hok,I.len⟩
theorem A5(c:N.Nodup){j:Nat}(a:N[i]?=some x)(b:N[j]?=some x):i=j:=by obtain⟨g,e⟩:=ci.mp a;obtain⟨f,d⟩:=ci.mp b;exact(List.getElem_inj c).mp (e.trans d.symm)
theorem BG{M:Model}(I:Inv X pins σ H s)(hN:X.N.Nodup)(S:X.N[i]?=some x)(t:Loc X.env.scope x)(r:ym v u)(h:∀s',Inv X pins (σ.set i (some v)) H s'->(∃a,Heap.SameBut a s.heap s'.heap/\(a=X.env.locals\/X.env.cells.lookup x=some a))->Q () s') (hf:X.fn x=true\/X.env.scope.names.lookup x=some .local:=by first|exact .inl J|exact .inr J|assumption):wpAny M A (storeName X.env x u) Q E s:=by
 obtain⟨m,hn,hl⟩:=id I.loc;have P:(X.env.scope.kind==.class ||(X.env.scope.kind==.module && X.env.locals !=X.env.globals))=false:=by rw[I.ok.kind];rfl
 have D:i<σ.length:=by rw[I.len];grind
 have L:=I.cne;have g:∀{a:Y}{N:Heap},(∃o,s.heap.get? a=some o/\H a=none)->Heap.SameBut a s.heap N->bZ X.prog X.w H N:=λ{a N} ha f b ob e=>by
  obtain⟨_,_,av⟩:=ha;refine(I.hok b ob e).stay (λc W w q=>(f.2 c ?_).trans q) (λ_ q=>q) λ_ _ q=>q
  grind
 rcases t with hk|hk;refine wpAny_storeName_local hk hn (λN ap f=>?_) P;obtain⟨oL,_,_,ah,_⟩:=id hn;refine h _ ⟨I.ok,I.os,I.bare,⟨λb o e n K t=>?_,λb o e n K t=>?_,I.base.free,λb o e t=>?_,I.base.tups,I.base.frzs,I.base.tbls⟩,⟨_,ap,λj y Z l C e3=>?_⟩,λy c e=>?_,I.free,I.freeC,λp hp=>?_,g ⟨oL,ah,I.free⟩ f,by simpa using I.len⟩ ⟨_,f,.inl J⟩;exact(f.2 b (az (c8 (aq e) I.ok.above))).trans (I.base.keep b o e n K t);obtain⟨sl,l⟩:=I.base.slot b o e n K t;exact⟨sl,(f.2 b (az (c8 (aq e) I.ok.above))).trans l⟩;obtain⟨o',l⟩:=I.base.there b o e t;exact⟨o',(f.2 b (az (c8 (aq e) I.ok.above))).trans l⟩;by_cases F:j=i;subst F;rw[S]at l;cases l;rw[List.getElem?_set_self D]at C;cases C;exact⟨u,r,.inl ⟨hk,by simp⟩⟩;rw[List.getElem?_set_ne (ai F)]at C;obtain⟨u',r',q⟩:=hl j y Z l C e3;refine⟨u',r',?_⟩;rcases q with⟨k,e⟩|⟨k,c,e,z⟩;refine .inl ⟨k,?_⟩;have:y≠x:=λe=>F (A5 hN l (e▸S))
 simp_all
 exact .inr ⟨k,c,e,z.sameBut f (L y c e)⟩;obtain⟨W,z⟩:=I.cell y c e;exact⟨W,z.sameBut f (L y c e)⟩;obtain⟨e,n,R,nf,d⟩:=I.pin p hp;exact⟨(f.2 p.1 R).trans e,n,R,nf,d⟩;have G:X.fn x=true:=by simp_all
 obtain⟨c,w⟩:=I.ok.has x (.inl hk);obtain⟨W,z⟩:=I.cell x c w;refine wpAny_storeName_cell I.ok.kind hk w z (λN ay f=>?_);obtain⟨oc,af,aK⟩:=id z;refine h {s with heap:=N} ⟨I.ok,I.os,I.bare,⟨λb o e n K t=>?_,λb o e n K t=>?_,I.base.free,λb o e t=>?_,I.base.tups,I.base.frzs,I.base.tbls⟩,⟨m,hn.sameBut f (ai (L x c w)),λj y Z l C e3=>?_⟩,λy U e=>?_,I.free,I.freeC,λp hp=>?_,g ⟨oc,af,I.freeC x c w⟩ f,by simpa using I.len⟩ ⟨c,f,.inr w⟩;exact(f.2 b (az (c8 (aq e) (I.ok.cab x c G w)))).trans (I.base.keep b o e n K t);obtain⟨sl,l⟩:=I.base.slot b o e n K t;exact⟨sl,(f.2 b (az (c8 (aq e) (I.ok.cab x c G w)))).trans l⟩;obtain⟨o',l⟩:=I.base.there b o e t;exact⟨o',(f.2 b (az (c8 (aq e) (I.ok.cab x c G w)))).trans l⟩;by_cases F:j=i;subst F;rw[S]at l;cases l;rw[List.getElem?_set_self D]at C;cases C;exact⟨u,r,.inr ⟨.inl hk,c,w,ay⟩⟩;rw[List.getElem?_set_ne (ai F)]at C;obtain⟨u',r',q⟩:=hl j y Z l C e3;refine⟨u',r',?_⟩;rcases q with q|⟨k,U,e,z'⟩;exact .inl q;refine .inr ⟨k,U,e,z'.sameBut f ?_⟩;rintro rfl;exact F (A5 hN l (I.ok.inj _ _ _ e w▸S));by_cases aw:U=c
 grind
 obtain⟨w2,z2⟩:=I.cell y U e;exact⟨w2,z2.sameBut f aw⟩;obtain⟨e,n,R,nf,d⟩:=I.pin p hp;refine⟨(f.2 p.1 ?_).trans e,n,R,nf,d⟩
 grind
theorem Ki{M:Model}(I:Inv X pins σ H s)(d:X.N.Nodup)(b:X.N[i]?=some x)(a:Loc X.env.scope x)(r:ym v u)(h:∀s',Inv X pins (σ.set i (some v)) H s'->Q () s') (c:X.fn x=true\/X.env.scope.names.lookup x=some .local:=by first|exact .inl J|exact .inr J|assumption):wpAny M A (storeName X.env x u) Q E s:=
 BG I d b a r (λs' e _=>h s' e) c
theorem Inv.call'{a:Shared}(I:Inv X pins σ H s)(f:a.os=s.os)(u:Un (gj X.stack) ch H H' s.heap a.heap)(hok:bZ X.prog X.w H' a.heap)(g:AllBare a.gens)(d:∀b∈ch,(b∈X.ex\/X.s₀.heap.objs.size<=b)/\b≠X.env.locals/\(∀x c,X.env.cells.lookup x=some c->c≠b)/\∀p∈X.pn++pins,p.1≠b):Inv X pins σ H' a:=by obtain⟨j,l,m,h,i⟩:=a;have e:=f;subst e;exact I.call u hok g d
end
abbrev XK:=Value->Option Addr->Hp->Prop
abbrev St:=List (Option V)
abbrev VK:=V->Hp->Prop
abbrev TE:=St->Hp->VK->Prop
abbrev TT:=St->Hp->(Bool->Hp->Prop)->Prop
abbrev TA:=St->Hp->(List V->Hp->Prop)->Prop
structure Ends where
 nx:St->Hp->Prop
 rt:VK
 bk:St->Hp->Prop:=λ_ _=>False
 ct:St->Hp->Prop:=λ_ _=>False
variable{X:Cx}{c e:Expr}{MM:List Stmt}{aD:Pos}{σ:St}{Q:Value->Shared->Prop}
abbrev TS:=Ends->St->Hp->Prop
abbrev Ends.sq(D:Ends)(u:TS):Ends:={D with nx:=u D}
abbrev Ends.lp(D:Ends)(N:St->Hp->Prop):Ends:={D with nx:=N,ct:=N,bk:=D.nx}
abbrev Ends.of(Q:VK):Ends:={nx:=λ_ H'=>Q .non H',rt:=Q}
inductive EP(X:Cx)(pins:List (Addr×Obj))(σ:St)(Q:VK)(u:Value)(s':Shared):Prop|mk:∀v H',Inv X pins σ H' s'->ym v u->Q v H'->EP X pins σ Q u s'
inductive TP(X:Cx)(pins:List (Addr×Obj))(σ:St)(Q:Bool->Hp->Prop)(b:Bool)(s':Shared):Prop|mk:∀H',Inv X pins σ H' s'->Q b H'->TP X pins σ Q b s'
inductive AP(X:Cx)(pins:List (Addr×Obj))(σ:St)(Q:List V->Hp->Prop)(us:List Value)(s':Shared):Prop|mk:∀vs H',Inv X pins σ H' s'->yn vs us->Q vs H'->AP X pins σ Q us s'
def SP(X:Cx)(G:List (Addr×Obj))(D:Ends)(f:Flow)(U:Shared):Prop:=match f with|.next=>∃σ' H',Inv X G σ' H' U/\D.nx σ' H'|.brk=>∃σ' H',Inv X G σ' H' U/\D.bk σ' H'|.cont=>∃σ' H',Inv X G σ' H' U/\D.ct σ' H'|.ret u=>∃v σ' H',Inv X G σ' H' U/\ym v u/\D.rt v H'
def PE(X:Cx)(e:Expr)(t:TE):Prop:=∀(pins:List (Addr×Obj))(s:Shared)(σ:St)(H:Hp)(Q:VK),Inv X pins σ H s->t σ H Q->wpAny (model X.prog X.w) X.A (eval e X.env) (EP X pins σ Q) X.xe s
def PT(X:Cx)(e:Expr)(t:TT):Prop:=∀(pins:List (Addr×Obj))(s:Shared)(σ:St)(H:Hp)(Q:Bool->Hp->Prop),Inv X pins σ H s->t σ H Q->wpAny (model X.prog X.w) X.A (isTrue e X.env (eval e X.env)) (TP X pins σ Q) X.xe s
def PW(X:Cx)(e:Expr)(t:TT):Prop:=∀(G:Sem Value)(pins:List (Addr×Obj))(s:Shared)(σ:St)(H:Hp)(Q:Bool->Hp->Prop),Inv X pins σ H s->t σ H Q->wpAny (model X.prog X.w) X.A (isTrue e X.env G) (TP X pins σ Q) X.xe s
theorem PW.pt{t:TT}(h:PW X e t):PT X e t:=h _
def PA(X:Cx)(es:List Expr)(t:TA):Prop:=∀(aD:Pos)(pins:List (Addr×Obj))(s:Shared)(σ:St)(H:Hp)(Q:List V->Hp->Prop),Inv X pins σ H s->t σ H Q->wpAny (model X.prog X.w) X.A (spliced (backTo aD (starEach es X.env))) (AP X pins σ Q) X.xe s
def PS(X:Cx)(st:Stmt)(t:TS):Prop:=∀(pins:List (Addr×Obj))(s:Shared)(σ:St)(H:Hp)(D:Ends),Inv X pins σ H s->t D σ H->wpAny (model X.prog X.w) X.A (exec st X.env) (SP X pins D) X.xe s
def eG(X:Cx)(st:List Stmt)(t:TS):Prop:=∀(pins:List (Addr×Obj))(s:Shared)(σ:St)(H:Hp)(D:Ends),Inv X pins σ H s->t D σ H->wpAny (model X.prog X.w) X.A (execs st X.env) (SP X pins D) X.xe s
theorem aF{b:Type}{t:Sem b}{Q c:b->Shared->Prop}{M:Model}(h:wpAny M A t Q E s)(d:∀a s,Q a s->c a s):wpAny M A t c E s:=dc h d λ_ _ x=>x
section
def oV:Option (Option V)->(V->Prop)->Prop|some (some v),f=>f v|_,_=>False
theorem xR{o:Option (Option V)}{f:V->Prop}(h:oV o f):∃v,o=some (some v)/\f v:=by match o,h with|some (some v),h=>exact⟨v,J,h⟩
theorem wH{o:Option (Option V)}{f:V->Prop}(e:o=some (some v))(h:f v):oV o f:=by rw[e];exact h
def jA(i:Nat)(G:St)(H:Hp)(Q:VK):Prop:=oV G[i]? λv=>Q v H
def tC(v:V):TE:=λ_ H Q=>Q v H
theorem En(q:X.N[i]?=some x)(n:nz X.env.scope x)(d:(x==("__debug__":Str))=false:=by decide)(f:(x==("__classdict__":Str))=false:=by decide):PE X (.Name x aD) (jA i):=by
 intro b s j H Q I h;replace h:=xR h;obtain⟨v,e,h⟩:=h;obtain⟨m,hn,p⟩:=I.loc;obtain⟨u,r,l⟩:=p i x v q e n;have fin:EP X b j Q u s:=⟨v,H,I,r,h⟩
 rcases l with⟨hk,o⟩|⟨hk,c,g,a⟩;exact wpAny_Name (wpAny_loadName_local I.ok.kind hk hn o fin) d;rcases hk with hk|hk;exact wpAny_Name (wpAny_loadName_cell I.ok.kind hk g a fin) d;exact wpAny_Name (wpAny_loadName_free I.ok.kind hk g a fin f) d
theorem ze{i j a}:PE X (.Constant (.int i) j a) (tC (.int i)):=λ_ _ _ H _ I h=>wpAny_Constant_int ⟨.int i,H,I.tok _,⟨_,J⟩,h⟩
theorem jy{b j a}:PE X (.Constant (.bool b) j a) (tC (.bl b)):=λ_ _ _ H _ I h=>Constant_bool ⟨.bl b,H,I,J,h⟩
theorem Z2{j a}:PE X (.Constant .none j a) (tC .non):=λ_ _ _ H _ I h=>Constant_none ⟨.non,H,I,J,h⟩
theorem zi{x j a}:PE X (.Constant (.str x) j a) (tC (.str x)):=λ_ _ _ H _ I h=>Calls.Constant_str ⟨.str x,H,I.tok _,⟨_,J⟩,h⟩
def Gl(X:Cx)(x:Str):Prop:=X.env.kindOf x=some .globalImplicit
theorem Jz(I:Inv X pins σ H s)(b:Gl X x)(a:X.mg x=some u)(h:Q u s)(c:(x==("__debug__":Str))=false:=by decide):wpAny (model X.prog X.w) X.A (eval (.Name x aD) X.env) Q E s:=
 Calls.Name_function_global I.ok.kind b (Calls.loadGlobal_global (by rw[I.ok.glob];exact I.mod.glob.keeps I.bk) a h) c
theorem Ym(I:Inv X pins σ H s)(d:Gl X x)(c:X.mg x=none)(a:bootBuiltins x=some u)(h:Q u s)(b:x≠"__name__":=by decide) (e:(x==("__debug__":Str))=false:=by decide):wpAny (model X.prog X.w) X.A (eval (.Name x aD) X.env) Q E s:=by obtain⟨i,g,f⟩:=I.mod.blt;exact Calls.Name_function_global I.ok.kind d (Calls.loadGlobal_builtin (by rw[I.ok.glob];exact I.mod.glob.keeps I.bk) c (by rw[I.ok.blt];exact g.keeps I.bk) ((f x b).trans a) h) e
theorem tT(b:Gl X x)(a:X.mg x=some u)(r:ym v u)(c:(x==("__debug__":Str))=false:=by decide):PE X (.Name x aD) (tC v):=λ_ _ _ H _ I h=>Jz I b a ⟨v,H,I,r,h⟩ c
theorem Fx(d:Gl X x)(c:X.mg x=none)(a:bootBuiltins x=some u)(r:ym v u)(b:x≠"__name__":=by decide)(e:(x==("__debug__":Str))=false:=by decide):PE X (.Name x aD) (tC v):=λ_ _ _ H _ I h=>Ym I d c a ⟨v,H,I,r,h⟩ b e
variable{a b:Expr}{ta tb:TE}
def PC(X:Cx)(U:CmpOp)(a b:Expr)(t:TE):Prop:=
 ∀ (pins:List (Addr×Obj)) (s:Shared) (σ:St) (H:Hp) (Q:VK),Inv X pins σ H s->t σ H Q->
   wpAny (model X.prog X.w) X.A (eval a X.env) (λv G=>wpAny (model X.prog X.w) X.A (eval b X.env) (λu s₂=>wpAny (model X.prog X.w) X.A (compareOp U v u) (EP X pins σ Q) X.xe s₂) X.xe G) X.xe s
theorem A4(b:Expr){a:CmpOp}(h:a≠ .In)(e:a≠ .NotIn):behindInMarks a b=false:=by
 have d:(a==CmpOp.In)=false:=by simp_all
 have c:(a==CmpOp.NotIn)=false:=by simp_all
 cases b<;>simp[behindInMarks,d,c]
def wA(ta:TE):TE:=λσ H Q=>ta σ H λx H1=>Q (.bl (decide (x=.non))) H1
def Dx(ta:TE):TE:=λσ H Q=>ta σ H λx H1=>Q (.bl (!decide (x=.non))) H1
theorem ym.none_iff{x:V}{v:Value}(r:ym x v):(v==Value.none)=decide (x=.non):=by cases x with|non=>cases r;rfl|bl _=>cases r;rfl|int _=>obtain⟨t,rfl⟩:=r;rfl|str _=>obtain⟨t,rfl⟩:=r;rfl|byt _=>obtain⟨t,rfl⟩:=r;rfl|flt _=>obtain⟨t,rfl⟩:=r;rfl|ref _=>cases r;rfl|ty _=>cases r;rfl
theorem qC{j g}(f:PE X a ta):PC X .Is a (.Constant .none j g) (wA ta):=by intro b s c H Q I h;refine aF (f b s c H _ I h) λv m ⟨x,l,i,d,e⟩=>?_;exact Constant_none (is_none_gen ⟨.bl _,l,i,by rw[d.none_iff];rfl,e⟩)
theorem zQ{j g}(f:PE X a ta):PC X .IsNot a (.Constant .none j g) (Dx ta):=by intro b s c H Q I h;refine aF (f b s c H _ I h) λv m ⟨x,l,i,d,e⟩=>?_;exact Constant_none (isnot_none_gen ⟨.bl _,l,i,by rw[d.none_iff];rfl,e⟩)
inductive B4(Q:Bool->Hp->Prop)(x:V)(H1:Hp):Prop|mk:∀c,x=.bl c->Q c H1->B4 Q x H1
def tB(t:TE):TT:=λσ H Q=>t σ H λx H1=>B4 Q x H1
theorem tz{d:CmpOp}{t:TE}(h:PC X d a b t)(g:behindInMarks d b=false:=by first|exact A4 _ (by decide) (by decide)|rfl):PE X (.Compare a [d] [b] aD) t:=λc s e H Q I f=>wpAny_Compare1 (h c s e H Q I f) g
theorem Wi{f:CmpOp}{t:TE}(h:PC X f a b t)(g:behindInMarks f b=false:=by first|exact A4 _ (by decide) (by decide)|rfl):PT X (.Compare a [f] [b] aD) (tB t):=by intro e s i H Q I m;refine wpAny_isTrue_Compare1 (aF (h e s i H _ I m) λv y g=>aF g λu w n=>aF n λc r ⟨x,p,o,j,l⟩=>?_) g;obtain⟨d,rfl,q⟩:=l;cases j;exact wpAny_truthy_bool ⟨p,o,q⟩
theorem y7{t:TE}(h:PE X e t)(he:∀a,isTrue e X.env a=(do let v<-a;standAt e.pos;holding [v] (truthy v)):=by intro _;rfl):PT X e (tB t):=by intro b s c H Q I i;refine isTrue_plain (aF (h b s c H _ I i) λv m ⟨x,l,j,f,g⟩=>?_) (he _);obtain⟨d,rfl,q⟩:=g;cases f;exact wpAny_truthy_bool ⟨l,j,q⟩
variable{tA qR:TT}{Zc:List Expr}
def CO(t u:TT):TT:=λσ H Q=>t σ H λc H1=>if c=true then u σ H1 Q else Q false H1
def MJ(t u:TT):TT:=λσ H Q=>t σ H λc H1=>if c=true then Q true H1 else u σ H1 Q
def Dk(t:TT):TT:=λσ H Q=>t σ H λc H1=>Q (!c) H1
theorem Vl(f:PT X a tA):PW X (.BoolOp .And [a] aD) tA:=by intro g b s d H Q I h;refine isTrue_and (aF (f b s d H Q I h) λc i e=>?_);cases c with|true=>exact isTrue_and_nil e|false=>exact e
theorem Z1(f:PT X a tA):PW X (.BoolOp .Or [a] aD) tA:=by intro g b s d H Q I h;refine isTrue_or (aF (f b s d H Q I h) λc i e=>?_);cases c with|false=>exact isTrue_or_nil e|true=>exact e
theorem Qr(n:PT X a tA)(m:PW X (.BoolOp .And (b::Zc) aD) qR):PW X (.BoolOp .And (a::b::Zc) aD) (CO tA qR):=by intro j d s e H Q I h;refine isTrue_and (aF (n d s e H _ I h) λc l ⟨i,g,f⟩=>?_);cases c with|true=>exact m j d l e i Q g f|false=>exact⟨i,g,f⟩
theorem Xz(n:PT X a tA)(m:PW X (.BoolOp .Or (b::Zc) aD) qR):PW X (.BoolOp .Or (a::b::Zc) aD) (MJ tA qR):=by intro j d s e H Q I h;refine isTrue_or (aF (n d s e H _ I h) λc l ⟨i,g,f⟩=>?_);cases c with|true=>exact⟨i,g,f⟩|false=>exact m j d l e i Q g f
theorem xt(e:PT X a tA):PT X (.UnaryOp .Not a aD) (Dk tA):=by intro b s d H Q I h;exact isTrue_not (aF (e b s d H (λc f=>Q (!c) f) I h) λ_ _ ⟨g,i,q⟩=>⟨g,i,q⟩)
inductive gW(tb:TE)(σ:St)(Q:VK)(x:V)(H1:Hp):Prop|mk:∀c,x=.bl c->(if c=true then tb σ H1 Q else Q (.bl false) H1)->gW tb σ Q x H1
def DN(ta tb:TE):TE:=λσ H Q=>ta σ H λx H1=>gW tb σ Q x H1
inductive kH(tb:TE)(σ:St)(Q:VK)(x:V)(H1:Hp):Prop|mk:∀c,x=.bl c->(if c=true then Q (.bl true) H1 else tb σ H1 Q)->kH tb σ Q x H1
def Dl(ta tb:TE):TE:=λσ H Q=>ta σ H λx H1=>kH tb σ Q x H1
inductive gQ(Q:VK)(x:V)(H1:Hp):Prop|mk:∀c,x=.bl c->Q (.bl (!c)) H1->gQ Q x H1
def Dy(ta:TE):TE:=λσ H Q=>ta σ H λx H1=>gQ Q x H1
theorem j3{d}{t:TE}(h:PE X a t):PE X (.BoolOp d [a] aD) t:=λb s c H Q I e=>BoolOp_one (h b s c H Q I e)
theorem ky(n:PE X a ta)(m:PE X (.BoolOp .And (b::Zc) aD) tb):PE X (.BoolOp .And (a::b::Zc) aD) (DN ta tb):=by intro d s f H Q I h;refine BoolOp_and (aF (n d s f H _ I h) λv j ⟨x,i,g,l,e⟩=>?_);obtain⟨c,rfl,e⟩:=e;cases l;refine wpAny_truthy_bool ?_;cases c with|true=>exact m d j f i Q g e|false=>exact⟨.bl false,i,g,J,e⟩
theorem pS(n:PE X a ta)(m:PE X (.BoolOp .Or (b::Zc) aD) tb):PE X (.BoolOp .Or (a::b::Zc) aD) (Dl ta tb):=by intro d s f H Q I h;refine BoolOp_or (aF (n d s f H _ I h) λv j ⟨x,i,g,l,e⟩=>?_);obtain⟨c,rfl,e⟩:=e;cases l;refine wpAny_truthy_bool ?_;cases c with|false=>exact m d j f i Q g e|true=>exact⟨.bl true,i,g,J,e⟩
theorem xY(g:PE X a ta):PE X (.UnaryOp .Not a aD) (Dy ta):=by intro b s e H Q I h;refine UnaryOp_ (aF (g b s e H _ I h) λv l ⟨x,j,i,f,d⟩=>?_);obtain⟨c,rfl,d⟩:=d;cases f;exact not_of (wpAny_truthy_bool ⟨.bl (!c),j,i,J,d⟩)
def MK(t:TT)(ta tb:TE):TE:=λσ H Q=>t σ H λc H1=>if c=true then ta σ H1 Q else tb σ H1 Q
theorem qo(m:PT X c tA)(o:PE X a ta)(n:PE X b tb):PE X (.IfExp c a b aD) (MK tA ta tb):=by intro e s f H Q I h;refine wpAny_IfExp (aF (m e s f H _ I h) λd g ⟨l,j,i⟩=>?_);cases d with|true=>exact o e g f l Q j i|false=>exact n e g f l Q j i
end
def aG(K:W.Frag)(H:Hp)(a:Addr)(xs:List V):Prop:=
 Rd H a (.lst xs)\/
  ∃(o:Obj)(its:Array Value)(n:Nat),K.lookup a=some o/\o.cls=.type "list"/\o.dict=none/\o.data=.seq its n/\its.size<=sizeLine/\yn xs its.toList
def aE(K:W.Frag)(H:Hp)(a:Addr)(xs:List V):Prop:=
 Rd H a (.tup xs)\/
  ∃(o:Obj)(its:Array Value)(n:Nat),K.lookup a=some o/\o.cls=.type "tuple"/\o.data=.seq its n/\its.size<=sizeLine/\yn xs its.toList
noncomputable def CC:Value->Option V|.none=>some .non|.bool b=>some (.bl b)|.int i _=>some (.int i)|.str x _=>some (.str x)|.bytes b _=>some (.byt b)|.float b _=>some (.flt b)|.ref a=>some (.ref a)|.type n=>some (.ty n)|_=>none
theorem ym.abs{x:V}(r:ym x u):CC u=some x:=by cases x with|non=>cases r;rfl|bl _=>cases r;rfl|int _=>obtain⟨t,rfl⟩:=r;rfl|str _=>obtain⟨t,rfl⟩:=r;rfl|byt _=>obtain⟨t,rfl⟩:=r;rfl|flt _=>obtain⟨t,rfl⟩:=r;rfl|ref _=>cases r;rfl|ty _=>cases r;rfl
theorem ym.inj{x y:V}{u:I}(r:ym x u)(q:ym y u):x=y:=Option.some.inj (r.abs.symm.trans q.abs)
theorem yn.inj:∀{xs a:List V}{us:List Value},yn xs us->yn a us->xs=a|_,_,_,.nil,.nil=>rfl|_,_,_,.cons r t,.cons c b=>by rw[r.inj c,yn.inj t b]
section
variable{xs ys:List V}
theorem aG.of{K:W.Frag}(h:H a=some (.lst xs)):aG K H a xs:=.inl (.inl h)
theorem aE.of{K:W.Frag}(h:H a=some (.tup xs)):aE K H a xs:=.inl (.inl h)
theorem Inv.list(I:Inv X pins σ H s)(h:aG X.K H a xs):∃its:O Value,yn xs its/\PlainL s.heap a its.toArray/\xs.length<=sizeLine:=by
 rcases h with h|⟨o,its,n,hk,c,b,f,d,r⟩;obtain⟨z,its,n,r,e⟩:=h.ok I.hok;exact⟨its,r,⟨_,n,e,J,J,J⟩,z⟩;refine⟨its.toList,r,⟨o,n,I.kIn a o hk,c,b,by omega⟩,?_⟩;have e:=r.length
 simp_all
theorem Inv.tuple(I:Inv X pins σ H s)(h:aE X.K H a xs):∃its:O Value,yn xs its/\IsTup s.heap a its.toArray/\xs.length<=sizeLine:=by
 rcases h with h|⟨o,its,n,hk,b,d,c,r⟩;obtain⟨z,its,r,p,_⟩:=h.ok I.hok
 grind
 refine⟨its.toList,r,⟨o,I.kIn a o hk,b,n,by omega⟩,?_⟩;have e:=r.length
 simp_all
theorem Inv.list_inj(I:Inv X pins σ H s)(h:aG X.K H a xs)(h':aG X.K H a ys):xs=ys:=by
 obtain⟨b,r,⟨o,n,e,_,_,d⟩,_⟩:=I.list h;obtain⟨i,g,⟨j,l,c,_,_,f⟩,_⟩:=I.list h';rw[e]at c;cases c;rw[d]at f;injection f with m _;have:b=i:=by simp_all
 subst this;exact r.inj g
theorem Inv.tuple_inj(I:Inv X pins σ H s)(h:aE X.K H a xs)(h':aE X.K H a ys):xs=ys:=by
 obtain⟨b,r,⟨o,e,_,n,d⟩,_⟩:=I.tuple h;obtain⟨i,g,⟨j,c,_,l,f⟩,_⟩:=I.tuple h';rw[e]at c;cases c;rw[d]at f;injection f with m _;have:b=i:=by simp_all
 subst this;exact r.inj g
end
abbrev Cx.wish(X:Cx)(E:Value->Shared->Prop):Cx:={X with xe:=E}
abbrev Cx.nox(X:Cx):Cx:=X.wish λ_ _=>False
theorem Cx.Ok.wish{X:Cx}(a:X.Ok)(E:I->Shared->Prop):(X.wish E).Ok:=⟨a.mod,a.kind,a.glob,a.blt,a.above,a.inj,a.has,a.cab,a.hd,a.frames,a.stk,a.exf,a.bs,a.bsz,a.noex,a.exfs,a.funs,a.frf⟩
theorem Cx.Ok.unwish(a:(X.wish E).Ok):X.Ok:=⟨a.mod,a.kind,a.glob,a.blt,a.above,a.inj,a.has,a.cab,a.hd,a.frames,a.stk,a.exf,a.bs,a.bsz,a.noex,a.exfs,a.funs,a.frf⟩
section
theorem Inv.wish(I:Inv X pins σ H s)(E:Value->Shared->Prop):Inv (X.wish E) pins σ H s:=⟨I.ok.wish E,I.os,I.bare,I.base,I.loc,I.cell,I.free,I.freeC,I.pin,I.hok,I.len⟩
theorem Inv.unwish(I:Inv (X.wish E) pins σ H s):Inv X pins σ H s:=⟨I.ok.unwish,I.os,I.bare,I.base,I.loc,I.cell,I.free,I.freeC,I.pin,I.hok,I.len⟩
theorem SP.unwish{D:Ends}{f:Flow}{c:Shared}(h:SP (X.wish E) pins D f c):SP X pins D f c:=by cases f with|next=>obtain⟨a,b,I,q⟩:=h;exact⟨a,b,I.unwish,q⟩|brk=>obtain⟨a,b,I,q⟩:=h;exact⟨a,b,I.unwish,q⟩|cont=>obtain⟨a,b,I,q⟩:=h;exact⟨a,b,I.unwish,q⟩|ret u=>obtain⟨v,a,b,I,r,q⟩:=h;exact⟨v,a,b,I.unwish,r,q⟩
theorem eG.nox{st:O Stmt}{t:TS}(h:eG X.nox st t):eG X st t:=λa s b H D I c=>dc (h a s b H D (I.wish _) c) (λ_ _ q=>q.unwish) λ_ _ z=>False.elim z
end
section
variable{st:Stmt}{Zc:List Stmt}{t u:TS}{te:TE}
def pX:TS:=λD σ H=>D.nx σ H
def pM(t u:TS):TS:=λD σ H=>t (D.sq u) σ H
theorem zn:eG X [] pX:=λ_ _ a H _ I h=>wpAny_execs_nil ⟨a,H,I,h⟩
theorem zb(g:PS X st t)(e:eG X Zc u):eG X (st::Zc) (pM t u):=by intro a s c H D I h;refine wpAny_execs_cons (aF (g a s c H (D.sq u) I h) λf d q=>?_);cases f with| next=>obtain⟨b,j,i,q⟩:=q;exact e a d b j D i q|ret v=>exact q|brk=>exact q|cont=>exact q
theorem zg(c:PS X st t):eG X [st] t:=by intro a s b H D I h;refine wpAny_execs_cons (aF (c a s b H D I h) λf d q=>?_);cases f with|next=>exact wpAny_execs_nil q|ret v=>exact q|brk=>exact q|cont=>exact q
def Eu:TS:=λD σ H=>D.bk σ H
theorem Hh:PS X (.Break aD) Eu:=λ_ _ a H _ I h=>wpAny_Break ⟨a,H,I,h⟩
theorem Inv.quiet(I:Inv X pins σ H s):interactive X.env=false:=by simp[interactive,I.ok.kind]
def Dr(G:TE):TS:=λD σ H=>G σ H λ_ H1=>D.nx σ H1
theorem wo(he:PE X e te)(hs:swapsWith e none aD.line X.env=pure false:=by rfl):PS X (.Expr e aD) (Dr te):=by intro a s b H D I h;exact wpAny_Expr_any (aF (he a s b H _ I h) λv g ⟨x,f,d,i,c⟩=>⟨b,f,d,c⟩) I.quiet hs
def Dm(G:TE):TS:=λD σ H=>G σ H D.rt
theorem zk(he:PE X e te):PS X (.Return (some e) aD) (Dm te):=by intro a s b H D I h;exact wpAny_Return_some (aF (he a s b H _ I h) λv i ⟨x,g,f,c,d⟩=>⟨x,b,g,f,c,d⟩)
def pL(c:TT)(t u:TS):TS:=λD σ H=>c σ H λb H1=>if b=true then t D σ H1 else u D σ H1
theorem ye{a b:List Stmt}{g:TT}(n:PT X c g)(p:eG X a t)(o:eG X b u):PS X (.If c a b aD) (pL g t u):=by intro e s f H D I h;refine wpAny_If (aF (n e s f H _ I h) λd i ⟨m,l,j⟩=>?_);cases d with|true=>exact p e i f m D l j|false=>exact o e i f m D l j
def yJ:TS:=λ_ _ _=>False
theorem xn:PS X st yJ:=λ_ _ _ _ _ _ h=>h.elim
theorem yo:eG X MM yJ:=λ_ _ _ _ _ _ h=>h.elim
end
abbrev TG:=V->St->Hp->(St->Hp->Prop)->Prop
variable{es:List Expr}{fo:List Stmt}{cN:Pos}{te:TE}
abbrev nA:=List V->St->Hp->(St->Hp->Prop)->Prop
def PG(X:Cx)(G:Expr)(t:TG):Prop:=
 ∀ (pins:List (Addr×Obj)) (s:Shared) (σ:St) (H:Hp) (v:V) (u:Value) (Q:St->Hp->Prop),Inv X pins σ H s->ym v u->t v σ H Q->
   wpAny (model X.prog X.w) X.A (assign G X.env u) (λ_ s'=>∃σ' H',Inv X pins σ' H' s'/\Q σ' H') X.xe s
def qZ(X:Cx)(G:List Expr)(t:nA):Prop:=
 ∀ (pins:List (Addr×Obj)) (s:Shared) (σ:St) (H:Hp) (vs:List V) (us:List Value) (Q:St->Hp->Prop),Inv X pins σ H s->yn vs us->t vs σ H Q->
   wpAny (model X.prog X.w) X.A (assignInOrder ((assignEach G X.env).map (·.2)) us) (λ_ s'=>∃σ' H',Inv X pins σ' H' s'/\Q σ' H') X.xe s
abbrev nF:=V->V->V->Hp->(Hp->Prop)->Prop
def rC(X:Cx)(t:nF):Prop:=
 ∀ (pins:List (Addr×Obj)) (s:Shared) (σ:St) (H:Hp) (o i v:V) (ov G u:Value) (Q:Hp->Prop),Inv X pins σ H s->ym o ov->ym i G->ym v u->t o i v H Q->
   wpAny (model X.prog X.w) X.A (setItem ov G u) (λ_ s'=>∃H',Inv X pins σ H' s'/\Q H') X.xe s
abbrev pf:=V->V->Hp->VK->Prop
def qX(X:Cx)(G:Operator)(t:pf):Prop:=
 ∀ (pins:List (Addr×Obj)) (s:Shared) (σ:St) (H:Hp) (x y:V) (v u:Value) (Q:VK),Inv X pins σ H s->ym x v->ym y u->t x y H Q->
   wpAny (model X.prog X.w) X.A (inplaceOp G v u) (EP X pins σ Q) X.xe s
section
def js(i:Nat):TG:=λv σ H Q=>Q (σ.set i (some v)) H
theorem zp(e:X.N.Nodup)(c:X.N[i]?=some x:=by rfl)(b:Loc X.env.scope x:=by first|exact Or.inl J|exact Or.inr J|assumption)(d:X.fn x=true\/X.env.scope.names.lookup x=some .local:=by first|exact .inl J|exact .inr J|assumption):PG X (.Name x aD) (js i):=by intro a s g H v u Q I r h;exact wpAny_assign_Name (Ki I e c b r (λj f=>⟨_,H,f,h⟩) d)
def lr:nA:=λvs σ H Q=>vs=[]/\Q σ H
inductive bR(t:TG)(u:nA)(vs:List V)(σ:St)(H:Hp)(Q:St->Hp->Prop):Prop|mk:∀v r,vs=v::r->(t v σ H λσ' H'=>u r σ' H' Q)->bR t u vs σ H Q
theorem qv:qZ X [] lr:=by intro a s b H c d Q I r h;obtain⟨e,h⟩:=h;subst e;cases r;exact assignInOrder_nil ⟨b,H,I,h⟩
theorem yv{t:TG}{u:nA}(j:PG X e t)(i:qZ X es u)(hs:(assignEach (e::es) X.env).map (·.2)=assign e X.env::(assignEach es X.env).map (·.2):=by rfl):qZ X (e::es) (bR t u):=by intro a s c H o q Q I r h;obtain⟨v,p,l,h⟩:=h;subst l;cases r with| cons r f=>rw[hs];refine assignInOrder_cons (aF (j a s c H _ _ _ I r h) λ_ d ⟨b,n,m,g⟩=>?_);exact i a d b n _ _ Q m f g
inductive eT(K:W.Frag)(n:Nat)(t:nA)(v:V)(σ:St)(H:Hp)(Q:St->Hp->Prop):Prop|mk:∀a xs,v=.ref a->aE K H a xs->xs.length=n->t xs σ H Q->eT K n t v σ H Q
theorem j2{k:Nat}{t:nA}{n:Nat}(y:X.calm=true)(h:qZ X es t)(w:(assignEach es X.env).length=n:=by rfl) (f:(assignEach es X.env).findIdx? (·.1)=none:=by rfl):PG X (.Tuple es k aD) (eT X.K n t):=by intro c s g H v u Q I r d;obtain⟨a,i,z,q,x,d⟩:=d;subst z;cases r;obtain⟨l,j,p,C⟩:=I.tuple q;refine assign_Tuple_tuple (I.ok.hd y) p (by simp[w,<-x,j.length]) f λD m=>?_;have A:=I.kept (t':=s.toks) λb o e=>m b o (az (aq e)) e;exact h c _ g H i _ Q A (by omega) d
def CH(to G:TE)(t:nF):TG:=λv σ H Q=>to σ H λo H1=>G σ H1 λi H2=>t o i v H2 λU=>Q σ U
theorem tD{o i:Expr}{to d:TE}{t:nF}(p:PE X o to)(q:PE X i d)(hs:rC X t)(w:∀v,assign (.Subscript o i aD) X.env v=(do
   let ov<-holding [v] (eval o X.env);let b<-holding [v,ov] (eval i X.env)
   standAt aD
   holding [v,ov,b] (setItem ov b v)
   release [v,ov,b] []):=by intro _;rfl):PG X (.Subscript o i aD) (CH to d t):=by intro a s c H v u Q I r h;rw[w];refine a4 (wpAny_holding (aF (p a s c H _ I h) λov f ⟨x,F,C,j,n⟩=>?_));refine a4 (wpAny_holding (aF (q a f c F _ C n) λb e ⟨y,E,A,g,m⟩=>?_));refine a4 (wpAny_standAt (a4 (wpAny_holding (aF (hs a e c E x y v ov b u _ A j g r m) λ_ G ⟨D,z,l⟩=>?_))));exact wpAny_release ⟨c,D,z,l⟩
def nK(G:TE)(g:TG):TS:=λD σ H=>G σ H λx H1=>g x σ H1 D.nx
theorem tF{b:Expr}{g:TG}(he:PE X e te)(l:PG X b g)(hs:swapsWithSole [b] e aD.line X.env=pure false:=by rfl)(j:swappedStores [b] e X.env=pure none:=by rfl)
  (m:(assignEach [b] X.env).map (·.2)=[assign b X.env]:=by rfl):PS X (.Assign [b] e aD) (nK te g):=by intro a s c H D I h;refine wpAny_Assign_stores (aF (he a s c H _ I h) λv d ⟨x,o,n,f,i⟩=>?_) hs j;rw[m];exact aF (l a d c o x v _ n f i) λ_ p q=>q
theorem zo(l:X.N.Nodup)(he:PE X e te)(g:X.N[i]?=some x:=by rfl)(f:Loc X.env.scope x:=by first|exact Or.inl J|exact Or.inr J|assumption)(hs:swapsWith e (some (.Name x cN)) aD.line X.env=pure false:=by rfl)(j:X.fn x=true\/X.env.scope.names.lookup x=some .local:=by first|exact .inl J|exact .inr J|assumption):PS X (.Assign [.Name x cN] e aD) (nK te (js i)):=by intro a s b H D I h;refine wpAny_Assign_Name (aF (he a s b H _ I h) λv q ⟨y,o,n,c,d⟩=>?_) hs;exact Ki n l g f c (λp m=>⟨_,o,m,d⟩) j
def CQ(i:Nat)(Z:TE)(U:pf)(D:Ends)(G:St)(H:Hp):Prop:=oV G[i]? λx=>(Z G H λy H1=>U x y H1 λz H2=>D.nx (G.set i (some z)) H2)
theorem yA{j:Operator}{p:pf}(P:X.N.Nodup)(q:X.N[i]?=some x)(n:Loc X.env.scope x)(he:PE X e te)(G:qX X j p)(M:X.fn x=true\/X.env.scope.names.lookup x=some .local:=by first|exact .inl J|exact .inr J|assumption):PS X (.AugAssign (.Name x cN) j e aD) (CQ i te p):=by
 intro a s o H D I h;replace h:=xR h;obtain⟨v,Q,h⟩:=h;obtain⟨m,hn,L⟩:=I.loc;have g:nz X.env.scope x:=by rcases n with k|k;exact .inl k;exact .inr (.inl k)
 obtain⟨u,r,l⟩:=L i x v q Q g;refine wpAny_AugAssign_Name ?_;have go:wpAny (model X.prog X.w) X.A (eval e X.env) (λw f=>wpAny (model X.prog X.w) X.A (inplaceOp j u w) (λr d=>wpAny (model X.prog X.w) X.A (storeName X.env x r) (λ_=>SP X a D .next) X.xe d) X.xe f) X.xe s:=by refine aF (he a s o H _ I h) λw t ⟨y,Z,U,C,F⟩=>?_;refine aF (G a t o Z v y u w _ U r C F) λz s2 ⟨zv,W,S,A,E⟩=>?_;exact Ki S P q n A (λs3 R=>⟨_,W,R,E⟩) M
 rcases l with⟨hk,K⟩|⟨hk,c,N,b⟩;exact wpAny_loadName_local I.ok.kind hk hn K go;rcases hk with hk|hk;exact wpAny_loadName_cell I.ok.kind hk N b go;rcases n with k|k;have:X.env.scope.names.lookup x=some .free:=hk
 simp_all
 have:X.env.scope.names.lookup x=some .free:=hk
 simp_all
def DO(to ti te:TE)(U:V->V->Hp->VK->Prop)(Z:pf)(G:nF):TS:=λD σ H=>to σ H λo H1=>ti σ H1 λi H2=>U o i H2 λx H3=>te σ H3 λy H4=>Z x y H4 λz H5=>G o i z H5 λH6=>D.nx σ H6
def vT(X:Cx)(t:V->V->Hp->VK->Prop):Prop:=
 ∀ (pins:List (Addr×Obj)) (s:Shared) (σ:St) (H:Hp) (o i:V) (ov G:Value) (Q:VK),Inv X pins σ H s->ym o ov->ym i G->t o i H Q->
   wpAny (model X.prog X.w) X.A (getItem ov G) (EP X pins σ Q) X.xe s
theorem F7{o i:Expr}{to n:TE}{d:V->V->Hp->VK->Prop}{j:pf}{c:nF}{r:Operator}{Z:Pos}(R:PE X o to)(S:PE X i n)(U:vT X d)(he:PE X e te)(hp:qX X r j)(hs:rC X c)(W:∀ov g b,augStore i ov g b=(do holding [b,ov,g] (setItem ov g b);release [b,ov,g] [];pure .next):=by intros;rfl):PS X (.AugAssign (.Subscript o i Z) r e aD) (DO to n te d j c):=by intro a s f H D I h;refine wpAny_AugAssign_SubscriptAny (aF (R a s f H _ I h) λov C ⟨m,H1,I1,q,Q⟩=>?_) W;refine aF (S a C f H1 _ I1 Q) λg A ⟨l,H2,I2,p,P⟩=>?_;refine aF (U a A f H2 m l ov g _ I2 q p P) λcM z ⟨w,H3,I3,G,N⟩=>?_;refine aF (he a z f H3 _ I3 N) λv y ⟨u,H4,I4,F,M⟩=>?_;refine aF (hp a y f H4 w u cM v _ I4 G F M) λb x ⟨t,H5,I5,E,L⟩=>?_;exact aF (hs a x f H5 m l t ov g b _ I5 q p E L) λ_ s6 ⟨H6,I6,K⟩=>⟨f,H6,I6,K⟩
inductive B9(f:Int->Int->Int)(x y:V)(H:Hp)(Q:VK):Prop|mk:∀i j,x=.int i->y=.int j->Q (.int (f i j)) H->B9 f x y H Q
theorem xB:qX X .Add (B9 λi j=>i+j):=by intro a s f H x y v u Q I c b h;obtain⟨i,j,e,d,q⟩:=h;subst e;subst d;obtain⟨t,rfl⟩:=c;obtain⟨g,rfl⟩:=b;exact iadd_int ⟨.int _,H,I.tok _,⟨_,J⟩,q⟩
end
section
inductive gF(c:TT)(tb:TS)(D:Ends)(σ:St)(H:Hp):Prop|mk:∀W:Nat->St->Hp->Prop,(∃m,W m σ H)->(∀m σ H,W m σ H-> c σ H λb H1=>if b=true then∃N:St->Hp->Prop,(∀σ' H',N σ' H'->∃m',m'<m/\W m' σ' H')/\tb (D.lp N) σ H1 else D.nx σ H1)->gF c tb D σ H
theorem AT{u:TT}{tb:TS}(hp:PassesOwn (model X.prog X.w) X.A X.env X.xe)(P:PT X c u)(Q:eG X fo tb):PS X (.While c fo [] aD) (gF u tb):=by
 intro d s C H D I h;obtain⟨W,⟨M,F⟩,i⟩:=h;refine wpAny_While (codeAny_whileLoop (λn L=>∃g A,Inv X d g A L/\W n g A) ?_ M ⟨C,H,I,F⟩);rintro n K ⟨e,z,R,E⟩;refine wpAny_passesOwn hp (aF (P d K e z _ R (i n e z E)) λb G ⟨y,x,m⟩=>?_);cases b with
 | true=>
   obtain⟨N,w,m⟩:=m;rw[if_pos J];refine wpAny_passesOwn hp (aF (Q d G e y _ x m) λf S l=>?_);cases f with
   | next=>obtain⟨a,j,t,p⟩:=l;obtain⟨q,r,o⟩:=w a j p;exact⟨q,r,a,j,t,o⟩
   | cont=>obtain⟨a,j,t,p⟩:=l;obtain⟨q,r,o⟩:=w a j p;exact⟨q,r,a,j,t,o⟩
   |brk=>exact l
   |ret v=>exact l
 | false=>rw[if_neg br];exact wpAny_execs_nil ⟨e,y,x,m⟩
end
structure It where
 go:Nat->Hp->Prop
 yld:Nat->Hp->V->Hp->Prop
 stop:Nat->Hp->Prop
def Jq(X:Cx)(G:List (Addr×Obj))(H:Hp)(b:Addr):Prop:=H b=none/\b≠X.env.locals/\b ∉ X.fs/\(b∈X.ex\/X.s₀.heap.objs.size<=b)/\(∀x c,X.env.cells.lookup x=some c->c≠b)/\∀p∈X.pn++G,p.1≠b
theorem Inv.fpOk{d:Hp}(I:Inv X pins σ H s)(a:s.heap.objs.size<=b)(g:d b=none):Jq X pins d b:=by refine⟨g,df (c8 I.lt a),I.nofs a,.inr (c9 I.sz a),λx c e z=>?_,λp f z=>?_⟩;obtain⟨v,q⟩:=I.cell x c e;exact absurd (c8 q.lt (by simp_all)) (cy _);exact absurd (c8 (aq (I.pin p f).1) (by simp_all)) (cy _)
structure dD(P:Program)(w:World)(K:W.Frag)(tg:Expr)(J:It)(fp:List Addr)(it:Addr)(tn:Nat->Heap->Prop):Prop where
 mem:it∈fp
 obj:∀i h,tn i h->∀b∈fp,∃o,h.get? b=some o/\∀v,o.data≠ .cell v
 keep:∀i h h',tn i h->(∀b∈fp,∀o,h.get? b=some o->h'.get? b=some o)->tn i h'
 item:∀(X:Cx),X.prog=P->X.w=w->X.K=K->X.calm=true->∀(i:Nat)(pins:List (Addr×Obj))(s:Shared)(σ:St)(H:Hp)(E:Value->Shared->Prop),Inv X pins σ H s->(∀b∈fp,Jq X pins H b)->tn i s.heap->J.go i H->
  wpAny (model P w) X.A (pyNext (.ref it)) (λr s1=>∃u,r=some u/\ wpAny (model P w) X.A (letOwnedTupleGo tg (.ref it) u) (λ_ s2=>∃x H',Inv X pins σ H' s2/\ym x u/\J.yld i H x H'/\tn (i+1) s2.heap/\∀b∈fp,H' b=none) E s1) E s
 done:∀(X:Cx),X.prog=P->X.w=w->X.K=K->X.calm=true->∀(i:Nat)(pins:List (Addr×Obj))(s:Shared)(σ:St)(H:Hp)(E:Value->Shared->Prop),Inv X pins σ H s->(∀b∈fp,Jq X pins H b)->tn i s.heap->J.stop i H->
  wpAny (model P w) X.A (pyNext (.ref it)) (λr s1=>r=none/\Inv X pins σ H s1) E s
 self:∀(A:Around)(i:Nat)(s:Shared)(Q:Value->Shared->Prop)(E:Value->Shared->Prop),tn i s.heap->Q (.ref it) s->wpAny (model P w) A (pyIter (.ref it)) Q E s
abbrev TI:=St->Hp->(It->Hp->Prop)->Prop
inductive qY(X:Cx)(pins:List (Addr×Obj))(σ:St)(tg:Expr)(R:It->Hp->Prop)(itv:Value)(s2:Shared):Prop|mk:∀(it:Addr)(fp:List Addr)(tn:Nat->Heap->Prop)(J:It)(H':Hp),itv=.ref it->Inv X pins σ H' s2->dD X.prog X.w X.K tg J fp it tn->tn 0 s2.heap->(∀b∈fp,Jq X pins H' b)->R J H'->qY X pins σ tg R itv s2
variable{C dx:Addr}{osl:Array (Option Value)}{D:Ends}{env:Env}{l tg aY:Expr}{fd:FuncData}{base:Heap}{H':Hp}{lo:Int}{pl:List (Addr×Obj)}{kvs:List (aJ×V)}{fp:List Addr}{outer:List Env}{ks:List aJ}{ns ps:List Str}{vs xs:List V}{ds its us:List Value}{o:Option Value}{apos p:Pos}{prog:Program}{R:Result->Shared->Prop}{sc scope:Scope}{f m name qual:Str}{mA mg:Str->Option Value}{id:String}{ta tl tv:TE}{g:TG}{tb:TS}{y:V}{r:Value}
def PI(X:Cx)(U cB:Expr)(G:TI):Prop:=
 ∀ (pins:List (Addr×Obj)) (s:Shared) (σ:St) (H:Hp) (R:It->Hp->Prop),Inv X pins σ H s->G σ H R->
   wpAny (model X.prog X.w) X.A (eval cB X.env) (λv Z=>wpAny (model X.prog X.w) X.A (pyIter v) (qY X pins σ U R) X.xe Z) X.xe s
theorem dX{M:Model}{b:Y}{o:Obj}{n:String}{vs:Array I}{Q:Unit->Shared->Prop}(c:s.heap.get? b=some o)(f:o.cls=.type n)(e:o.data=.fields vs)
  (d:["enumerate","zip","dict_itemiterator","dict_reverseitemiterator","odict_iterator","itertools.zip_longest","itertools.pairwise"].contains n=false) (a:Q () s):wpAny M A (letOwnedTupleGo tg (.ref b) u) Q E s:=by
 unfold letOwnedTupleGo;cases tg<;>first
  |exact a9 a
  |(cases u<;>first
   |exact a9 a
   | (refine a4 (wpAny_load c ?_)
      rw[f,e];show wpAny M A (if(["enumerate","zip","dict_itemiterator","dict_reverseitemiterator","odict_iterator","itertools.zip_longest","itertools.pairwise"].contains n && vs[0]?==some (rawInt _))=true then _ else _) Q E s;rw[if_neg (by intro h;rw[d,Bool.false_and]at h;cases h)];exact a9 a))
noncomputable def rj(K:W.Frag)(a:Addr):It:=⟨λi H=>∃xs x,aG K H a xs/\xs[i]?=some x,λi H x H'=>H'=H/\∀xs,aG K H a xs->xs[i]?=some x,λi H=>∃xs,aG K H a xs/\xs.length<=i⟩
noncomputable def nD(K:W.Frag)(a:Addr):It:=⟨λi H=>∃xs x,aE K H a xs/\xs[i]?=some x,λi H x H'=>H'=H/\∀xs,aE K H a xs->xs[i]?=some x,λi H=>∃xs,aE K H a xs/\xs.length<=i⟩
noncomputable def pr(lo:Int)(n:Nat):It:=⟨λi _=>i<n,λi H x H'=>H'=H/\x=.int (lo+i),λi _=>n<=i⟩
theorem JC{K:W.Frag}(a f:Y):dD P w K tg (rj K a) [f] f (λi h=>h.IsListIter f a i) where
 mem:=by simp
 obj:=λi h st b g=>by
  have e:b=f:=by simp_all
  subst e;obtain⟨o,e,c,d⟩:=st
  simp_all
 keep:=λi h N st k=>st.at λo e=>k f (by simp) o e
 item:=by intro X y t z M i l s Q H E I n st v;subst y t z;obtain⟨R,x,m,L⟩:=v;obtain⟨r,q,p,Z⟩:=I.list m;obtain⟨u,hu,U⟩:=q.get L;obtain⟨G,F,f2,D,C,A⟩:=n f (by simp);refine wpAny_pyNext_list_item st p.isList (by simpa using hu) λN j S=>?_;have I1:=I.turned (t':=s.toks) (λb o g e=>(S.2 b g).trans e) G F D C A;obtain⟨o,e,c,d⟩:=id j;exact⟨u,J,dX e c d (by rfl) ⟨x,H,I1,U,⟨J,λys hy=>by rw[I.list_inj hy m];omega⟩,j,λb g=>(n b g).1⟩⟩
 done:=by intro X y t z M i l s Q H E I n st v;subst y t z;obtain⟨R,m,L⟩:=v;obtain⟨r,q,p,Z⟩:=I.list m;obtain⟨G,F,f2,D,C,A⟩:=n f (by simp);have hl:=q.length;exact wpAny_pyNext_list_end (I.ok.hd M) st p.isList (by simp_all) λN eb=>⟨J,I.turned (λb o g e=>eb b o g e) G F D C A⟩
 self:=λ_ _ _ _ _ st h=>wpAny_pyIter_listiter st h
theorem LC{K:W.Frag}(a f:Y):dD P w K tg (nD K a) [f] f (λi h=>h.IsTupleIter f a i) where
 mem:=by simp
 obj:=λi h st b g=>by
  have e:b=f:=by simp_all
  subst e;obtain⟨o,e,c,d⟩:=st
  simp_all
 keep:=λi h N st k=>st.at λo e=>k f (by simp) o e
 item:=by intro X y t z M i l s Q H E I n st v;subst y t z;obtain⟨R,x,m,L⟩:=v;obtain⟨r,q,p,Z⟩:=I.tuple m;obtain⟨u,hu,U⟩:=q.get L;obtain⟨G,F,f2,D,C,A⟩:=n f (by simp);refine wpAny_pyNext_tuple_item st (p) (by simpa using hu) λN j S=>?_;have I1:=I.turned (t':=s.toks) (λb o g e=>(S.2 b g).trans e) G F D C A;obtain⟨o,e,c,d⟩:=id j;exact⟨u,J,dX e c d (by rfl) ⟨x,H,I1,U,⟨J,λys hy=>by rw[I.tuple_inj hy m];omega⟩,j,λb g=>(n b g).1⟩⟩
 done:=by intro X y t z M i l s Q H E I n st v;subst y t z;obtain⟨R,m,L⟩:=v;obtain⟨r,q,p,Z⟩:=I.tuple m;obtain⟨G,F,f2,D,C,A⟩:=n f (by simp);have hl:=q.length;exact wpAny_pyNext_tuple_end (I.ok.hd M) st (p) (by simp_all) λN eb=>⟨J,I.turned (λb o g e=>eb b o g e) G F D C A⟩
 self:=λ_ _ _ _ _ st h=>wpAny_pyIter_tupleiter st h
theorem Ls{K:W.Frag}(c:Y)(lo:Int)(n:Nat):dD P w K tg (pr lo n) [c] c (λi h=>IsRangeIter h c (lo+(i:Nat)*1) ((n:Int)-(i:Nat)) 1) where
 mem:=by simp
 obj:=λi h st b f=>by simp_all
 keep:=λi h r st k=>k c (by simp) _ st
 item:=by intro X p j q m i a s C H E I g st l;subst p j q;obtain⟨A,z,L,y,x,u⟩:=g c (by simp);have W:=Walks.range (prog:=X.prog) (w:=X.w) (I.ok.hd m) c lo 1 n;refine W.item i s _ _ l st λv r D G d F=>?_;obtain⟨t,rfl⟩:=G;have N:Inv X a C H {s with heap:=r,toks:=D}:=I.turned (λb o f e=>F b o (by simp_all) e) A z y x u;refine⟨_,J,dX d J J (by rfl) ⟨.int (lo+i),H,N,⟨t,?_⟩,⟨J,J⟩,d,λb f=>(g b f).1⟩⟩;rw[Int.mul_one]
 done:=by intro X p j q m i a s C H E I g st l;subst p j q;obtain⟨A,z,L,y,x,u⟩:=g c (by simp);exact wpAny_pyNext_range_end (I.ok.hd m) st (by have:n<=i:=l;omega) λr M=>⟨J,I.turned (λb o f e=>M b o f e) A z y x u⟩
 self:=λ_ _ _ _ _ st h=>wpAny_pyIter_rangeiter st h
section
inductive iC(K:W.Frag)(R:It->Hp->Prop)(x:V)(H1:Hp):Prop|mk:∀a,x=.ref a->(∃xs,aG K H1 a xs)->R (rj K a) H1->iC K R x H1
def Db(K:W.Frag)(G:TE):TI:=λσ H R=>G σ H λx H1=>iC K R x H1
inductive ld(K:W.Frag)(R:It->Hp->Prop)(x:V)(H1:Hp):Prop|mk:∀a,x=.ref a->(∃xs,aE K H1 a xs)->R (nD K a) H1->ld K R x H1
def CK(K:W.Frag)(G:TE):TI:=λσ H R=>G σ H λx H1=>ld K R x H1
theorem qi(hl:PE X l tl):PI X tg l (Db X.K tl):=by
 intro c s g H R I h;refine aF (hl c s g H _ I h) λv f ⟨x,r,d,i,j⟩=>?_;obtain⟨a,e,⟨t,n⟩,q⟩:=j;subst e;cases i;obtain⟨m,u,p,w⟩:=d.list n;refine wpAny_pyIter_list p.isList ?_;refine⟨f.heap.objs.size,[f.heap.objs.size],_,_,r,J,d.kept λb o e=>aj _ e,JC a _,⟨_,bf _ J,J,J⟩,λb y=>?_,q⟩;have e:b=f.heap.objs.size:=by simp_all
 subst e;exact d.fpOk (ae _) (d.hok.fresh (ae _))
theorem j1(hl:PE X l tl):PI X tg l (CK X.K tl):=by
 intro c s g H R I h;refine aF (hl c s g H _ I h) λv f ⟨x,r,d,i,j⟩=>?_;obtain⟨a,e,⟨t,n⟩,q⟩:=j;subst e;cases i;obtain⟨m,u,p,w⟩:=d.tuple n;refine wpAny_pyIter_tuple (p) ?_;refine⟨f.heap.objs.size,[f.heap.objs.size],_,_,r,J,d.kept λb o e=>aj _ e,LC a _,⟨_,bf _ J,J,J⟩,λb y=>?_,q⟩;have e:b=f.heap.objs.size:=by simp_all
 subst e;exact d.fpOk (ae _) (d.hok.fresh (ae _))
theorem Hm{R:It->Hp->Prop}{a:Int}{t u v:Tok}{d:Nat}(I:Inv X pins σ H s)(i: -(2^62)<=lo)(h:lo<2^62)(g: -(2^62)<=a)(f:a<2^62)(q:R (pr lo (a-lo).toNat) H):wpAny (model X.prog X.w) X.A (pyIter (.ref s.heap.objs.size)) (qY X pins σ tg R) E {s with heap:=s.heap.push {cls:=.type "range",data:=.fields #[.int lo t,.int a u,.int 1 v]},toks:=d}:=by
 refine wpAny_pyIter_range (IsRange.new ..) (small_one i h g f) ?_;have c:Inv X pins σ H {s with heap:=s.heap.push {cls:=.type "range",data:=.fields #[.int lo t,.int a u,.int 1 v]},toks:=d}:=I.kept λb o e=>aj _ e;refine⟨(s.heap.push {cls:=.type "range",data:=.fields #[.int lo t,.int a u,.int 1 v]}).objs.size,[(s.heap.push {cls:=.type "range",data:=.fields #[.int lo t,.int a u,.int 1 v]}).objs.size],_,_,H,J,c.kept λb o e=>aj _ e,Ls _ lo (a-lo).toNat,?_,λb m=>?_,q⟩
 have l:lo+((0:Nat))*1=lo:=by simp
 have j:((a-lo).toNat:Int)-((0:Nat))=Builtin.Range.rangeSize lo a 1:=by rw[rangeSize_one];omega
 rw[l,j];exact bf _ J;have e:b=(s.heap.push {cls:=.type "range",data:=.fields #[.int lo t,.int a u,.int 1 v]}).objs.size:=by simp_all
 subst e;exact c.fpOk (ae _) (c.hok.fresh (ae _))
inductive iA(R:It->Hp->Prop)(vs:List V)(H1:Hp):Prop|mk:∀j:Int,vs=[.int j]-> -(2^62)<=j->j<2^62->R (pr 0 j.toNat) H1->iA R vs H1
def Dc(ta:TA):TI:=λσ H R=>ta σ H λvs H1=>iA R vs H1
theorem ww{a:Expr}{ta:TA}(m:Gl X "range")(l:X.mg "range"=none)(n:PA X [a] ta)(hs:starEach [a] X.env=[(false,eval a X.env)]:=by rfl):PI X tg (.Call (.Name "range" p) [a] [] aD) (Dc ta):=by intro b s d H R I h;refine Call_ (Ym I m l boot_range (PyProof.Rows.callWith_type1 (aF (n aD b s d H _ I h) λv w ⟨u,x,o,g,c⟩=>?_) hs J));obtain⟨j,e,c,i,q⟩:=c;subst e;cases g with| cons r f=>cases f;obtain⟨t,rfl⟩:=r;exact call_range_1 (Hm o (by omega) (by omega) c i (by simp_all))
inductive cK(g:TG)(tb:TS)(D:Ends)(σ:St)(J:It)(H1:Hp):Prop|mk:∀W:Nat->Nat->St->Hp->Prop,(∃m,W 0 m σ H1)->(∀i m σ H,W i m σ H-> (J.stop i H/\D.nx σ H)\/(J.go i H/\∃N:St->Hp->Prop,(∀σ' H',N σ' H'->∃m',m'<m/\W (i+1) m' σ' H')/\∀x H',J.yld i H x H'->g x σ H' λσ2 H2=>tb (D.lp N) σ2 H2))->cK g tb D σ J H1
def CV(G:TI)(g:TG)(tb:TS):TS:=λD σ H=>G σ H λJ H1=>cK g tb D σ J H1
noncomputable def K1(G:List Addr)(h:Heap):List (Addr×Obj):=G.filterMap λb=>(h.get? b).map λo=>(b,o)
theorem Yk{o:Obj}(a:b∈fp)(e:h.get? b=some o):(b,o)∈K1 fp h:=List.mem_filterMap.mpr ⟨b,a,by rw[e];rfl⟩
theorem IB{p:Addr×Obj}(hp:p∈K1 fp h):p.1∈fp/\h.get? p.1=some p.2:=by obtain⟨b,a,e⟩:=List.mem_filterMap.mp hp;cases q:h.get? b with|none=>simp_all| some o=>grind
theorem Inv.pinned(I:Inv X pins σ H s)(c:∀b∈fp,Jq X pins H b)(f:∀b∈fp,∃o,s.heap.get? b=some o/\∀v,o.data≠ .cell v):Inv X (pins++K1 fp s.heap) σ H s:=
 I.pins_of λp a=>(ce.mp a).elim (λz=>I.pin p (cu _ z)) λz=>by
  obtain⟨d,e⟩:=IB z;obtain⟨i,h,g,_⟩:=c p.1 d
  grind
theorem Inv.unpinned(I:Inv X (pins++pl) σ H s):Inv X pins σ H s:=I.pins_of λp a=>I.pin p (cu _ (dk _ a))
theorem wy{Z:Expr}{wi:TI}(hp:PassesOwn (model X.prog X.w) X.A X.env X.xe)(hc:X.calm=true)(hi:PI X tg Z wi)(hg:PG X tg g)(q:eG X fo tb)(hs:∀x,foldedSetIterable Z X.env x=pure x:=by intro _;rfl):PS X (.For tg Z fo [] aD) (CV wi g tb):=by
 intro c s σ H D I h;refine wpAny_For (aF (hi c s σ H _ I h) λv s1 h1=>aF h1 λah s2 h2=>?_) hs;obtain⟨it,L,tn,J,H2,e,I2,T,Q,f2,W,⟨m0,w0⟩,C⟩:=h2;subst e;have p:∀{y:Hp},(∀b∈L,y b=none)->∀b∈L,Jq X c y b:=λhn b q=>⟨hn b q,(f2 b q).2⟩
 refine codeAny_forLoop_any (λn s'=>∃i l y,Inv X c l y s'/\tn i s'.heap/\(∀b∈L,y b=none)/\W i n l y) ?_ m0 ⟨0,σ,H2,I2,Q,λb q=>(f2 b q).1,w0⟩;rintro n s3 ⟨i,j,M,I3,F,K,w3⟩;rcases C i n j M w3 with⟨E,qn⟩|⟨go,N,hN,step⟩;refine wpAny_passesOwn hp (aF (T.done X rfl rfl rfl hc i c s3 j M X.xe I3 (p K) F E) λr s4 ⟨S,I4⟩=>?_);subst S;exact wpAny_execs_nil ⟨j,M,I4,qn⟩
 . refine wpAny_passesOwn hp (aF (T.item X rfl rfl rfl hc i c s3 j M X.xe I3 (p K) F go) λr s4 ⟨u,S,h4⟩=>?_);subst S;refine wpAny_passesOwn hp (aF h4 λ_ s5 ⟨x,H5,I5,r5,y5,A,U⟩=>?_);have af:=I5.pinned (p U) (T.obj _ _ A);refine wpAny_passesOwn hp (aF (hg _ s5 j H5 x u _ af r5 (step x H5 y5)) λ_ s6 ⟨P,H6,I6,q6⟩=>?_);refine wpAny_passesOwn hp (aF (q _ s6 P H6 _ I6 q6) λf R z=>?_);have again:∀{a:St} {w:Hp},Inv X (c++K1 L s5.heap) a w R->N a w->∃m,m<n/\∃i l y,Inv X c l y R/\tn i R.heap/\(∀b∈L,y b=none)/\W i m l y:=λ{a w} t G=>by obtain⟨m',hm,w7⟩:=hN a w G;refine⟨m',hm,i+1,a,w,t.unpinned,T.keep _ _ _ A λb q o e=>(t.pin (b,o) (cu _ (cu _ (Yk q e)))).1,λb q=>?_,w7⟩;obtain⟨o,e,d⟩:=T.obj _ _ A b q;exact(t.pin (b,o) (cu _ (cu _ (Yk q e)))).2.1
   cases f with|next=>obtain⟨a,w,t,G⟩:=z;exact again t G|cont=>obtain⟨a,w,t,G⟩:=z;exact again t G|brk=>obtain⟨a,w,t,z⟩:=z;exact⟨a,w,t.unpinned,z⟩|ret v=>obtain⟨x7,a,w,t,r7,z⟩:=z;exact⟨x7,a,w,t.unpinned,r7,z⟩
end
theorem Zn{K:W.Frag}(Pv:Nat->St->Hp->Prop)(h0:Pv 0 σ H)(hl:∀i σ H,i<=xs.length->Pv i σ H->aG K H a xs)(hs:∀i x σ H,xs[i]?=some x->Pv i σ H->g x σ H λb H2=>tb (D.lp (Pv (i+1))) b H2) (j:∀σ H,Pv xs.length σ H->D.nx σ H):
  cK g tb D σ (rj K a) H:=by
 refine⟨λi m σ H=>m=xs.length-i/\i<=xs.length/\Pv i σ H,⟨xs.length,by simp,be _,h0⟩,?_⟩;rintro i m σ H ⟨rfl,h,p⟩;have q:=hl i σ H h p;by_cases c:i<xs.length;refine .inr ⟨⟨xs,xs[i],q,by simp⟩,Pv (i+1),λd l f=>⟨xs.length-(i+1),by omega,J,c,f⟩,λx l y=>?_⟩;obtain⟨e,y⟩:=y
 grind
 have e:i=xs.length:=by omega
 subst e;exact .inl ⟨⟨xs,q,ae _⟩,j σ H p⟩
theorem V4{K:W.Frag}(Pv:Nat->St->Hp->Prop)(h0:Pv 0 σ H)(hl:∀i σ H,i<=xs.length->Pv i σ H->aE K H a xs)(hs:∀i x σ H,xs[i]?=some x->Pv i σ H->g x σ H λb H2=>tb (D.lp (Pv (i+1))) b H2) (j:∀σ H,Pv xs.length σ H->D.nx σ H):
  cK g tb D σ (nD K a) H:=by
 refine⟨λi m σ H=>m=xs.length-i/\i<=xs.length/\Pv i σ H,⟨xs.length,by simp,be _,h0⟩,?_⟩;rintro i m σ H ⟨rfl,h,p⟩;have q:=hl i σ H h p;by_cases c:i<xs.length;refine .inr ⟨⟨xs,xs[i],q,by simp⟩,Pv (i+1),λd l f=>⟨xs.length-(i+1),by omega,J,c,f⟩,λx l y=>?_⟩;obtain⟨e,y⟩:=y
 grind
 have e:i=xs.length:=by omega
 subst e;exact .inl ⟨⟨xs,q,ae _⟩,j σ H p⟩
theorem Xs{n:Nat}(Pv:Nat->St->Hp->Prop)(h0:Pv 0 σ H)(hs:∀i σ H,i<n->Pv i σ H->g (.int (lo+i)) σ H λb H2=>tb (D.lp (Pv (i+1))) b H2) (f:∀σ H,Pv n σ H->D.nx σ H):
  cK g tb D σ (pr lo n) H:=by
 refine⟨λi m σ H=>m=n-i/\i<=n/\Pv i σ H,⟨n,by simp,be _,h0⟩,?_⟩;rintro i m σ H ⟨rfl,j,p⟩;by_cases a:i<n;refine .inr ⟨a,Pv (i+1),λc h d=>⟨n-(i+1),by omega,J,a,d⟩,λx h y=>?_⟩;obtain⟨e,y⟩:=y
 simp_all
 have e:i=n:=by omega
 subst e;exact .inl ⟨ae _,f σ H p⟩
abbrev R2:=V->V->Hp->VK->Prop
def cI(X:Cx)(f:Value->Value->Sem Value)(r:R2):Prop:=
 ∀ (pins:List (Addr×Obj)) (s:Shared) (σ:St) (H:Hp) (x y:V) (v u:Value) (Q:VK),Inv X pins σ H s->ym x v->ym y u->r x y H Q->
   wpAny (model X.prog X.w) X.A (f v u) (EP X pins σ Q) X.xe s
def uX(X:Cx)(f:Value->Sem Value)(r:V->Hp->VK->Prop):Prop:=
 ∀ (pins:List (Addr×Obj)) (s:Shared) (σ:St) (H:Hp) (x:V) (v:Value) (Q:VK),Inv X pins σ H s->ym x v->r x H Q->
   wpAny (model X.prog X.w) X.A (f v) (EP X pins σ Q) X.xe s
def jj(X:Cx)(f:Value)(r:List V->Hp->VK->Prop):Prop:=
 ∀ (pins:List (Addr×Obj)) (s:Shared) (σ:St) (H:Hp) (xs:List V) (us:List Value) (Q:VK),Inv X pins σ H s->yn xs us->r xs H Q->
   wpAny (model X.prog X.w) X.A (call f us) (EP X pins σ Q) X.xe s
def CB(X:Cx)(r:V->Hp->(Bool->Hp->Prop)->Prop):Prop:=
 ∀ (pins:List (Addr×Obj)) (s:Shared) (σ:St) (H:Hp) (x:V) (v:Value) (Q:Bool->Hp->Prop),Inv X pins σ H s->ym x v->r x H Q->
   wpAny (model X.prog X.w) X.A (truthy v) (TP X pins σ Q) X.xe s
def qP(r:R2)(ta tb:TE):TE:=λσ H Q=>ta σ H λx H1=>tb σ H1 λy H2=>r x y H2 Q
def MH(r:V->Hp->VK->Prop)(ta:TE):TE:=λσ H Q=>ta σ H λx H1=>r x H1 Q
inductive rI(C:Int->Int->Prop)(g:Int->Int->V)(x y:V)(H:Hp)(Q:VK):Prop|mk:∀i j,x=.int i->y=.int j->C i j->Q (g i j) H->rI C g x y H Q
inductive jS(g:Int->Int->V)(x y:V)(H:Hp)(Q:VK):Prop|mk:∀i j,x=.int i->y=.int j->Q (g i j) H->jS g x y H Q
inductive rU(g:Int->V)(x:V)(H:Hp)(Q:VK):Prop|mk:∀i,x=.int i->Q (g i) H->rU g x H Q
section
variable{a b:Expr}{tb tc:TE}
theorem rD(j:PE X a ta)(i:PE X b tb){R:V->V->Hp->Prop}(I:Inv X pins σ H s)(h:ta σ H λx H1=>tb σ H1 λy H2=>R x y H2) {f:Value->Value->Sem Value}
  (p:∀v u d x y H2,Inv X pins σ H2 d->ym x v->ym y u->R x y H2->wpAny (model X.prog X.w) X.A (f v u) Q X.xe d):
  wpAny (model X.prog X.w) X.A (eval a X.env) (λv c=>wpAny (model X.prog X.w) X.A (eval b X.env) (λu s₂=>wpAny (model X.prog X.w) X.A (f v u) Q X.xe s₂) X.xe c) X.xe s:=by
 refine aF (j pins s σ H _ I h) λv e ⟨x,H1,l,n,g⟩=>?_;refine aF (i pins e σ H1 _ l g) λu d ⟨y,H2,q,m,o⟩=>?_
 grind
theorem ya{d:Operator}{r:R2}(j:cI X (binaryOp d) r)(m:PE X a ta)(l:PE X b tb):PE X (.BinOp a d b aD) (qP r ta tb):=by intro c s e H Q I h;exact wpAny_BinOp (rD m l I h λv u f x y o n i g q=>j c f e o x y v u Q n i g q)
theorem rQ{d:UnaryOp}{r:V->Hp->VK->Prop}(i:uX X (unaryOp d) r)(j:PE X a ta):PE X (.UnaryOp d a aD) (MH r ta):=by intro b s c H Q I h;exact UnaryOp_ (aF (j b s c H _ I h) λv e ⟨x,m,l,f,g⟩=>i b e c m x v Q l f g)
theorem oQ{f:Value->Value->Sem Value}{C:Int->Int->Prop}{g:Int->Int->Int}(rule:∀(i j:Int)(t u:Tok)(s:Shared)(Q:Value->Shared->Prop)(E:Value->Shared->Prop),C i j->Q (.int (g i j) s.toks) {s with toks:=s.toks+1}->wpAny (model X.prog X.w) X.A (f (.int i t) (.int j u)) Q E s):
  cI X f (rI C λi j=>.int (g i j)):=by intro a s l H x y v u Q I d c h;obtain⟨i,j,rfl,rfl,e,q⟩:=h;obtain⟨t,rfl⟩:=d;obtain⟨b,rfl⟩:=c;exact rule i j t b s _ _ e ⟨.int (g i j),H,I.tok _,⟨_,J⟩,q⟩
theorem vO{f:Value->Value->Sem Value}{g:Int->Int->Int}(rule:∀(i j:Int)(t u:Tok)(s:Shared)(Q:Value->Shared->Prop)(E:Value->Shared->Prop),Q (.int (g i j) s.toks) {s with toks:=s.toks+1}->wpAny (model X.prog X.w) X.A (f (.int i t) (.int j u)) Q E s):
  cI X f (jS λi j=>.int (g i j)):=by intro a s e H x y v u Q I d c h;obtain⟨i,j,rfl,rfl,q⟩:=h;obtain⟨t,rfl⟩:=d;obtain⟨b,rfl⟩:=c;exact rule i j t b s _ _ ⟨.int (g i j),H,I.tok _,⟨_,J⟩,q⟩
theorem pJ{f:Value->Value->Sem Value}{g:Int->Int->Bool}(rule:∀(i j:Int)(t u:Tok)(s:Shared)(Q:Value->Shared->Prop)(E:Value->Shared->Prop),Q (.bool (g i j)) s->wpAny (model X.prog X.w) X.A (f (.int i t) (.int j u)) Q E s):
  cI X f (jS λi j=>.bl (g i j)):=by intro a s e H x y v u Q I d c h;obtain⟨i,j,rfl,rfl,q⟩:=h;obtain⟨t,rfl⟩:=d;obtain⟨b,rfl⟩:=c;exact rule i j t b s _ _ ⟨.bl (g i j),H,I,J,q⟩
def Cz(i j:Int):Prop:=0<=j/\j<=1000000/\i.natAbs<2^64
def iN(i j:Int):Prop:=(-(2^64)<i/\i<2^64)\/(-(2^64)<j/\j<2^64)
theorem iN.ok{i j:Int}(h:iN i j):IntMulOk i j:=by rcases h with⟨b,a⟩|⟨b,a⟩;exact .of_left (intBits_le_64 b a);exact .of_right (intBits_le_64 b a)
theorem xv:cI X (binaryOp .Add) (jS λi j=>.int (i+j)):=vO λ_ _ _ _ _ _ _ q=>add_int q
theorem Y6:cI X (binaryOp .Sub) (jS λi j=>.int (i-j)):=vO λ_ _ _ _ _ _ _ q=>sub_int q
theorem wb:cI X (binaryOp .Mult) (rI iN λi j=>.int (i*j)):=oQ λ_ _ _ _ _ _ _ a q=>mul_int q a.ok
theorem Y7:cI X (binaryOp .Mod) (rI (λ_ j=>0<j) λi j=>.int (i%j)):=oQ λi j _ _ _ _ _ a q=>by exact mod_int' (by omega) (by grind)
theorem EO:cI X (binaryOp .Pow) (rI Cz λi j=>.int (i^j.toNat)):=oQ λ_ _ _ _ _ _ _ a q=>pow_int_small a.1 a.2.1 a.2.2 q
theorem Fc:cI X (inplaceOp .Mult) (rI iN λi j=>.int (i*j)):=oQ λ_ _ _ _ _ _ _ a q=>imul_int q a.ok
theorem MG{f:Value->Sem Value}{g:Int->Int}(rule:∀(i:Int)(t:Tok)(s:Shared)(Q:Value->Shared->Prop)(E:Value->Shared->Prop),Q (.int (g i) s.toks) {s with toks:=s.toks+1}->wpAny (model X.prog X.w) X.A (f (.int i t)) Q E s):
  uX X f (rU λi=>.int (g i)):=by intro a s c H x v Q I b h;obtain⟨i,rfl,q⟩:=h;obtain⟨t,rfl⟩:=b;exact rule i t s _ _ ⟨.int (g i),H,I.tok _,⟨_,J⟩,q⟩
theorem tK:uX X (unaryOp .USub) (rU λi=>.int (-i)):=MG λ_ _ _ _ _ q=>neg_int q
end
noncomputable def wC:V->V->Bool|.non,.non=>true|.non,.int _=>true|.int _,.non=>true|.non,.bl _=>true|.bl _,.non=>true|.non,.str _=>true|.str _,.non=>true|.int _,.int _=>true|.bl _,.bl _=>true|.str _,.str _=>true|.byt _,.byt _=>true|.int _,.str _=>true|.str _,.int _=>true|.bl _,.str _=>true|.str _,.bl _=>true|_,_=>false
def MP:R2:=λx y H Q=>wC x y=true/\Q (.bl (decide (x=y))) H
def MO:R2:=λx y H Q=>wC x y=true/\Q (.bl (!decide (x=y))) H
theorem ua{i j:Int}:decide (V.int i=V.int j)=(i==j):=by grind
theorem xN{i j:Bool}:decide (V.bl i=V.bl j)=(i==j):=by grind
theorem Aa{i j:Str}:decide (V.str i=V.str j)=(i==j):=by grind
theorem zZ{i j:Array UInt8}:decide (V.byt i=V.byt j)=(i.toList==j.toList):=by rw[Bool.eq_iff_iff];simp
section
variable{a b:Expr}{tb tc:TE}
theorem xb{Q:VK}{k a:Bool}(I:Inv X pins σ H s)(q:Q (.bl k) H)(e:k=a):EP X pins σ Q (.bool a) s:=by subst e;exact⟨.bl k,H,I,J,q⟩
theorem y0:cI X (compareOp .Eq) MP:=by
 intro e s f H x y v u Q I d a h;obtain⟨c,q⟩:=h;cases x with
 | non=>
   cases d;cases y with
   |non=>cases a;exact EqNone.eq_none_none (xb I q (by simp))
   |bl j=>cases a;exact EqNone.eq_none_bool (xb I q (by simp))
   |int j=>obtain⟨b,rfl⟩:=a;exact EqNone.eq_none_int (xb I q (by simp))
   |str j=>obtain⟨b,rfl⟩:=a;exact EqNone.eq_none_str (xb I q (by simp))
   |_=>exact absurd (c) br
 | bl i=>
   cases d;cases y with
   |non=>cases a;exact EqNone.eq_bool_none (xb I q (by simp))
   |bl j=>cases a;exact eq_bool (xb I q xN)
   |str j=>obtain⟨b,rfl⟩:=a;exact EqMixed.eq_bool_str (xb I q (by simp))
   |_=>exact absurd (c) br
 | int i=>
   obtain⟨t,rfl⟩:=d;cases y with
   |non=>cases a;exact EqNone.eq_int_none (xb I q (by simp))
   |int j=>obtain⟨b,rfl⟩:=a;exact eq_int (xb I q ua)
   |str j=>obtain⟨b,rfl⟩:=a;exact EqMixed.eq_int_str (xb I q (by simp))
   |_=>exact absurd (c) br
 | str i=>
   obtain⟨t,rfl⟩:=d;cases y with
   |non=>cases a;exact EqNone.eq_str_none (xb I q (by simp))
   |bl j=>cases a;exact EqMixed.eq_str_bool (xb I q (by simp))
   |int j=>obtain⟨b,rfl⟩:=a;exact EqMixed.eq_str_int (xb I q (by simp))
   |str j=>obtain⟨b,rfl⟩:=a;exact eq_str (xb I q Aa)
   |_=>exact absurd (c) br
 | byt i=>
   obtain⟨t,rfl⟩:=d;cases y with
   |byt j=>obtain⟨b,rfl⟩:=a;exact W.eq_bytes (xb I q zZ)
   |_=>exact absurd (c) br
 |_=>cases y<;>exact absurd (c) br
theorem X1:cI X (compareOp .NotEq) MO:=by
 intro e s f H x y v u Q I d a h;obtain⟨c,q⟩:=h;cases x with
 | non=>
   cases d;cases y with
   |non=>cases a;exact EqNone.ne_none_none (xb I q (by simp))
   |bl j=>cases a;exact EqNone.ne_none_bool (xb I q (by simp))
   |int j=>obtain⟨b,rfl⟩:=a;exact EqNone.ne_none_int (xb I q (by simp))
   |str j=>obtain⟨b,rfl⟩:=a;exact EqNone.ne_none_str (xb I q (by simp))
   |_=>exact absurd (c) br
 | bl i=>
   cases d;cases y with
   |non=>cases a;exact EqNone.ne_bool_none (xb I q (by simp))
   |bl j=>cases a;exact ne_bool (xb I q (congrArg not xN))
   |str j=>obtain⟨b,rfl⟩:=a;exact EqMixed.ne_bool_str (xb I q (by simp))
   |_=>exact absurd (c) br
 | int i=>
   obtain⟨t,rfl⟩:=d;cases y with
   |non=>cases a;exact EqNone.ne_int_none (xb I q (by simp))
   |int j=>obtain⟨b,rfl⟩:=a;exact ne_int (xb I q (congrArg not ua))
   |str j=>obtain⟨b,rfl⟩:=a;exact EqMixed.ne_int_str (xb I q (by simp))
   |_=>exact absurd (c) br
 | str i=>
   obtain⟨t,rfl⟩:=d;cases y with
   |non=>cases a;exact EqNone.ne_str_none (xb I q (by simp))
   |bl j=>cases a;exact EqMixed.ne_str_bool (xb I q (by simp))
   |int j=>obtain⟨b,rfl⟩:=a;exact EqMixed.ne_str_int (xb I q (by simp))
   |str j=>obtain⟨b,rfl⟩:=a;exact ne_str (xb I q (congrArg not Aa))
   |_=>exact absurd (c) br
 | byt i=>
   obtain⟨t,rfl⟩:=d;cases y with
   |byt j=>obtain⟨b,rfl⟩:=a;exact W.ne_bytes (xb I q (congrArg not zZ))
   |_=>exact absurd (c) br
 |_=>cases y<;>exact absurd (c) br
theorem mV:cI X (compareOp .Lt) (jS λi j=>.bl (decide (i<j))):=pJ λ_ _ _ _ _ _ _ q=>lt_int q
theorem Vw:cI X (compareOp .LtE) (jS λi j=>.bl (decide (i<=j))):=pJ λ_ _ _ _ _ _ _ q=>le_int q
theorem Je:cI X (compareOp .Gt) (jS λi j=>.bl (decide (j<i))):=pJ λ_ _ _ _ _ _ _ q=>gt_int q
theorem rZ:cI X (compareOp .GtE) (jS λi j=>.bl (decide (j<=i))):=pJ λ_ _ _ _ _ _ _ q=>ge_int q
theorem yB:cI X (compareOp .Is) (λx y H Q=>y=.non/\Q (.bl (decide (x=.non))) H):=by intro b s d H x y v u Q I a c h;obtain⟨rfl,q⟩:=h;cases c;refine is_none_gen (xb I q ?_);cases x<;>first|(cases a;rfl)|(obtain⟨t,rfl⟩:=a;rfl)
theorem zu(b:Expr){a:CmpOp}(h:a≠ .In:=by decide)(e:a≠ .NotIn:=by decide):behindInMarks a b=false:=by
 have d:(a==CmpOp.In)=false:=by simp_all
 have c:(a==CmpOp.NotIn)=false:=by simp_all
 cases b<;>simp[behindInMarks,d,c]
theorem qa{d:CmpOp}{r:R2}(j:cI X (compareOp d) r)(n:PE X a ta)(m:PE X b tb)(l:behindInMarks d b=false):PE X (.Compare a [d] [b] aD) (qP r ta tb):=by intro c s e H Q I h;exact wpAny_Compare1 (rD n m I h λv u f x y p o i g q=>j c f e p x y v u Q o i g q) l
inductive gO(Q:Bool->Hp->Prop)(x:V)(H':Hp):Prop|mk:∀k,x=.bl k->Q k H'->gO Q x H'
def wS(t:TE):TT:=λσ H Q=>t σ H λx H'=>gO Q x H'
theorem zm{g:CmpOp}{r:R2}(t:cI X (compareOp g) r)(C:PE X a ta)(A:PE X b tb)(w:behindInMarks g b=false):PT X (.Compare a [g] [b] aD) (wS (qP r ta tb)):=by
 intro d s f H Q I h;refine wpAny_isTrue_Compare1 (aF (C d s f H _ I h) λv j ⟨x,L,F,n,q⟩=>aF (A d j f L _ F q) λu i ⟨y,K,E,m,p⟩=>aF (t d i f K x y v u _ E n m p) λc M ⟨z,G,D,l,k,e,o⟩=>?_) w
 subst e;cases l;exact wpAny_truthy_bool ⟨G,D,o⟩
inductive fF(r':R2)(tc:TE)(σ:St)(Q:VK)(y z:V)(H3:Hp):Prop|mk:∀k,z=.bl k->(if k=true then tc σ H3 λw' H4=>r' y w' H4 Q else Q (.bl false) H3)->fF r' tc σ Q y z H3
def yH(r U:R2)(ta tb G:TE):TE:=λσ H Q=>ta σ H λx H1=>tb σ H1 λy H2=>r x y H2 λz Z=>fF U G σ Q y z Z
theorem Vv{j g:CmpOp}{r n:R2}(P:cI X (compareOp j) r)(l:cI X (compareOp g) n)(W:PE X a ta)(U:PE X b tb)(S:PE X c tc)(R:lastMarks [j,g] [b,c]=false:=by with_unfolding_all rfl):PE X (.Compare a [j,g] [b,c] aD) (yH r n ta tb tc):=by
 intro f s i H Q I h;refine Compare_chain (aF (W f s i H _ I h) λv E ⟨x,H1,I1,K,N⟩=>chain_link (aF (U f E i H1 _ I1 N) λu D ⟨y,H2,I2,m,M⟩=>aF (P f D i H2 x y v u _ I2 K m M) λd C ⟨z,q,p,G,k,e,o⟩=>?_)) R
 subst e;cases G;refine wpAny_truthy_bool ?_;cases k with|false=>exact ite_ff ⟨.bl false,q,p,J,o⟩|true=>exact ite_tt (chain_last (aF (S f C i q _ p o) λw A ⟨t,H4,Z,F,L⟩=>l f A i H4 y t u w Q Z m F L))
theorem Hi{j g:CmpOp}{r n:R2}(U:cI X (compareOp j) r)(l:cI X (compareOp g) n)(ha:PE X a ta)(hb:PE X b tb)(Z:PE X c tc)(W:lastMarks [j,g] [b,c]=false:=by with_unfolding_all rfl):PT X (.Compare a [j,g] [b,c] aD) (wS (yH r n ta tb tc)):=by
 intro f s i H Q I h;refine isTrue_chain (aF (ha f s i H _ I h) λv E ⟨x,H1,I1,L,R⟩=>test_link (aF (hb f E i H1 _ I1 R) λu D ⟨y,H2,I2,m,P⟩=>aF (U f D i H2 x y v u _ I2 L m P) λd C ⟨z,q,p,K,k,e,o⟩=>?_)) W
 subst e;cases K;refine wpAny_truthy_bool ?_;cases k with| false=>obtain⟨k',e',S⟩:=o;cases e';exact ite_ff ⟨q,p,S⟩| true=>refine ite_tt (test_last (aF (Z f C i q _ p o) λw A ⟨t,H4,I4,G,N⟩=>aF (l f A i H4 y t u w _ I4 m G N) λd' s5 ⟨z2,H5,I5,F,k2,e2,M⟩=>?_));subst e2;cases F;exact wpAny_truthy_bool ⟨H5,I5,M⟩
def vX(K:W.Frag)(x:V)(H:Hp)(k:Bool):Prop:=match x with|.non=>k=false|.bl b=>k=b|.int i=>k=(i !=0)|.str y=>y.length<=sizeLine/\k=((y.length:Int) !=0)|.byt y=>y.size<=sizeLine/\k=((y.size:Int) !=0)|.ref p=>(∃xs,aG K H p xs/\k= !xs.isEmpty)\/(∃xs,aE K H p xs/\k= !xs.isEmpty)\/∃kvs,H p=some (.dK kvs)/\k= !kvs.isEmpty|_=>False
theorem KB{a:Type}{kvs:O (a×V)}{vs:O (a×I)}(r:KV kvs vs):(!vs.isEmpty)= !kvs.isEmpty:=by cases r<;>rfl
theorem B0(r:yn xs its):(!its.toArray.isEmpty)= !xs.isEmpty:=by cases r<;>simp
theorem Wk:(sizeLine:Nat)<2^63:=by rw[sizeLine_eq];decide
theorem ED:CB X (λx H Q=>∃k,vX X.K x H k/\Q k H):=by intro o s C H x v Q I d h;obtain⟨k,e,q⟩:=h;have D:=sizeLine_eq;cases x with| non=>cases d;have a:=e;subst a;exact truthy_none ⟨H,I,q⟩| bl b=>cases d;have a:=e;subst a;exact wpAny_truthy_bool ⟨H,I,q⟩| int i=>obtain⟨t,rfl⟩:=d;have a:=e;subst a;exact P.truthy_int ⟨H,I,q⟩| str y=>obtain⟨t,rfl⟩:=d;obtain⟨z,a⟩:y.length<=sizeLine/\k=((y.length:Int) !=0):=e;subst a;exact P.truthy_str (by omega) ⟨H,I.tok _,q⟩| byt y=>obtain⟨t,rfl⟩:=d;obtain⟨z,a⟩:y.size<=sizeLine/\k=((y.size:Int) !=0):=e;subst a;exact W.truthy_bytes (by omega) ⟨H,I.tok _,q⟩| ref p=>cases d;have a:=e;rcases a with⟨w,g,a⟩|⟨w,g,a⟩|⟨f,g,a⟩;subst a;obtain⟨n,r,l,u⟩:=I.list g;have c:=r.length;exact wpAny_truthy_list l.isList (by grind) ⟨H,I.tok _,by rw[B0 r];exact q⟩;subst a;obtain⟨n,r,l,u⟩:=I.tuple g;have c:=r.length;exact truthy_tuple l (by grind) ⟨H,I.tok _,by rw[B0 r];exact q⟩;subst a;obtain⟨u,A,j,r,m⟩:f.length<=sizeLine/\(p==sysModules)=false/\∃j,KV f j/\s.heap.DictOf (zy X.prog X.w) p j:=I.hok p _ g;have c:=Paired.length r;exact wpAny_truthy_dict A m (by omega) ⟨H,I.tok _,by rw[KB r];exact q⟩|_=>exact(e).elim
theorem Hj(g:PE X a ta)(he:∀b,isTrue a X.env b=(do let v<-b;standAt a.pos;holding [v] (truthy v))):PT X a (λσ H Q=>ta σ H λx H'=>∃k,vX X.K x H' k/\Q k H'):=by intro c s σ H Q I h;exact isTrue_plain (aF (g c s σ H _ I h) λv d ⟨x,j,i,e,f⟩=>ED c d σ j x v Q i e f) (he _)
theorem wj:cI X (binaryOp .Add) (λx y H Q=>∃i j,x=.str i/\y=.str j/\i.length+j.length<=sizeLine/\Q (.str (i++j)) H):=by intro a s f H x y v u Q I d c h;obtain⟨i,j,rfl,rfl,e,q⟩:=h;obtain⟨t,rfl⟩:=d;obtain⟨b,rfl⟩:=c;exact add_str (λb g=>⟨.str (i++j),H,I.tok _,⟨_,J⟩,q⟩) e
theorem ql{x:V}(r:yn [x] us):∃u,us=[u]/\ym x u:=by cases r with|cons b a=>cases a;simp_all
theorem wT{x:V}(r:yn [x,y] us):∃u a,us=[u,a]/\ym x u/\ym y a:=by cases r with| cons e c=>cases c with|cons d b=>cases b;grind
theorem IG(c:X.calm=true):jj X (.builtin "max") (λxs H Q=>∃i j,xs=[.int i,.int j]/\Q (.int (if j>i then j else i)) H):=by
 intro b s d H xs f Q I r h;obtain⟨i,j,rfl,q⟩:=h;obtain⟨u,e,rfl,⟨t,rfl⟩,⟨l,rfl⟩⟩:=wT r;refine max_two_ints (I.ok.hd c) λm g k=>⟨_,H,I.kept k,?_,q⟩
 by_cases a:j>i;rw[if_pos a,if_pos a];exact⟨_,J⟩;rw[if_neg a,if_neg a];exact⟨_,J⟩
theorem vk:jj X (.type "str") (λxs H Q=>∃i,xs=[.int i]/\i.natAbs.log2<1920/\Q (.str (toString i)) H):=by intro a s c H xs d Q I r h;obtain⟨i,rfl,b,q⟩:=h;obtain⟨u,rfl,t,rfl⟩:=ql r;exact P.str_of_int b ⟨.str _,H,I.tok _,⟨_,J⟩,q⟩
end
structure fu(h:Heap)(x dx C:Addr)(mA:Str->Option Value):Prop where
 obj:h.get? x=some (W.instObj C dx)
 ns:h.Ns1 dx mA
 ne:dx≠x
theorem Ix(n:h.Ns1 dx mA):∃od,h.get? dx=some od/\∀name,W.lookIn name od=some (mA name):=by
 obtain⟨o,i,j,d,g,hk,_,f⟩:=n;refine⟨o,d,λname=>?_⟩;have e:=f name;unfold nsFind findBy at e;rw[<-Array.find?_toList]at e;unfold W.lookIn;rw[g];dsimp only;split
 simp_all
 rename_i q
 rw[q]at e;have a:i.toList.any (·.refKey)=false:=by rw[List.any_eq_false];intro y c;obtain⟨z,t,b⟩:=hk y (Array.mem_toList_iff.mp c);simp[DictEntry.refKey,b]
 simp_all
theorem fu.look{x:Y}(I:fu h x dx C mA):∃od,W.InstAt h x (W.instObj C dx) C (some od)/\∀name,W.lookIn name od=some (mA name):=
 let⟨od,a,b⟩:=Ix I.ns
 ⟨od,⟨I.obj,J,J,a⟩,b⟩
section
variable{K:W.Frag}{x f:Addr}{v:Value}
theorem E9{a:Bool}(X:K.In s.heap)(I:fu s.heap x dx C mA)(e:W.plainGet K C name=true)(hh:W.hasDictIn K C=true)(f:W.findIn K (.ref C) name=some none) (c:mA name=some v) (b:W.handedIn v=true) (h:Q v {s with toks:=s.toks+1}):
  wpAny (model prog w) A (getAttr (.ref x) name a) Q E s:=by obtain⟨g,J,d⟩:=I.look;exact W.get_value X J (W.plainGet_of e).1 (W.findObj_own hh f rfl (by rw[d,c])) b h
theorem Gk{b:Sem Bool}{Q:Value×O Value->Shared->Prop}(X:K.In s.heap)(I:fu s.heap x dx C mA)(a:W.plainGet K C name=true)(i:W.findIn K (.ref C) name=some (some (.ref f))) (e:W.isFn K (.ref f)=true) (d:mA name=none) (h:Q (.ref f,[.ref x]) s):
  wpAny (model prog w) A (getMethod (.ref x) name b) Q E s:=by obtain⟨c,J,g⟩:=I.look;exact W.method_fn X J (W.plainGet_of a).1 (W.plainGet_of a).2 i (beq_iff_eq.mp e) (by show(W.lookIn name c).map (·.isSome)=some false;rw[g,d];rfl) h
theorem FR{Q:Unit->Shared->Prop}(X:K.In s.heap)(I:fu s.heap x dx C mA)(hs:W.findIn K (.ref C) "__setattr__"=some (some (.builtin "object.__setattr__"))) (hp:W.plainOver K C=true) (l:W.takerIn K C name=some none) (hh:W.hasDictIn K C=true)
  (j:PySem.Within mA ns) (m:ns.length<=sizeLine)
  (h:∀h',fu h' x dx C (λy=>if y=name then some v else mA y)->Heap.SameBut dx s.heap h'->Q () {s with heap:=h',toks:=s.toks+2}):
  wpAny (model prog w) A (setAttr (.ref x) name v) Q E s:=by obtain⟨q,J,t⟩:=I.look;refine W.set_plain X J hs (W.osa_open X J hp l λb=>?_);obtain⟨u,n,f⟩:=W.any_some hh;have i:=I.obj;refine a4 (a9 (a4 (a4 (wpAny_loadPart i (a4 (W.Looks.here (W.looks_clsIn X n) ?_))))));rw[f];refine a9 (a4 (a9 (a4 ?_)));refine wpAny_nsSet1 I.ns λh' c a=>?_;obtain⟨r,o,p,d,e,g⟩:=c.count (PySem.Within.cons name v j);refine a4 (wpAny_lookBehind d (by rw[e];exact pastItsLine_dict (c9 g (by simp_all))) ?_);exact a9 (h _ ⟨(a.2 _ (ai I.ne)).trans I.obj,c,I.ne⟩ a)
theorem GA{vs:O I}{b:O (Str×I)}(X:K.In s.heap)(c:W.makesIn K C=true)(e:W.findIn K (.ref C) "__init__"=some (some (.ref f))) (i:W.typeIn K (.ref f)=some (.type "function"))
  (h:codeAny (model prog w) (A.under (.builtin "type.__call__" ⟨.ref C::vs,b⟩)) (.call (.ref f) ⟨.ref (s.heap.objs.size+1)::vs,b⟩) (W.InitBack (s.heap.objs.size+1) R) {s with heap:=(s.heap.push W.emptyDict).push (W.instObj C s.heap.objs.size)}):
  codeAny (model prog w) A (.call (.ref C) ⟨vs,b⟩) R s:=by obtain⟨j,g,d,t,os⟩:=s;exact W.make_core (W.makes_of X c) (W.looks_findIn X e) (λa=>W.bind_fn X a i) (.inl J) h
end
noncomputable def qb(f:Str)(v:V):List (Str×V)->List (Str×V)|[]=>[(f,v)]|(g,x)::r=>if g=f then(g,v)::r else(g,x)::qb f v r
theorem Jf(f g:Str)(v:V):∀fs:List (Str×V),(qb f v fs).lookup g=if g=f then some v else fs.lookup g
 | []=>by
   show List.lookup g [(f,v)]=_
   grind
 | (k,x)::r=>by
   have a:=Jf f g v r;rw[show qb f v ((k,x)::r)=(if k=f then(k,v)::r else(k,x)::qb f v r)from rfl]
   grind
theorem Q0(f:Str)(v:V):∀fs:List (Str×V),f∈(qb f v fs).map (·.1)/\∀g,g∈fs.map (·.1)->g∈(qb f v fs).map (·.1)
 |[]=>⟨by simp[qb],λg h=>by grind⟩
 | (k,x)::r=>by
   obtain⟨b,a⟩:=Q0 f v r;rw[show qb f v ((k,x)::r)=(if k=f then(k,v)::r else(k,x)::qb f v r)from rfl]
   grind
theorem Jg(f:Str)(v:V):∀fs:List (Str×V),(qb f v fs).length<=fs.length+1
 |[]=>by simp[qb]
 | (k,x)::r=>by
   have a:=Jg f v r;rw[show qb f v ((k,x)::r)=(if k=f then(k,v)::r else(k,x)::qb f v r)from rfl]
   grind
theorem Ys.some_of(r:Ys (some v) o):∃u,o=some u/\ym v u:=by cases o with|none=>exact(r).elim|some u=>exact⟨u,J,r⟩
theorem Ys.none_of(r:Ys none o):o=none:=by cases o with|none=>rfl|some u=>exact(r).elim
theorem Im(r:ym v u):W.handedIn u=true:=by cases v with|non=>cases(r);rfl|bl b=>cases(r);rfl|int i=>obtain⟨t,e⟩:=(r);cases e;rfl|str x=>obtain⟨t,e⟩:=(r);cases e;rfl|byt b=>obtain⟨t,e⟩:=(r);cases e;rfl|flt b=>obtain⟨t,e⟩:=(r);cases e;rfl|ref a=>cases(r);rfl|ty n=>cases(r);rfl
section
variable{fs MV:List (Str×V)}
theorem J6(b:bZ P w H h)(e:H a=some (.ins C dx fs)):∃mA,fu h a dx C mA/\(∀f,Ys (fs.lookup f) (mA f))/\PySem.Within mA (fs.map (·.1))/\fs.length<=1000/\H dx=some (.own a):=by
 obtain⟨d,z,g,c,mA,n,r,q⟩:=(b a _ e)
 exact⟨mA,⟨c,n,g⟩,r,q,z,d⟩
end
structure ge(K:W.Frag)(C:Addr):Prop where
 pg:W.plainGet K C Str.empty=true
 hd:W.hasDictIn K C=true
 po:W.plainOver K C=true
 sa:W.findIn K (.ref C) "__setattr__"=some (some (.builtin "object.__setattr__"))
theorem ge.get{K:W.Frag}(c:ge K C)(f:Str):W.plainGet K C f=true:=c.pg
def Yt(K:W.Frag)(C:Addr)(f:Str):Prop:=W.findIn K (.ref C) f=some none
theorem Yt.taker{K:W.Frag}(n:Yt K C f):W.takerIn K C f=some none:=by unfold W.takerIn;rw[(n)];rfl
structure iJ(K:W.Frag)(C:Addr)(m:Str)(f:Addr):Prop where
 at_:W.findIn K (.ref C) m=some (some (.ref f))
 fn:W.isFn K (.ref f)=true
 kp:W.keepIn K (.ref f)=true
section
variable{fs:List (Str×V)}
theorem KA{b:Bool}(I:Inv X pins σ H s)(e:H a=some (.ins C dx fs))(c:ge X.K C)(n:Yt X.K C f)(l:fs.lookup f=some v)(h:∀u s',Inv X pins σ H s'->ym v u->Q u s'):wpAny (model X.prog X.w) A (getAttr (.ref a) f b) Q E s:=by obtain⟨i,O,r,_,_,_⟩:=J6 I.hok e;obtain⟨u,g,d⟩:=Ys.some_of (by rw[<-l];exact r f);exact E9 I.kIn O (c.get f) c.hd n g (Im d) (h u _ (I.tok _) d)
theorem BY{g:Y}{b:Sem Bool}{Q:Value×List Value->Shared->Prop}(I:Inv X pins σ H s)(e:H a=some (.ins C dx fs))(c:ge X.K C)(k:iJ X.K C m g)(l:fs.lookup m=none)(h:Q (.ref g,[.ref a]) s):wpAny (model X.prog X.w) A (getMethod (.ref a) m b) Q E s:=by obtain⟨d,O,r,_,_,_⟩:=J6 I.hok e;have hn:=Ys.none_of (by rw[<-l];exact r m);exact Gk I.kIn O (c.get m) k.at_ k.fn hn h
theorem Ln{Q:Unit->Shared->Prop}(I:Inv X pins σ H s)(e:H a=some (.ins C dx fs))(c:ge X.K C)(n:Yt X.K C f)(hl:fs.length<1000)(l:ym y u)(h:∀s',Inv X pins σ (upd H a (.ins C dx (qb f y fs))) s'->Q () s'):wpAny (model X.prog X.w) A (setAttr (.ref a) f u) Q E s:=by
 obtain⟨F,O,r,i,_,p⟩:=J6 I.hok e;have m:(fs.map (·.1)).length<=sizeLine:=by rw[aa,sizeLine_eq];omega
 refine FR I.kIn O c.sa c.po n.taker c.hd i m λx d j=>h _ ?_;have v:∃o,x.get? dx=some o:=let⟨o,_,_,D,_⟩:=d.ns;⟨o,D⟩;refine I.write (by rw[e];exact True.intro) (.inr p) (λb q w z=>(j.2 b w).trans z) v ?_;refine⟨by rw[upd_ne O.ne];omega,?_,O.ne,d.obj,_,d.ns,λg=>?_,λg t=>?_⟩;have:=Jg f y fs;omega;rw[Jf];by_cases q:g=f;rw[if_pos q,if_pos q];exact l
 simp_all
 by_cases q:g=f;rw[q];exact(Q0 f y fs).1;refine(Q0 f y fs).2 g (i g λz=>t ?_)
 simp_all
theorem Inv.made(I:Inv X pins σ H s):Inv X pins σ (upd (upd H s.heap.objs.size (.own (s.heap.objs.size+1))) (s.heap.objs.size+1) (.ins C s.heap.objs.size []))
  {s with heap:=(s.heap.push W.emptyDict).push (W.instObj C s.heap.objs.size)}:=by
 have c:(s.heap.push W.emptyDict).get? s.heap.objs.size=some W.emptyDict:=bf s.heap J;have h:((s.heap.push W.emptyDict).push (W.instObj C s.heap.objs.size)).get? (s.heap.objs.size+1)=some (W.instObj C s.heap.objs.size):=by
  have:=bf (s.heap.push W.emptyDict) (o:=W.instObj C s.heap.objs.size) J
  rwa[dm]at this
 have g:(s.heap.push W.emptyDict).Ns s.heap.objs.size (λ_=>none):=⟨W.emptyDict,#[],_,c,J,(λe f=>absurd f (by simp)),λ_=>rfl⟩
 have i:=I.laid (o:=.own (s.heap.objs.size+1)) (t':=s.toks) (λb u q=>aj _ q) (ae _) ⟨_,c⟩;refine i.laid (λb u q=>aj _ q) (Nat.le_of_eq (dm _ _)) ?_;have a:s.heap.objs.size≠s.heap.objs.size+1:=az (fg _);refine⟨by rw[upd_ne a,zd],be _,a,h,λ_=>none,(Heap.Ns1.of_empty g).at λo q=>aj _ q,λ_=>True.intro,λy d=>absurd J d⟩
theorem ES(b:attributeBase e f env (eval e env)=eval e env)(h:wpAny (model prog w) A (eval e env) (λo a=>wpAny (model prog w) A (getAttr o f true) Q E a) E s):wpAny (model prog w) A (eval (.Attribute e f aD) env) Q E s:=
 Attribute_any_ h (by rw[arm_eval_Attribute,b])
end
inductive kK(K:W.Frag)(f:Str)(Q:VK)(x:V)(H1:Hp):Prop|mk:∀a C dx fs v,x=.ref a->H1 a=some (.ins C dx fs)->ge K C->Yt K C f->fs.lookup f=some v->Q v H1->kK K f Q x H1
def mL(K:W.Frag)(ta:TE)(f:Str):TE:=λσ H Q=>ta σ H λx H1=>kK K f Q x H1
inductive kM(K:W.Frag)(f:Str)(D:Ends)(σ:St)(y x:V)(H2:Hp):Prop|mk:∀a C dx fs,x=.ref a->H2 a=some (.ins C dx fs)->ge K C->Yt K C f->fs.length<1000->D.nx σ (upd H2 a (.ins C dx (qb f y fs)))->kM K f D σ y x H2
def CN(K:W.Frag)(ta G:TE)(f:Str):TS:=λD σ H=>G σ H λy H1=>ta σ H1 λx H2=>kM K f D σ y x H2
section
variable{o:Expr}{cY:Pos}
theorem zx(he:PE X e ta)(j:attributeBase e f X.env (eval e X.env)=eval e X.env):PE X (.Attribute e f aD) (mL X.K ta f):=by intro b s d H Q I h;refine ES j (aF (he b s d H _ I h) λu z ⟨x,t,r,g,a,C,D,A,v,m,o,c,n,l,q⟩=>?_);subst m;obtain rfl:u=Value.ref a:=g;exact KA r o c n l λw y p i=>⟨v,t,p,i,q⟩
theorem vb(r:PE X o ta)(p:PE X aY tv)(hs:swapsWith aY (some (.Attribute o f cN)) aD.line X.env=pure false):PS X (.Assign [.Attribute o f cN] aY aD) (CN X.K ta tv f):=by intro b s d H D I h;refine plainObj_wpAny_Assign_Attribute (aF (p b s d H _ I h) λu e ⟨y,E,A,g,q⟩=>aF (r b e d E _ A q) λm G ⟨x,M,z,i,a,C,L,K,t,v,c,n,l,j⟩=>?_) hs;subst t;obtain rfl:m=Value.ref a:=i;exact Ln z v c n l g λF w=>⟨d,_,w,j⟩
end
section
variable{c:Value}{b:Bool}
inductive cQ(K:W.Frag)(H:Hp):V->Value->Prop where|non:cQ K H .non (.type "NoneType")|bl (x:Bool):cQ K H (.bl x) (.type "bool")|int (i:Int):cQ K H (.int i) (.type "int")|str (x:Str):cQ K H (.str x) (.type "str")|flt (x:UInt64):cQ K H (.flt x) (.type "float")|lst {a:Addr} {xs:List V} (e:H a=some (.lst xs)):cQ K H (.ref a) (.type "list")|frz {a:Addr} {o:Obj} {xs:List V} (e:H a=some (.frz o (.lst xs))):cQ K H (.ref a) (.type "list")|tup {a:Addr} {xs:List V} (e:H a=some (.tup xs)):cQ K H (.ref a) (.type "tuple")|dK {a:Addr} {kvs:List (aJ×V)} (e:H a=some (.dK kvs)):cQ K H (.ref a) (.type "dict")|dT {a:Addr} {kvs:List (List aJ×V)} (e:H a=some (.dT kvs)):cQ K H (.ref a) (.type "dict")|ins {a C dx:Addr} {fs:List (Str×V)} (e:H a=some (.ins C dx fs)) (cl:ge K C) (ha:W.findIn K (.ref C) "__class__"=some (some (.builtin "object.__class__")))
  (hn:W.specialIn K (.builtin "object.__class__") "__get__"=some (some (.builtin "getset_descriptor.__get__"))) (htk:W.takesIn K (.builtin "object.__class__")=some true)
  (hm:W.mroIn K C (.type "object")=some true):cQ K H (.ref a) (.ref C)
theorem Iq{x:V}{t:Value}(I:Inv X pins σ H s)(d:ym x u)(w:cQ X.K H x t)(e:W.kitOne X.K t c=some b)(h:∀tk,Q (.bool b) {s with toks:=tk}):wpAny (model X.prog X.w) A (call (.builtin "isinstance") [u,c]) Q E s:=by
 cases w with|non=>cases(d);exact W.kia_one W.kitx_none I.kIn True.intro e (λz=>nomatch z) h|bl y=>cases(d);exact W.kia_one W.kitx_bool I.kIn True.intro e (λz=>nomatch z) h|int i=>obtain⟨t,q⟩:=(d);cases q;exact W.kia_one W.kitx_int I.kIn True.intro e (λz=>nomatch z) h|str y=>obtain⟨t,q⟩:=(d);cases q;exact W.kia_one W.kitx_str I.kIn True.intro e (λz=>nomatch z) h|flt y=>obtain⟨t,q⟩:=(d);cases q;exact W.kia_one W.kitx_float I.kIn True.intro e (λz=>nomatch z) h| @lst a l f=>
   cases(d);obtain⟨_,_,n,_,g⟩:=(I.hok a _ f)
   exact W.kia_one W.kitx_list I.kIn ⟨_,g,rfl⟩ e (λz=>nomatch z) h| @frz a N l f=>
   cases(d);obtain⟨_,_,_,n,_,g⟩:=(I.hok a _ f)
   exact W.kia_one W.kitx_list I.kIn ⟨_,g,rfl⟩ e (λz=>nomatch z) h| @tup a l f=>
   cases(d);obtain⟨_,_,_,p⟩:=(I.hok a _ f)
   obtain⟨⟨o,g,j,_⟩,_⟩:=p;exact W.kia_one W.kitx_tuple I.kIn ⟨o,g,j⟩ e (λz=>nomatch z) h| @dK a m f=>
   cases(d);obtain⟨_,_,L,_,p⟩:=(I.hok a _ f)
   obtain⟨o,G,K,g,j,_⟩:=p;exact W.kia_one W.kitx_dict I.kIn ⟨o,g,j.1⟩ e (λz=>nomatch z) h| @dT a m f=>
   cases(d);obtain⟨_,_,l,_,o,G,K,g,j,_⟩:=(I.hok a _ f)
   exact W.kia_one W.kitx_dict I.kIn ⟨o,g,j.1⟩ e (λz=>nomatch z) h| @ins a C S R f v F hn r D=>cases(d);obtain⟨P,O,_⟩:=J6 I.hok f;obtain⟨M,J,_⟩:=O.look;exact W.kia_one (W.kitx_own (v.get _) v.hd F hn r D) I.kIn J e (λz=>nomatch z) h
end
structure aQ(k:Nat)(A:Around):Prop where
 hd:A.handled=none
 dp:A.depth+3*k+5<recursionLimit
 un:A.units+16*k+200<cLine
theorem aQ.mono{j k:Nat}(r:aQ k A)(h:j<=k):aQ j A:=⟨r.hd,by have:=r.dp;omega,by have:=r.un;omega⟩
theorem aQ.deeper{k:Nat}{A:Around}(r:aQ (k+1) A)(a:Env):aQ k (A.deeper a):=⟨r.hd,by have:=r.dp;show A.depth+1+3*k+5<_;omega,by have:=r.un;show A.units+3+16*k+200<_;omega⟩
theorem KC{a:O (Str×I)}:(A.under (.builtin "type.__call__" ⟨.ref C::us,a⟩)).depth=A.depth+1:=by rfl
theorem KD{a:O (Str×I)}:(A.under (.builtin "type.__call__" ⟨.ref C::us,a⟩)).units=A.units+1:=by rfl
theorem aQ.make{k:Nat}(r:aQ (k+1) A)(C:Y)(us:O I)(a:O (Str×I)):aQ k (A.under (.builtin "type.__call__" ⟨.ref C::us,a⟩)):=⟨r.hd,by have:=r.dp;rw[KC];omega,by have:=r.un;rw[KD];omega⟩
theorem aQ.depth{k:Nat}{A:Around}(r:aQ k A):A.depth<recursionLimit:=by have:=r.dp;omega
theorem aQ.units{k:Nat}{A:Around}(r:aQ k A):A.units+64<cLine:=by have:=r.un;omega
def kE:TA:=λ_ H Q=>Q [] H
def nR(ta:TE)(G:TA):TA:=λσ H Q=>ta σ H λx H1=>G σ H1 λxs H2=>Q (x::xs) H2
section
variable{t:TA}
theorem zc:PA X [] kE:=λ_ _ _ _ H Q I h=>Calls.spliced_nil ⟨[],H,I,.nil,h⟩
theorem za(m:PE X e te)(l:PA X es t)(hs:starEach (e::es) X.env=(false,eval e X.env)::starEach es X.env:=by rfl):PA X (e::es) (nR te t):=by intro n a s b H Q I h;rw[hs];refine Calls.spliced_cons (aF (m a s b H _ I h) λu d ⟨x,r,p,g,j⟩=>?_);exact aF (l n a d b r _ p j) λv w ⟨c,q,o,f,i⟩=>⟨x::c,q,o,.cons g f,i⟩
def Dn(t:TA):TE:=λσ H Q=>t σ H λxs H1=>xs.length<=sizeLine/\∀p,H1 p=none->Q (.ref p) (upd H1 p (.tup xs))
def Dj(t:TA):TE:=λσ H Q=>t σ H λxs H1=>xs.length<=sizeLine/\∀p,H1 p=none->Q (.ref p) (upd H1 p (.lst xs))
theorem je{i}(h:PA X es t):PE X (.Tuple es i aD) (Dn t):=by intro a s f H Q I l;refine wpAny_Tuple_spliced (aF (h aD a s f H _ I l) λj c ⟨g,n,d,r,z,q⟩=>⟨by rw[<-r.length];exact z,?_⟩);have m:=d.hok.fresh (ae _);refine⟨.ref c.heap.objs.size,upd n c.heap.objs.size (.tup g),d.laid (λb u e=>aj _ e) (ae _) ?_,J,q _ m⟩;exact⟨z,j,r,⟨_,bf _ J,J,_,J⟩,gp.push⟩
theorem Qv(h:PA X es t):PE X (.List es aD) (Dj t):=by intro a s f H Q I j;refine wpAny_List_spliced (aF (h aD a s f H _ I j) λi c ⟨g,m,d,r,z,q⟩=>⟨by rw[<-r.length];exact z,?_⟩);have l:=d.hok.fresh (ae _);refine⟨.ref c.heap.objs.size,upd m c.heap.objs.size (.lst g),d.laid (λb u e=>aj _ e) (ae _) ?_,J,q _ l⟩;exact⟨z,i,0,r,bf _ J⟩
end
abbrev Sp:=List V->Hp->VK->XK->Prop
abbrev iM:=List Env->Hp->Shared->XK->Value->Shared->Prop
structure fw(P:Program)(w:World)(K:W.Frag)(mg:Str->Option Value)(base:Heap)(A:Around)(outer:List Env)(s:Shared)(H:Hp):Prop where
 frames:A.frames=some outer
 mod:Mod K mg base
 bs:∀b o,base.get? b=some o->s.heap.get? b=some o/\H b=none
 bsz:base.objs.size<=s.heap.objs.size
 funs:s.heap.FunFrames base outer
 frf:∀b∈gj outer,H b=none
 hok:bZ P w H s.heap
 bare:AllBare s.gens
inductive CE(outer:List Env)(P:Program)(w:World)(H:Hp)(s:Shared)(Q:VK)(u:Value)(s':Shared):Prop|mk:∀v H',s'.os=s.os->AllBare s'.gens->Un (gj outer) [] H H' s.heap s'.heap->bZ P w H' s'.heap->ym v u->Q v H'->CE outer P w H s Q u s'
def CR(CX:iM)(outer:List Env)(P:Program)(w:World)(H:Hp)(s:Shared)(Q:VK)(E:XK)(r:Result)(G:Shared):Prop:=match r with|.ok (.ret u)=>CE outer P w H s Q u G|.ok _=>False|.error e=>CX outer H s E e G
structure cF(P:Program)(w:World)(K:W.Frag)(mg:Str->Option Value)(base:Heap)(CX:iM)(k:Nat)(f:Addr)(fd:FuncData)(ps:List Str)(sp:Sp):Prop where
 len:∀vs H Q E,sp vs H Q E->vs.length=ps.length
 run:∀(A:Around)(outer:List Env)(s:Shared)(H:Hp)(args:Args)(us:List Value)(vs:List V)(Q:VK)(E:XK),aQ k A->fw P w K mg base A outer s H->BindsTo s fd args (ps.zip us)->yn vs us->sp vs H Q E->
  codeAny (model P w) A (.call (.ref f) args) (CR CX outer P w H s Q E) s
theorem fw.make{K:W.Frag}(e:fw P w K mg base A outer s H)(C:Y)(us:O I)(a:O (Str×I)):fw P w K mg base (A.under (.builtin "type.__call__" ⟨.ref C::us,a⟩)) outer s H:=⟨by first|exact e.frames|(simpa[Around.under,Code.envs,Code.isFrame,pushEnvs]using e.frames),e.mod,e.bs,e.bsz,e.funs,e.frf,e.hok,e.bare⟩
section
variable{s':Shared}
theorem Inv.env0(I:Inv X pins σ H s):fw X.prog X.w X.K X.mg X.base X.A X.stack s H:=⟨I.ok.frames,I.ok.mod,I.bs,c9 I.ok.bsz I.sz,I.stack,I.stkFree,I.hok,I.bare⟩
theorem Inv.after{Q:VK}(I:Inv X pins σ H s)(h:CE X.stack X.prog X.w H s Q u s'):EP X pins σ Q u s':=by obtain⟨v,c,os,bare,un,hok,r,q⟩:=h;obtain⟨e,g,d,t,a⟩:=s';obtain rfl:a=s.os:=os;exact⟨v,c,I.call un hok bare (λb z=>absurd z (by simp)),r,q⟩
end
def se(sp:Sp)(G:List V)(E:XK)(t:TA):TE:=λσ H Q=>t σ H λvs H1=>sp (vs++G) H1 Q E
inductive gR(C:Addr)(m:Str)(sp:Sp)(dvs:List V)(E:XK)(t:TA)(σ:St)(Q:VK)(x:V)(H1:Hp):Prop|mk:∀a dx fs,x=.ref a->H1 a=some (.ins C dx fs)->fs.lookup m=none->(t σ H1 λvs H2=>sp (x::(vs++dvs)) H2 Q E)->gR C m sp dvs E t σ Q x H1
def pW(C:Addr)(m:Str)(sp:Sp)(G:List V)(E:XK)(ta:TE)(t:TA):TE:=λσ H Q=>ta σ H λx H1=>gR C m sp G E t σ Q x H1
def pV(C:Addr)(sp:Sp)(G:List V)(E:XK)(t:TA):TE:=λσ H Q=>t σ H λvs H1=>∀x dx,H1 x=none->H1 dx=none->dx≠x->
 sp (.ref x::(vs++G)) (upd (upd H1 dx (.own x)) x (.ins C dx [])) (λv H2=>v=.non/\Q (.ref x) H2) E
def Yc(K:W.Frag)(U:FuncData)(ps:List Str)(G:List Value):Prop:=∀(s:Shared)(us:List Value),K.In s.heap->(us++G).length=ps.length->BindsTo s U ⟨us,[]⟩ (ps.zip (us++G))
theorem Yc.all{K:W.Frag}(h:∀us:O I,us.length=ps.length->bindArgs fd ⟨us,[]⟩=pure (ps.zip us)):Yc K fd ps []:=λs us _ a=>by rw[cp]at a⊢;exact .of_eq (h us a)
def Xl(CX:iM)(X:Cx)(E:XK):Prop:=∀(pins:List (Addr×Obj))(σ:St)(H:Hp)(s:Shared)(e:Value)(s':Shared),Inv X pins σ H s->CX X.stack H s E e s'->X.xe e s'
section
variable{CX:iM}{k:Nat}{f:Addr}{sp:Sp}{dvs:List V}{E:XK}{o:Expr}{t:TA}
theorem sS{Q:VK}(F:cF X.prog X.w X.K X.mg X.base CX k f fd ps sp)(g:aQ k X.A)(l:Yc X.K fd ps ds)(j:yn dvs ds)(d:Xl CX X E)(I:Inv X pins σ H s) (r:yn vs us) (h:sp (vs++dvs) H Q E):wpAny (model X.prog X.w) X.A (call (.ref f) us) (EP X pins σ Q) X.xe s:=by
 have b:=r.append j;have i:(us++ds).length=ps.length:=by rw[<-b.length];exact F.len _ _ _ _ h
 refine wpAny_call (codeAny_mono (F.run X.A X.stack s H ⟨us,[]⟩ (us++ds) (vs++dvs) Q E g I.env0 (l s us I.kIn i) b h) λr c a=>?_);cases r with|error e=>exact d pins σ H s e c I a| ok m=>cases m with|ret u=>exact I.after a|next=>exact False.elim a|brk=>exact False.elim a|cont=>exact False.elim a
theorem Fy(F:cF X.prog X.w X.K X.mg X.base CX k f fd ps sp)(j:aQ k X.A)(m:Gl X x)(l:X.mg x=some (.ref f))(hk:W.keepIn X.K (.ref f)=true)(o:Yc X.K fd ps ds)(n:yn dvs ds)(i:Xl CX X E)(u:PA X (e::es) t) (c:(x==("__debug__":Str))=false:=by decide) (he:starEach (e::es) X.env=(false,eval e X.env)::starEach es X.env:=by rfl) (b:(backTo aD (starEach es X.env)).any (·.1)=false:=by rfl):
  PE X (.Call (.Name x p) (e::es) [] aD) (se sp dvs E t):=by intro a s g H Q I h;refine wpAny_Call_Name_kw (Jz I m l ?_ c);refine W.callWith_K I.ok.mod.kin hk (aF (u aD a s g H _ I h) λw y ⟨v,z,d,r,q⟩=>⟨d.kIn,?_⟩) he b;exact sS F j o n i d r q
theorem FC{A:Sem Bool}(he:PE X o ta)(c:ge X.K C)(j:iJ X.K C m f)(F:cF X.prog X.w X.K X.mg X.base CX k f fd ps sp)(K:aQ k X.A)(M:Yc X.K fd ps ds)(L:yn dvs ds)(D:Xl CX X E)(N:PA X (e::es) t)(d:starEach (e::es) X.env=(false,eval e X.env)::starEach es X.env:=by rfl) (g:(backTo aD (starEach es X.env)).any (·.1)=false:=by rfl)
  (G:eval (.Call (.Attribute o m apos) (e::es) [] aD) X.env=(do
   let ov<-eval o X.env
   standAt apos.atName
   let(f,first)<-holding [ov] (getMethod ov m A)
   callWith aD f first (backTo aD (starEach (e::es) X.env)) (backToKw aD (keywordEach [] X.env))):=by rfl):
  PE X (.Call (.Attribute o m apos) (e::es) [] aD) (pW C m sp dvs E ta t):=by intro b s i H Q I h;refine W.methodCall_KW (aF (he b s i H _ I h) λu w ⟨x,S,p,y,a,dx,fs,P,R,l,q⟩=>?_) G;subst P;obtain rfl:u=Value.ref a:=y;refine BY p R c j l ?_;refine W.callWith_K I.ok.mod.kin j.kp (aF (N aD b w i S _ p q) λU Z ⟨v,H2,n,r,z⟩=>⟨n.kIn,?_⟩) d g;exact sS (vs:=.ref a::v) F K M L D n (.cons J r) z
theorem G7{j:Sem Bool}(he:PE X o ta)(c:ge X.K C)(e:iJ X.K C m f)(F:cF X.prog X.w X.K X.mg X.base CX k f fd ps sp)(r:aQ k X.A)(v:Yc X.K fd ps ds)(t:yn dvs ds)(n:Xl CX X E)(p:eval (.Call (.Attribute o m apos) [] [] aD) X.env=(do
   let ov<-eval o X.env
   standAt apos.atName
   let(f,first)<-holding [ov] (getMethod ov m j)
   callWith aD f first (backTo aD (starEach [] X.env)) (backToKw aD (keywordEach [] X.env))):=by rfl):
  PE X (.Call (.Attribute o m apos) [] [] aD) (pW C m sp dvs E ta kE):=by intro b s g H Q I h;refine W.methodCall_KW (aF (he b s g H _ I h) λu z ⟨x,G,d,i,a,D,A,w,y,l,q⟩=>?_) p;subst w;obtain rfl:u=Value.ref a:=i;refine BY d y c e l ?_;exact W.callWith_K0 d.kIn e.kp (sS (vs:=[.ref a]) F r v t n d (.cons J .nil) q)
structure Mk(K:W.Frag)(C f:Addr):Prop where
 makes:W.makesIn K C=true
 init:W.findIn K (.ref C) "__init__"=some (some (.ref f))
 fn:W.isFn K (.ref f)=true
 kp:W.keepIn K (.ref C)=true
theorem AZ{Q:VK}(M:Mk X.K C f)(F:cF X.prog X.w X.K X.mg X.base CX k f fd ps sp)(m:aQ (k+1) X.A)(p:Yc X.K fd ps ds)(o:yn dvs ds)(l:Xl CX X E) (I:Inv X pins σ H s) (r:yn vs us)
  (h:∀x dx,H x=none->H dx=none->dx≠x->sp (.ref x::(vs++dvs)) (upd (upd H dx (.own x)) x (.ins C dx [])) (λv H2=>v=.non/\Q (.ref x) H2) E):
  wpAny (model X.prog X.w) X.A (call (.ref C) us) (EP X pins σ Q) X.xe s:=by
 have d:=h (s.heap.objs.size+1) s.heap.objs.size (I.hok.fresh (Nat.le_succ _)) (I.hok.fresh (ae _)) (az (fg _));have b:=Inv.made (C:=C) I;have c:yn (V.ref (s.heap.objs.size+1)::(vs++dvs)) (Value.ref (s.heap.objs.size+1)::(us++ds)):=.cons J (r.append o);have n:(Value.ref (s.heap.objs.size+1)::us++ds).length=ps.length:=by
  have e:=c.length;rw[F.len _ _ _ _ d]at e
  simp_all
 refine wpAny_call (GA I.kIn M.makes M.init (beq_iff_eq.mp M.fn) (codeAny_mono (F.run _ X.stack _ _ ⟨Value.ref (s.heap.objs.size+1)::us,[]⟩ (Value.ref (s.heap.objs.size+1)::(us++ds)) _ _ E (m.make C us []) (b.env0.make C us []) (p _ (Value.ref (s.heap.objs.size+1)::us) b.kIn n) c d) λr g a=>?_))
 cases r with|error e=>exact l pins σ _ _ e g b a| ok q=>cases q with| ret u=>obtain⟨v,y,w,i,t,j⟩:=b.after a;subst t;exact⟨i,⟨V.ref (s.heap.objs.size+1),y,w,J,j⟩⟩|next=>exact False.elim a|brk=>exact False.elim a|cont=>exact False.elim a
theorem FA(M:Mk X.K C f)(F:cF X.prog X.w X.K X.mg X.base CX k f fd ps sp)(j:aQ (k+1) X.A)(m:Gl X x)(l:X.mg x=some (.ref C))(o:Yc X.K fd ps ds)(n:yn dvs ds)(i:Xl CX X E)(u:PA X (e::es) t) (c:(x==("__debug__":Str))=false:=by decide) (he:starEach (e::es) X.env=(false,eval e X.env)::starEach es X.env:=by rfl) (b:(backTo aD (starEach es X.env)).any (·.1)=false:=by rfl):
  PE X (.Call (.Name x p) (e::es) [] aD) (pV C sp dvs E t):=by intro a s g H Q I h;refine wpAny_Call_Name_kw (Jz I m l ?_ c);refine W.callWith_K I.ok.mod.kin M.kp (aF (u aD a s g H _ I h) λw y ⟨v,z,d,r,q⟩=>⟨d.kIn,?_⟩) he b;exact AZ M F j o n i d r q
theorem GZ(M:Mk X.K C f)(F:cF X.prog X.w X.K X.mg X.base CX k f fd ps sp)(d:aQ (k+1) X.A)(g:Gl X x)(e:X.mg x=some (.ref C))(j:Yc X.K fd ps ds)(i:yn dvs ds)(c:Xl CX X E)(a:(x==("__debug__":Str))=false:=by decide):PE X (.Call (.Name x p) [] [] aD) (pV C sp dvs E kE):=by intro b s l H Q I h;refine wpAny_Call_Name_kw (Jz I g e ?_ a);exact W.callWith_K0 I.kIn M.kp (AZ (us:=[]) M F d j i c I .nil h)
end
section
variable{CX:iM}{k:Nat}{f:Addr}{ks:List Str}{sp:Sp}{E:XK}{jT:Pos}{o:Expr}{M7:List Keyword}{t tk:TA}{nm:Option Str}
variable{g:List Value->List Value->List Value}{gV:List V->List V->List V}
end
structure aA(N P:List Str)(sc:Scope):Prop where
 kind:sc.kind=.function
 co:sc.isCoroutine=false
 gen:sc.isGenerator=false
 nd:N.Nodup
 pre:N.take P.length=P
 par:∀x∈P,sc.names.lookup x=some .local\/sc.names.lookup x=some .cell
 nofree:∀y∈sc.names,y.2≠ .free
theorem aA.of{P:O Str}(g:sc.kind=.function:=by rfl)(f:sc.isCoroutine=false:=by rfl)(e:sc.isGenerator=false:=by rfl)(d:N.Nodup:=by decide+kernel)(c:N.take P.length=P:=by rfl)(b:∀x∈P,sc.names.lookup x=some .local\/sc.names.lookup x=some .cell:=by decide+kernel)(a:∀y∈sc.names,y.2≠ .free:=by decide+kernel):aA N P sc:=⟨g,f,e,d,c,b,a⟩
theorem Bx{kindOf:Str->Option NameKind}{x:Str}:∀{a:List (Str×Value)}{m:Str->Option Value},(∀v,(x,v) ∉ a)->bindL kindOf a m x=m x
 |[],_,_=>rfl
 | (n,v)::r,m,h=>by
   unfold bindL;rw[Bx λw b=>h w (bq _ b)];split
   grind
   rfl
theorem Bv{kindOf:Str->Option NameKind}{x:Str}:∀{a:List (Str×Value)}{m:Str->Option Value},(∀v,(x,v) ∉ a)->bindC kindOf a m x=m x
 |[],_,_=>rfl
 | (n,v)::r,m,h=>by
   unfold bindC;rw[Bv λw b=>h w (bq _ b)];split;rfl
   grind
theorem Bw{kindOf:Str->Option NameKind}{x:Str}{v:Value}:∀{P:List Str}{vs:List Value}{i:Nat}{m:Str->Option Value},P.Nodup->P[i]?=some x->vs[i]?=some v->kindOf x=some .local->
  bindL kindOf (P.zip vs) m x=some v|[],_,_,_,_,h,_,_=>by simp at h|_::_,[],_,_,_,_,h,_=>by simp at h| p::P,w::vs,0,m,c,b,a,hk=>by simp at b a;subst b;subst a;show bindL kindOf ((p,w)::P.zip vs) m p=_;unfold bindL;rw[Bx λv d=>(bz.mp c).1 (List.of_mem_zip d).1,if_pos hk];simp| p::P,w::vs,i+1,m,c,b,a,hk=>by show bindL kindOf ((p,w)::P.zip vs) m x=_;unfold bindL;exact Bw (i:=i) (bz.mp c).2 (by simpa using b) (by simpa using a) hk
theorem Bu{kindOf:Str->Option NameKind}{x:Str}{v:Value}:∀{P:List Str}{vs:List Value}{i:Nat}{m:Str->Option Value},P.Nodup->P[i]?=some x->vs[i]?=some v->kindOf x≠some .local->
  bindC kindOf (P.zip vs) m x=some v|[],_,_,_,_,h,_,_=>by grind|_::_,[],_,_,_,_,h,_=>by grind| p::P,w::vs,0,m,b,a,c,hk=>by simp at a c;subst a;subst c;show bindC kindOf ((p,w)::P.zip vs) m p=_;unfold bindC;rw[Bv λv d=>(bz.mp b).1 (List.of_mem_zip d).1,if_neg hk];simp| p::P,w::vs,i+1,m,b,a,c,hk=>by unfold bindC;exact Bu (bz.mp b).2 (by simpa using a) (by simp_all) hk
noncomputable def start(N:List Str)(vs:List V):St:=vs.map some++List.replicate (N.length-vs.length) none
noncomputable def iQ(CX:iM)(P:Program)(w:World)(K:W.Frag)(mg:Str->Option Value)(base:Heap)(N:List Str)(U:Str)(G:Scope)(f:Addr)(cd:Value)(A:Around)(outer:List Env)(s:Shared)(H:Hp)(E:XK):Cx where
 prog:=P
 w:=w
 K:=K
 mg:=mg
 base:=base
 A:=A.deeper (envOfC U G s.heap.objs.size f cd)
 N:=N
 s₀:=s
 H₀:=H
 env:=envOfC U G s.heap.objs.size f cd
 outer:=outer
 stack:=envOfC U G s.heap.objs.size f cd::outer
 ex:=[]
 calm:=true
 fn:=λ_=>true
 pn:=[]
 xe:=λe s'=>wpAny (model P w) (A.deeper (envOfC U G s.heap.objs.size f cd)) (leaving (envOfC U G s.heap.objs.size f cd) e) (λ_ Z=>CX outer H s E e Z) (λe' Z=>CX outer H s E e' Z) s'
theorem AM{n:Nat}(h:sc.names.lookup x=some .cell):∃c,(cellsFrom n sc.names []).lookup x=some c:=by have q:=W.cellsFrom_some sc.names n [] (.inl h);exact Option.isSome_iff_exists.mp q
theorem Ip{CX:iM}{K:W.Frag}{f:Y}{o:I}{t:Shared}{E:XK}(S:aA N ps scope) (G:A.handled=none) (a:fw P w K mg base A outer s H) (hl:vs.length=ps.length) (r:yn vs us)
  (x:InCallC s s.heap.objs.size (bindL (envOfC qual scope s.heap.objs.size f o).kindOf (ps.zip us) λ_=>none) (cellsFrom (s.heap.objs.size+1) scope.names []) (bindC (envOfC qual scope s.heap.objs.size f o).kindOf (ps.zip us) λ_=>none) t):
  Inv (iQ CX P w K mg base N qual scope f o A outer s H E) [] (start N vs) H t:=by
 have F:ps.length<=N.length:=by have:=congrArg List.length S.pre;grind
 obtain⟨n,M,rfl,hk⟩:=x.done;have d:∀b:Y,b ∉ (iQ CX P w K mg base N qual scope f o A outer s H E).ex:=λb z=>absurd (show b∈[]from z) (by simp);refine⟨⟨a.mod,S.kind,J,J,ae _,λy z c n m=>?_,λy j=>?_,λy c _ h=>?_,λ_=>G,Around.frames_deeper a.frames,.inr ⟨J,J⟩,λb z=>absurd z (d b),a.bs,a.bsz,λb _ _=>d b,λb z=>absurd z (d b),a.funs,a.frf⟩,J,a.bare,Un.kept hk,⟨_,x.toInCall.ns,λi y v n m R=>?_⟩,λy c h=>⟨_,x.cell y c h⟩,a.hok.fresh (ae _),λy c h=>?_,λp l=>absurd (show p∈[]from l) (by simp),a.hok.kept hk,?_⟩
 exact name_of_addr x.apart (PySem.mem_of_lookup n) (PySem.mem_of_lookup m);rcases j with j|j;exact AM j;exact absurd J (S.nofree _ (PySem.mem_of_lookup j));exact Nat.le_of_lt (x.above y c (PySem.mem_of_lookup h));have Q:i<vs.length:=by
  unfold start at m
  grind
 have L:vs[i]?=some v:=by
  unfold start at m
  grind
 obtain⟨u,C,D⟩:=r.get L;have l:ps[i]?=some y:=by rw[<-S.pre,List.getElem?_take_of_lt (by omega)];exact n
 have g:ps.Nodup:=by rw[<-S.pre];exact S.nd.sublist (List.take_sublist _ _)
 refine⟨u,D,?_⟩;rcases S.par y (bv l)with k|k;exact .inl ⟨k,Bw g l C k⟩;obtain⟨c,e⟩:=AM k;refine .inr ⟨.inl k,c,e,?_⟩;have q:=x.cell y c e;rw[Bu g l C (by show scope.names.lookup y≠_;rw[k];decide)]at q;exact q;exact a.hok.fresh (Nat.le_of_lt (x.above y c (PySem.mem_of_lookup h)));unfold start;show _=N.length
 simp_all
theorem C4{CX:iM}{K:W.Frag}{k:Nat}{f:Addr}{a:Arguments}{R kV p M cdv U oc:Value}{Z od:Option Addr}{sp:Sp} (lk:K.lookup f=some ⟨oc,od,.func (W.fnOf name qual a fo scope R kV p M Z cdv U),osl⟩) (G:W.codeIn K cdv qual=true) (S:aA N ps scope)
  (j:∀vs H Q E,sp vs H Q E->vs.length=ps.length)
  (g:∀(A:Around) (outer:List Env) (s:Shared) (H:Hp) (vs:List V) (Q:VK) (E:XK),aQ k (A.deeper (envOfC qual scope s.heap.objs.size f cdv))->sp vs H Q E-> ∃t,eG (iQ CX P w K mg base N qual scope f cdv A outer s H E) fo t/\t (.of Q) (start N vs) H):
  cF P w K mg base CX (k+1) f (W.fnOf name qual a fo scope R kV p M Z cdv U) ps sp:=by
 refine⟨j,λA outer s H X us vs Q E F m hb r l=>?_⟩;have hl:=j _ _ _ _ l;have KX:=m.mod.kin.keeps λb o e=>(m.bs b o e).1;have D:=m.mod.nolimit.keeps λb o e=>(m.bs b o e).1;have d:∀y∈ps.zip us,scope.names.lookup y.1=some .local\/(scope.names.lookup y.1=some .cell/\((cellsFrom (s.heap.objs.size+1) scope.names []).lookup y.1).isSome=true):=λ⟨n,v⟩ hy=>by
  rcases S.par n (List.of_mem_zip hy).1 with q|q
  simp_all
  exact .inr ⟨q,W.cellsFrom_some _ _ _ (.inl q)⟩
 refine codeAny_call_function F.depth (KX _ _ lk) rfl S.co S.gen rfl (W.codeRec_of KX G) (hb _ _ _ _ ?_);refine wpAny_newFunctionEnv_cells S.kind d λaf he L x=>?_;subst he;refine⟨D.keeps x.toInCall.keep,codeAny_func ?_⟩;obtain⟨t,ht,hq⟩:=g A outer s H vs Q E (F.deeper _) l;have I:Inv (iQ CX P w K mg base N qual scope f cdv A outer s H E) [] (start N vs) H L:=Ip S F.hd m hl r x;refine dc (ht [] L (start N vs) H _ I hq) (λfl z h=>?_) λe z h=>h;have fin:∀{c:St}{i:Hp}{v:V}{u:Value},Inv (iQ CX P w K mg base N qual scope f cdv A outer s H E) [] c i z->ym v u->Q v i->CE outer P w H s Q u z:=
  λ{c i v u} J C q=>⟨v,i,J.os,J.bare,J.base,J.hok,C,q⟩
 cases fl with
 | ret u=>obtain⟨v,c,i,J,C,q⟩:=h;exact fin J C q
 | next=>obtain⟨c,i,J,q⟩:=h;exact fin (v:=V.non) J rfl q
 | brk=>
   obtain⟨_,_,_,q⟩:=h
   simp_all
 | cont=>
   obtain⟨_,_,_,q⟩:=h
   simp_all
section
variable{t:TA}{T:String}{r:List V->Hp->VK->Prop}
def qQ(r:List V->Hp->VK->Prop)(t:TA):TE:=λσ H Q=>t σ H λvs H1=>r vs H1 Q
theorem yf(u:jj X (.builtin id) r)(q:Gl X x)(o:X.mg x=none)(m:bootBuiltins x=some (.builtin id))(v:PA X (e::es) t)(n:x≠"__name__":=by decide)(c:(x==("__debug__":Str))=false:=by decide)
  (he:starEach (e::es) X.env=(false,eval e X.env)::starEach es X.env:=by rfl) (b:(backTo aD (starEach es X.env)).any (·.1)=false:=by rfl):PE X (.Call (.Name x p) (e::es) [] aD) (qQ r t):=by intro a s d H Q I h;refine wpAny_Call_Name_kw (Ym I q o m ?_ n c);exact PyProof.Rows.callWith_builtin1 (aF (v aD a s d H _ I h) λg i ⟨f,y,w,j,l⟩=>u a i d y f g Q w j l) he b
theorem yx(u:jj X (.type T) r)(q:Gl X x)(o:X.mg x=none)(m:bootBuiltins x=some (.type T))(v:PA X (e::es) t)(n:x≠"__name__":=by decide)(c:(x==("__debug__":Str))=false:=by decide)
  (he:starEach (e::es) X.env=(false,eval e X.env)::starEach es X.env:=by rfl) (b:(backTo aD (starEach es X.env)).any (·.1)=false:=by rfl):PE X (.Call (.Name x p) (e::es) [] aD) (qQ r t):=by intro a s d H Q I h;refine wpAny_Call_Name_kw (Ym I q o m ?_ n c);exact PyProof.Rows.callWith_type1 (aF (v aD a s d H _ I h) λg i ⟨f,y,w,j,l⟩=>u a i d y f g Q w j l) he b
end
section
variable{κ:Type}[DecidableEq κ]
noncomputable def yq(kvs:List (κ×V))(k:κ):Option V:=(kvs.find? λG=>decide (G.1=k)).map (·.2)
noncomputable def v4(kvs:List (κ×V))(k:κ)(v:V):List (κ×V):=if(kvs.any λG=>decide (G.1=k))=true then kvs.map (λG=>if G.1=k then(G.1,v)else G)else kvs++[(k,v)]
noncomputable def mQ(kvs:List (κ×V))(k:κ):List (κ×V):=kvs.filter λG=>decide (G.1≠k)
theorem xz{p:κ×V}{r:O (κ×V)}{k:κ}(e:p.1=k):yq (p::r) k=some p.2:=by simp[yq,List.find?_cons,e]
theorem xl{p:κ×V}{r:O (κ×V)}{k:κ}(e:¬p.1=k):yq (p::r) k=yq r k:=by simp[yq,List.find?_cons,e]
theorem Zh(k:κ):∀kvs:List (κ×V),(kvs.any λa=>decide (a.1=k))=(yq kvs k).isSome|[]=>rfl| p::r=>by rw[List.any_cons];by_cases e:p.1=k;simp only[xz e,bj e,Bool.true_or,Option.isSome_some];rw[xl e,c6 e,Bool.false_or];exact Zh k r
theorem Bb(k j:κ)(y:V):∀kvs:List (κ×V),yq (kvs.map λa=>if a.1=k then(a.1,y)else a) j=(yq kvs j).map λx=>if j=k then y else x|[]=>rfl| p::r=>by have b:=Bb k j y r;rw[c4];by_cases h:p.1=k;rw[if_pos h];by_cases e:p.1=j;rw[xz (p:=(p.1,y)) e,xz e,Option.map_some,if_pos (e.symm.trans h)];rw[xl (p:=(p.1,y)) e,xl e,b];rw[if_neg h];by_cases e:p.1=j;rw[xz e,xz e,Option.map_some,if_neg (λz=>h (e.trans z))];rw[xl e,xl e,b]
theorem BI(k j:κ)(y:V):∀kvs:List (κ×V),yq kvs k=none->yq (kvs++[(k,y)]) j=if j=k then some y else yq kvs j
 | [],_=>by by_cases e:k=j;rw[if_pos e.symm];exact xz e;rw[if_neg (λz=>e z.symm)];exact xl e
 | p::r,hn=>by
   rw[List.cons_append];have hk:¬p.1=k:=λz=>by rw[xz z]at hn;grind
   rw[xl hk]at hn;have a:=BI k j y r hn;by_cases e:p.1=j;rw[xz e,xz e,if_neg (λz=>hk (e.trans z))];rw[xl e,xl e,a]
theorem kj(kvs:O (κ×V))(k j:κ)(y:V):yq (v4 kvs k y) j=if j=k then some y else yq kvs j:=by
 unfold v4;by_cases a:(kvs.any λb=>decide (b.1=k))=true;rw[if_pos a,Bb];rw[Zh]at a;by_cases e:j=k;obtain⟨x,c⟩:=Option.isSome_iff_exists.mp a;rw[if_pos e,e,c,Option.map_some,if_pos J]
 simp_all
 rw[if_neg a];refine BI k j y kvs ?_;rw[Zh]at a
 simp_all
theorem wc(kvs:O (κ×V))(k:κ)(v:V):(v4 kvs k v).length<=kvs.length+1:=by
 unfold v4
 grind
theorem Zl{kvs:O (κ×V)}{k:κ}(v:V)(h:yq kvs k=none):v4 kvs k v=kvs++[(k,v)]:=by unfold v4;rw[Zh,h];rfl
theorem Ys.isSome_eq{o:Option V}{u:Option Value}(r:Ys o u):o.isSome=u.isSome:=by
 cases o with
 | none=>cases u with
   |none=>rfl
   |some _=>exact(r).elim
 | some _=>cases u with
   |none=>exact(r).elim
   |some _=>rfl
theorem Ys.getD{o:Option V}{u:Option Value}{d:V}{d':Value}(r:Ys o u)(a:ym d d'):ym (o.getD d) (u.getD d'):=by
 cases o with
 | none=>cases u with
   |none=>grind
   |some _=>exact(r).elim
 | some _=>cases u with
   |none=>exact(r).elim
   |some _=>exact r
theorem KV.val{kvs:List (κ×V)}{vs:List (κ×Value)}(r:KV kvs vs)(k:κ):Ys (yq kvs k) (valueAt vs k):=by
 unfold KV at r;induction r with|nil=>exact True.intro| @cons p q g a h t i=>
   obtain⟨d,f⟩:=h;by_cases e:p.1=k;have c:=d.symm.trans e;have b:valueAt (q::a) k=some q.2:=by simp[valueAt,List.find?_cons,c]
   rw[xz e,b];exact f;have c:¬q.1=k:=λz=>e (d.trans z);have b:valueAt (q::a) k=valueAt a k:=by simp[valueAt,List.find?_cons,c]
   rw[xl e,b];omega
theorem KV.any{kvs:List (κ×V)}{vs:List (κ×Value)}(r:KV kvs vs)(k:κ):(kvs.any λa=>decide (a.1=k))=vs.any λa=>decide (a.1=k):=by unfold KV at r;induction r with|nil=>rfl|cons h t b=>rw[List.any_cons,List.any_cons,b,h.1]
theorem KV.repl{kvs:List (κ×V)}{vs:List (κ×Value)}(r:KV kvs vs)(k:κ)(c:ym y u):KV (kvs.map λa=>if a.1=k then(a.1,y)else a) (vs.map λa=>if a.1=k then(a.1,u)else a):=by
 unfold KV at r⊢;induction r with|nil=>exact .nil| @cons p q e d h t b=>
   rw[c4,c4];refine .cons ?_ b
   grind
theorem KV.put{kvs:O (κ×V)}{vs:O (κ×I)}(r:KV kvs vs)(k:κ)(a:ym y u):KV (v4 kvs k y) (stored vs k u):=by unfold v4 stored;rw[r.any k];by_cases e:(vs.any λb=>decide (b.1=k))=true;rw[if_pos e,if_pos e];exact r.repl k a;rw[if_neg e,if_neg e];exact Paired.snoc r ⟨J,a⟩
theorem KV.keys{kvs:List (κ×V)}{vs:List (κ×Value)}(r:KV kvs vs):kvs.map (·.1)=vs.map (·.1):=by unfold KV at r;induction r with|nil=>rfl|cons h t a=>rw[c4,c4,a,h.1]
theorem KV.length{kvs:O (κ×V)}{vs:O (κ×I)}(r:KV kvs vs):kvs.length=vs.length:=Paired.length r
theorem Gb(kvs:O (κ×V))(k:κ):(mQ kvs k).length<=kvs.length:=f9 _ _
end
theorem Xb{k:aJ}(r:ym (kV k) u):(zy P w).is k u=true:=by cases k with|inl i=>obtain⟨t,e⟩:=(r);subst e;exact LA P w i t|inr x=>obtain⟨t,e⟩:=(r);subst e;exact LB P w x t
theorem BN{P:Program}{w:World}:∀{a:List aJ}{us:List Value},yn (a.map kV) us->ItemsAre (zy P w) a us|[],_,r=>by rw[List.map_nil]at r;cases r;exact .nil| k::a,_,r=>by rw[c4]at r;cases r with|cons h t=>exact .cons (Xb h) (BN t)
abbrev KT(H:Hp):List (List aJ×V)->List (List aJ×Addr×Value)->Prop:=Paired λp q=>p.1=q.1/\H q.2.1=some (.tup (p.1.map kV))/\ym p.2 q.2.2
theorem KT.val{kvs:List (List aJ×V)}{xs:List (List aJ×Addr×Value)}(r:KT H kvs xs)(k:List aJ):Ys (yq kvs k) ((atKey xs k).map (·.2)):=by
 induction r with|nil=>exact True.intro| @cons p q g a h t i=>
   obtain⟨d,_,f⟩:=h;by_cases e:p.1=k;have c:=d.symm.trans e;have b:atKey (q::a) k=some q.2:=by simp[atKey,List.find?_cons,c]
   rw[xz e,b];exact f;have c:¬q.1=k:=λz=>e (d.trans z);have b:atKey (q::a) k=atKey a k:=by simp[atKey,List.find?_cons,c]
   rw[xl e,b];omega
theorem KT.repl{kvs:List (List aJ×V)}{xs:List (List aJ×Addr×Value)}(r:KT H kvs xs)(k:List aJ)(d:ym y u):KT H (kvs.map λb=>if b.1=k then(b.1,y)else b) (xs.map (putAt k u)):=by induction r with|nil=>exact .nil| @cons p q j i h t f=>rw[c4,c4];refine .cons ?_ f;obtain⟨a,c,g⟩:=h;unfold putAt;by_cases e:p.1=k;rw[if_pos e,if_pos (a.symm.trans e)];exact⟨a,c,d⟩;rw[if_neg e,if_neg (λz=>e (a.trans z))];exact⟨a,c,g⟩
theorem KT.put{kvs:O (O aJ×V)}{xs:O (O aJ×Y×I)}(r:KT H kvs xs)(k:O aJ)(d:H b=some (.tup (k.map kV)))(a:ym y u):KT H (v4 kvs k y) (storedH xs k b u):=by
 have e:(kvs.any λc=>decide (c.1=k))=(atKey xs k).isSome:=by rw[Zh,(r.val k).isSome_eq,Option.isSome_map]
 unfold v4 storedH;rw[e];by_cases q:(atKey xs k).isSome=true;rw[if_pos q,if_pos q];exact r.repl k a;rw[if_neg q,if_neg q];exact Paired.snoc r ⟨J,d,a⟩
theorem KT.keeps{kvs:O (O aJ×V)}{xs:O (O aJ×Y×I)}(r:KT H kvs xs)(a:∀b ys,H b=some (.tup ys)->H' b=some (.tup ys)):KT H' kvs xs:=Paired.mapP r λ_ _ z=>⟨z.1,a _ _ z.2.1,z.2.2⟩
section
theorem wJ{u:HO}(b:bZ P w H h)(e:Rd H a u):va P w H h a u:=e.ok b
theorem Jh(b:bZ P w H h)(e:Rd H a (.dK kvs)):kvs.length<=sizeLine/\(a==sysModules)=false/\∃vs,KV kvs vs/\h.DictOf (zy P w) a vs:=(wJ b e)
theorem wE(b:bZ P w H h)(e:H a=some (.dK kvs)):kvs.length<=sizeLine/\(a==sysModules)=false/\∃vs,KV kvs vs/\h.DictOf (zy P w) a vs:=Jh b (.inl e)
theorem Yn(c:bZ P w H h)(e:H a=some (.tup (ks.map kV))):(tupleKind (zy P w)).is h ks a:=by
 obtain⟨_,b,r,⟨o,g,f,n,d⟩,_⟩:=(c a _ e)
 exact⟨o,b.toArray,n,g,f,d,by simpa using BN r⟩
theorem V5{kvs:O (O aJ×V)}(c:bZ P w H h)(e:Rd H a (.dT kvs)):kvs.length<=sizeLine/\(a==sysModules)=false/\
  ∃xs,KT H kvs xs/\h.DictOfH (tupleKind (zy P w)) a xs:=by
 obtain⟨z,y,xs,r,o,n,s,j,i,g,f,d⟩:=(wJ c e)
 refine⟨z,y,xs,r,o,n,s,j,i,g,f,λx b=>?_,d⟩;have u:∀{l:O (O aJ×V)}{m:O (O aJ×Y×I)},KT H l m->∀x∈m,(tupleKind (zy P w)).is h x.1 x.2.1:=by
  intro l m q;induction q with|nil=>simp| @cons p q A v D t C=>
    intro x b;rcases ag.mp b with e|b;subst e;exact Yn c (by simp_all)
    grind
 grind
theorem rM{kvs:O (O aJ×V)}(b:bZ P w H h)(e:H a=some (.dT kvs)):kvs.length<=sizeLine/\(a==sysModules)=false/\
 ∃xs,KT H kvs xs/\h.DictOfH (tupleKind (zy P w)) a xs:=V5 b (.inl e)
end
def DGet(H:Hp)(a:Addr)(y:V)(r:Option V):Prop:=(∃kvs k,Rd H a (.dK kvs)/\y=kV k/\r=yq kvs k)\/∃kvs k b,Rd H a (.dT kvs)/\y=.ref b/\H b=some (.tup (k.map kV))/\r=yq kvs k
def Q7(H:Hp)(a:Addr)(y v:V)(G:Hp):Prop:=
 (∃kvs k,H a=some (.dK kvs)/\y=kV k/\kvs.length<sizeLine/\G=upd H a (.dK (v4 kvs k v)))\/
 ∃kvs k b,H a=some (.dT kvs)/\y=.ref b/\H b=some (.tup (k.map kV))/\kvs.length<sizeLine/\G=upd H a (.dT (v4 kvs k v))
theorem DGet.k{H:Hp}{a:Y}{kvs:O (aJ×V)}{k:aJ}(e:H a=some (.dK kvs)):DGet H a (kV k) (yq kvs k):=.inl ⟨kvs,k,.inl e,J,J⟩
theorem DGet.t{kvs:O (O aJ×V)}{k:O aJ}(e:H a=some (.dT kvs))(c:H b=some (.tup (k.map kV))):DGet H a (.ref b) (yq kvs k):=.inr ⟨kvs,k,b,.inl e,J,c,J⟩
theorem Q7.k{H:Hp}{a:Y}{kvs:O (aJ×V)}{k:aJ}{v:V}(e:H a=some (.dK kvs))(hl:kvs.length<sizeLine):Q7 H a (kV k) v (upd H a (.dK (v4 kvs k v))):=.inl ⟨kvs,k,e,J,hl,J⟩
theorem Q7.t{kvs:O (O aJ×V)}{k:O aJ}(e:H a=some (.dT kvs))(c:H b=some (.tup (k.map kV)))(hl:kvs.length<sizeLine):Q7 H a (.ref b) v (upd H a (.dT (v4 kvs k v))):=.inr ⟨kvs,k,b,e,J,c,hl,J⟩
section
variable{o:Option V}
theorem Inv.big(I:Inv X pins σ H s):sysModules<s.heap.objs.size:=by have h:=(I.mod.glob.keeps I.bk).lt;exact Nat.lt_trans (by decide) h
theorem IL(r:A.units+1<cLine)(I:Inv X pins σ H s)(g:DGet H a y (some v))(q:ym y u)(h:∀f s',Inv X pins σ H s'->ym v f->Q f s'):wpAny (model X.prog X.w) A (getItem (.ref a) u) Q E s:=by rcases g with⟨i,k,e,n,l⟩|⟨i,k,b,e,n,x,l⟩;subst n;obtain⟨z,w,D,d,o⟩:=Jh I.hok e;obtain⟨f,j,c⟩:=Ys.some_of (by rw[l];exact d.val k);exact wpAny_getItem_of (Xb q) o.mapOf j (h f _ (I.tok _) c);subst n;cases(q);obtain⟨z,w,C,d,o⟩:=V5 I.hok e;obtain⟨f,j,c⟩:=Ys.some_of (by rw[l];exact d.val k);obtain⟨p,t,m⟩:=cw.mp j;refine wpAny_getItem_heap (tupleKind_room_in1 r) (Yn I.hok x) o t ?_;rw[m];exact h f _ (I.tok _) c
theorem CG(n:A.units+1<cLine)(I:Inv X pins σ H s)(g:DGet H a y o)(m:ym y u)(h:∀s',Inv X pins σ H s'->Q (.bool o.isSome) s'):wpAny (model X.prog X.w) A (compareOp .In u (.ref a)) Q E s:=by rcases g with⟨d,k,e,i,l⟩|⟨d,k,b,e,i,p,l⟩;subst i;obtain⟨z,f,t,c,j⟩:=Jh I.hok e;refine wpAny_in_of (Xb m) f j.mapOf ?_;rw[<-(c.val k).isSome_eq,<-l];exact h _ (I.tok _);subst i;cases(m);obtain⟨z,f,r,c,j⟩:=V5 I.hok e;refine wpAny_in_heap (tupleKind_room_in1 n) (Yn I.hok p) f j ?_;have q:=(c.val k).isSome_eq;rw[Option.isSome_map]at q;rw[<-q,<-l];exact h _ (I.tok _)
theorem EV(n:A.units+1<cLine)(I:Inv X pins σ H s)(g:DGet H a y o)(m:ym y u)(h:∀s',Inv X pins σ H s'->Q (.bool (!o.isSome)) s'):wpAny (model X.prog X.w) A (compareOp .NotIn u (.ref a)) Q E s:=by rcases g with⟨d,k,e,i,l⟩|⟨d,k,b,e,i,p,l⟩;subst i;obtain⟨z,f,t,c,j⟩:=Jh I.hok e;refine wpAny_notIn_of (Xb m) f j.mapOf ?_;rw[<-(c.val k).isSome_eq,<-l];exact h _ (I.tok _);subst i;cases(show u=Value.ref b from m);obtain⟨z,f,r,c,j⟩:=V5 I.hok e;refine wpAny_notIn_heap (tupleKind_room_in1 n) (Yn I.hok p) f j ?_;have q:=(c.val k).isSome_eq;rw[Option.isSome_map]at q;rw[<-q,<-l];exact h _ (I.tok _)
theorem Yq{c:HO}(I:Inv X pins σ H s)(e:pq (H a))(hs:Heap.SameBut a s.heap h')(he:∃q,h'.get? a=some q)(d:va X.prog X.w (upd H a c) h' a c):Inv X pins σ (upd H a c) {s with heap:=h',toks:=t'}:=
 I.write e (.inl J) (λb q f z=>(hs.2 b f).trans z) he d
theorem sO{vs:O (aJ×I)}(z:kvs.length<=sizeLine)(c:(a==sysModules)=false)(b:KV kvs vs)(d:h'.DictOf (zy P w) a vs):va P w H' h' a (.dK kvs):=⟨z,c,vs,b,d⟩
theorem HZ{Q:Unit->Shared->Prop}(L:A.units+1<cLine)(I:Inv X pins σ H s)(g:Q7 H a y v H')(w:ym y u)(x:ym v r)(h:∀s',Inv X pins σ H' s'->Q () s'):wpAny (model X.prog X.w) A (setItem (.ref a) u r) Q E s:=by
 rcases g with⟨f,k,e,p,l,eH⟩|⟨f,k,b,e,p,D,l,eH⟩;subst p eH;obtain⟨z,o,G,d,t⟩:=wE I.hok e;have K:G.length<=sizeLine:=by rw[<-d.length];exact z
 have n:(v4 f k v).length<=sizeLine:=by have:=wc f k v;omega
 refine wpAny_setItem_pairs (Xb w) t λC i m=>h _ ?_;have M:∃q,C.get? a=some q:=let⟨q,_,_,j,_⟩:=i;⟨q,j⟩;exact Yq I (by rw[e];exact True.intro) m M (sO n o (d.put k x) i);subst p eH;cases(w);obtain⟨z,o,F,d,t⟩:=rM I.hok e;have K:F.length<=sizeLine:=by rw[<-Paired.length d];exact z
 have n:(v4 f k v).length<=sizeLine:=by have:=wc f k v;omega
 refine wpAny_setItem_heap (tupleKind_room_in1 L) (Yn I.hok D) t λC i m=>h _ ?_;obtain⟨q,U,W,j,S,R,P,_,N⟩:=i;refine Yq I (by rw[e];exact True.intro) m ⟨q,j⟩ ⟨n,o,_,(d.put k D x).keeps λc ys Z=>?_,q,U,W,j,S,R,P,N⟩;rw[upd_ne (Y8 Z e (λz=>nomatch z))];omega
end
section
variable{k:aJ}
end
def rA(i:Expr):Prop:=∀ov G,subscripted i false ov G=operate [ov,G] (getItem ov G)
theorem Ac{a:Expr}{T:String}(hl:typeLookup (.type T) "__getitem__"=pure (some (.builtin id))) (hs:rA a)
  (h:wpAny (model prog w) A (eval aY env) (λo d=>wpAny (model prog w) A (eval a env) (λi s₂=>s₂.TypeIs o T/\wpAny (model prog w) A (getItem o i) Q E s₂) E d) E s):
  wpAny (model prog w) A (eval (.Subscript aY a aD) env) Q E s:=by
 refine Subscript_ (dc h (λo d f=>dc f (λi s₂ b=>?_) λ_ _ x=>x) λ_ _ x=>x);obtain⟨hT,b⟩:=b;unfold subscriptTail;refine a4 ?_;rw[getitemInPython_of_ne hT.not_modules];refine a4 (wpAny_specialOf hT hl ?_);have fin:wpAny (model prog w) A (subscripted a false o i) (λr c=>wpAny (model prog w) A (letTemporaryGo aY o r>>=λ_=>pure r) Q E c) E s₂:=by rw[hs o i];exact wpAny_operating (dc b (λr c e=>a4 (wpAny_letTemporaryGo (a9 e))) λ_ _ x=>x)
 first|exact a9 (a4 fin)|exact a4 (a9 (a4 fin))|exact a4 fin
theorem Ly{o:Option V}(I:Inv X pins σ H s)(g:DGet H a y o):s.TypeIs (.ref a) "dict":=by rcases g with⟨c,k,e,_,_⟩|⟨c,k,b,e,_,_,_⟩;obtain⟨_,_,h,_,d⟩:=Jh I.hok e;exact d.typeIs;obtain⟨_,_,f,_,d⟩:=V5 I.hok e;exact d.typeIs
inductive fj(Q:VK)(x y:V)(H2:Hp):Prop|mk:∀a v,x=.ref a->DGet H2 a y (some v)->Q v H2->fj Q x y H2
def Dp(U G:TE):TE:=λσ H Q=>U σ H λx H1=>G σ H1 λy H2=>fj Q x y H2
inductive kL(Q:VK)(y x:V)(H2:Hp):Prop|mk:∀a o,x=.ref a->DGet H2 a y o->Q (.bl o.isSome) H2->kL Q y x H2
def vY(G U:TE):TE:=λσ H Q=>G σ H λy H1=>U σ H1 λx H2=>kL Q y x H2
inductive eK(Q:VK)(y x:V)(H2:Hp):Prop|mk:∀a o,x=.ref a->DGet H2 a y o->Q (.bl (!o.isSome)) H2->eK Q y x H2
def FV(G U:TE):TE:=λσ H Q=>G σ H λy H1=>U σ H1 λx H2=>eK Q y x H2
inductive hX(D:Ends)(σ:St)(v x y:V)(H3:Hp):Prop|mk:∀a H4,x=.ref a->Q7 H3 a y v H4->D.nx σ H4->hX D σ v x y H3
def DH(Z G U:TE):TS:=λD σ H=>U σ H λv H1=>Z σ H1 λx H2=>G σ H2 λy H3=>hX D σ v x y H3
section
variable{o i:Expr}{cY:Pos}{td ty:TE}
theorem wg(p:X.A.units+1<cLine)(q:PE X o td)(r:PE X i ty)(hs:rA i:=by exact λ_ _=>rfl):PE X (.Subscript o i aD) (Dp td ty):=by intro b s d H Q I h;refine Ac PySem.F.slot_dict_getitem.lookup hs (aF (q b s d H _ I h) λu f ⟨x,C,z,l,n⟩=>aF (r b f d C _ z n) λG F ⟨y,A,e,j,a,v,t,g,m⟩=>?_);subst t;obtain rfl:u=Value.ref a:=l;exact⟨Ly e g,IL p e g j λD E w c=>⟨v,A,w,c,m⟩⟩
theorem EQ(n:X.A.units+1<cLine)(q:PE X i ty)(p:PE X o td):PC X .In i o (vY ty td):=by intro b s c H Q I h;refine aF (q b s c H _ I h) λE d ⟨y,A,w,e,l⟩=>aF (p b d c A _ w l) λu D ⟨x,z,v,f,a,m,r,g,j⟩=>?_;subst r;obtain rfl:u=Value.ref a:=f;exact CG n v g e λC t=>⟨.bl m.isSome,z,t,J,j⟩
theorem IN(n:X.A.units+1<cLine)(q:PE X i ty)(p:PE X o td):PC X .NotIn i o (FV ty td):=by intro b s c H Q I h;refine aF (q b s c H _ I h) λE d ⟨y,A,w,e,l⟩=>aF (p b d c A _ w l) λu D ⟨x,z,v,f,a,m,r,g,j⟩=>?_;subst r;obtain rfl:u=Value.ref a:=f;exact EV n v g e λC t=>⟨.bl (!m.isSome),z,t,J,j⟩
theorem Yj(t:X.A.units+1<cLine)(w:PE X o td)(z:PE X i ty)(q:PE X aY tv)(hs:swapsWith aY (some (.Subscript o i cN)) aD.line X.env=pure false):PS X (.Assign [.Subscript o i cN] aY aD) (DH td ty tv):=by intro b s c H D I h;refine wpAny_Assign_Subscript (aF (q b s c H _ I h) λr e ⟨v,M,G,l,p⟩=>aF (w b e c M _ G p) λu d ⟨x,L,F,j,n⟩=>aF (z b d c L _ F n) λQ P ⟨y,R,E,f,a,K,A,g,m⟩=>?_) hs;subst A;obtain rfl:u=Value.ref a:=j;exact HZ t E g f l λN C=>⟨c,K,C,m⟩
end
theorem uv(h:Heap)(a:sysModules<h.objs.size):va P w H (h.push {cls:=.type "dict",data:=.dict #[]}) h.objs.size (.dK []):=⟨be _,beq_eq_false_iff_ne.mpr (ai (az a)),[],.nil,Heap.DictOf.new h⟩
theorem Av(h:Heap)(a:sysModules<h.objs.size):va P w H (h.push {cls:=.type "dict",data:=.dict #[]}) h.objs.size (.dT []):=⟨be _,beq_eq_false_iff_ne.mpr (ai (az a)),[],.nil,_,#[],0,bf _ J,⟨J,J,J⟩,J,J,List.nodup_nil⟩
def Ey:TE:=λ_ H Q=>∀p,H p=none->Q (.ref p) (upd H p (.dK []))
def Ez:TE:=λ_ H Q=>∀p,H p=none->Q (.ref p) (upd H p (.dT []))
section
theorem Vt:PE X (.Dict [] [] aD) Ey:=λa s b H Q I h=>wpAny_Dict_empty ⟨.ref s.heap.objs.size,_,I.laid (λ_ _ q=>aj _ q) (ae _) (uv s.heap I.big),J,h _ (I.hok.fresh (ae _))⟩
theorem Y5:PE X (.Dict [] [] aD) Ez:=λa s b H Q I h=>wpAny_Dict_empty ⟨.ref s.heap.objs.size,_,I.laid (λ_ _ q=>aj _ q) (ae _) (Av s.heap I.big),J,h _ (I.hok.fresh (ae _))⟩
end
def tm:List (TE×TE)->St->Hp->(List (V×V)->Hp->Prop)->Prop|[],_,H,Q=>Q [] H|(tk,tv)::r,σ,H,Q=>tk σ H λx H1=>tv σ H1 λy H2=>tm r σ H2 λps G=>Q ((x,y)::ps) G
abbrev VV:List (V×V)->List (Value×Value)->Prop:=Paired λp q=>ym p.1 q.1/\ym p.2 q.2
def qW(X:Cx)(aD:Pos)(U:List (Option Expr))(G:List Expr)(Z:List (TE×TE)):Prop:=
 ∀ (pins:List (Addr×Obj)) (s:Shared) (σ:St) (H:Hp) (Q:List (V×V)->Hp->Prop),Inv X pins σ H s->tm Z σ H Q->
   wpAny (model X.prog X.w) X.A (evalPairs (pairTrees U G X.env aD)) (λvs s'=>∃ps H',Inv X pins σ H' s'/\VV ps vs/\Q ps H') X.xe s
theorem Ju:qW X aD [] [] []:=λa s b H Q I h=>pairTrees_nil_walk ⟨[],H,I,.nil,h⟩
theorem vf{k v:Expr}{f:O (Option Expr)}{vs:O Expr}{e:TE}{b:O (TE×TE)}(hk:PE X k e)(q:PE X v tv)(r:qW X aD f vs b):qW X aD (some k::f) (v::vs) ((e,tv)::b):=λa s c H Q I h=>pairTrees_cons_walk (aF (hk a s c H _ I h) λu i ⟨x,D,z,l,o⟩=>aF (q a i c D _ z o) λF g ⟨y,C,w,j,n⟩=>aF (r a g c C _ w n) λE G ⟨p,A,t,d,m⟩=>⟨(x,y)::p,A,t,.cons ⟨l,j⟩ d,m⟩)
noncomputable def j5(kvs G:List (aJ×V)):List (aJ×V):=G.foldl (λU Z=>v4 U Z.1 Z.2) kvs
theorem KV.merge:∀{a:List (aJ×V)}{b:List (aJ×Value)}{kvs:List (aJ×V)}{vs:List (aJ×Value)},KV a b->KV kvs vs->KV (j5 kvs a) (merged vs b):=by
 intro a b kvs vs r;unfold KV at r;induction r generalizing kvs vs with|nil=>intro q;exact q| @cons p q g f h t d=>
   intro c;have e:KV (v4 kvs p.1 p.2) (stored vs q.1 q.2):=by
    have:=c.put p.1 h.2
    simp_all
   exact d e
theorem X3:∀(a kvs:List (aJ×V)),(j5 kvs a).length<=kvs.length+a.length
 |[],kvs=>by show kvs.length<=kvs.length+0;omega
 | p::r,kvs=>by
   have c:=X3 r (v4 kvs p.1 p.2);have b:=wc kvs p.1 p.2;show(j5 (v4 kvs p.1 p.2) r).length<=_
   grind
theorem BT{P:Program}{w:World}:∀{kvs:List (aJ×V)}{e:List (Value×Value)},VV (kvs.map λf=>(kV f.1,f.2)) e->∃d,Carries (zy P w) e d/\KV kvs d|[],_,r=>by rw[List.map_nil]at r;cases r;exact⟨[],True.intro,.nil⟩| p ::kvs,_,r=>by rw[c4]at r;cases r with| @cons a b as i h t=>obtain⟨d,c,q⟩:=BT t;obtain⟨j,g⟩:=b;exact⟨(p.1,g)::d,⟨Xb h.1,J,c⟩,.cons ⟨J,h.2⟩ q⟩
def Dq(G:List (TE×TE)):TE:=λσ H Q=>∀p,H p=none->tm G σ (upd H p (.dK [])) λps H2=>H2 p=some (.dK [])/\∃kvs:List (aJ×V),ps=kvs.map (λU=>(kV U.1,U.2))/\kvs.length<=15/\Q (.ref p) (upd H2 p (.dK (j5 [] kvs)))
theorem Jw{a:O (Option Expr)}{b:O Expr}{d:O (TE×TE)}(h:qW X aD a b d)(i:a.all (·.isSome)=true)(hl:a.length=b.length)(h0:a≠[])(m:a.length<=15):PE X (.Dict a b aD) (Dq d):=by
 intro f s o H Q I q;have hn:=I.hok.fresh (ae s.heap.objs.size);have K:=I.laid (t':=s.toks) (λ_ _ q=>aj _ q) (ae _) (uv s.heap I.big);refine wpAny_Dict_walk (knd:=zy X.prog X.w) i hl h0 m (aF (h f _ o _ _ K (q _ hn)) λL M ⟨N,R,n,l,e,g,F,P,v⟩=>?_);subst F;obtain⟨r,c,t⟩:=BT l;obtain⟨z,C,p,u,G⟩:=wE n.hok e;cases u;refine⟨r,c,G,λE j x=>⟨.ref s.heap.objs.size,_,?_,J,v⟩⟩;have w:(j5 [] g).length<=sizeLine:=by have D:=X3 g [];rw[List.length_nil]at D;rw[sizeLine_eq];omega
 have A:∃q,E.get? s.heap.objs.size=some q:=let⟨q,_,_,y,_⟩:=j;⟨q,y⟩;exact Yq n (by rw[e];exact True.intro) x A (sO w C (t.merge .nil) j)
structure M1(X:Cx)(o:Expr)(m:Str)(apos:Pos)(e:Expr)(cpos:Pos):Prop where
 base:attributeBase o m X.env (eval o X.env)=eval o X.env
 few:((backTo cpos (starEach [e] X.env)).all (λx=> !x.1) && (backToKw cpos (keywordEach [] X.env)).all (λx=>x.1.isSome) && decide (([e]:List Expr).length+([]:List Keyword).length+(if([]:List Keyword).isEmpty then 0 else 1)<30))=true
 line:(apos.endLine==cpos.line)=true
 trees:backTo cpos (starEach [e] X.env)=[(false,eval e X.env)]
structure M2(X:Cx)(o:Expr)(m:Str)(apos:Pos)(e f:Expr)(cpos:Pos):Prop where
 base:attributeBase o m X.env (eval o X.env)=eval o X.env
 few:((backTo cpos (starEach [e,f] X.env)).all (λx=> !x.1) && (backToKw cpos (keywordEach [] X.env)).all (λx=>x.1.isSome) && decide (([e,f]:List Expr).length+([]:List Keyword).length+(if([]:List Keyword).isEmpty then 0 else 1)<30))=true
 line:(apos.endLine==cpos.line)=true
 trees:backTo cpos (starEach [e,f] X.env)=[(false,eval e X.env),(false,eval f X.env)]
def vH(H:Hp)(a:Addr):Prop:=(∃kvs,Rd H a (.dK kvs))\/∃kvs,Rd H a (.dT kvs)
theorem xC(I:Inv X pins σ H s)(d:vH H a):s.TypeIs (.ref a) "dict"/\(∀b,Value.ref a=.ref b->∃c,s.heap.get? b=some c/\c.dict=none)/\(a==sysModules)=false:=by rcases d with⟨g,e⟩|⟨g,e⟩;obtain⟨_,h,m,_,f⟩:=Jh I.hok e;refine⟨f.typeIs,λb q=>?_,h⟩;cases q;obtain⟨c,_,_,j,i,_⟩:=f;exact⟨c,j,i.2.1⟩;obtain⟨_,h,l,_,f⟩:=V5 I.hok e;refine⟨f.typeIs,λb q=>?_,h⟩;cases q;obtain⟨c,_,_,j,i,_⟩:=f;exact⟨c,j,i.2.1⟩
section
variable{d:V}{o:Option V}
theorem Ei(q:A.units+1<cLine)(I:Inv X pins σ H s)(g:DGet H a y o)(n:ym y u)(h:∀m s',Inv X pins σ H s'->ym (o.getD .non) m->Q m s'):wpAny (model X.prog X.w) A (call (.builtin "dict.get") [.ref a,u]) Q E s:=by rcases g with⟨f,k,e,j,l⟩|⟨f,k,b,e,j,r,l⟩;subst j;obtain⟨z,i,t,c,d⟩:=Jh I.hok e;refine call_meetsIn PySem.F.slot_dict_get d.typeIs PySem.F.entry_dict_get (PySem.F.args_dict_get_2 _ _) (meets_dict_get (zy X.prog X.w) a (Xb n) i) ⟨_,d.mapOf,h _ _ (I.tok _) ?_⟩;rw[l];exact(c.val k).getD J;subst j;cases(n);obtain⟨z,i,p,c,d⟩:=V5 I.hok e;refine call_meetsIn PySem.F.slot_dict_get d.typeIs PySem.F.entry_dict_get (PySem.F.args_dict_get_2 _ _) (meetsH_dict_get (tupleKind (zy X.prog X.w)) a b i) ⟨tupleKind_room_in1 q,k,p,Yn I.hok r,d,h _ _ (I.tok _) ?_⟩;rw[l];exact(c.val k).getD J
theorem Ej(v:A.units+1<cLine)(I:Inv X pins σ H s)(g:DGet H a y o)(p:ym y u)(q:ym d r)(h:∀n s',Inv X pins σ H s'->ym (o.getD d) n->Q n s'):wpAny (model X.prog X.w) A (call (.builtin "dict.get") [.ref a,u,r]) Q E s:=by rcases g with⟨i,k,e,m,l⟩|⟨i,k,b,e,m,w,l⟩;subst m;obtain⟨z,j,x,c,f⟩:=Jh I.hok e;refine call_meetsIn PySem.F.slot_dict_get f.typeIs PySem.F.entry_dict_get (PySem.F.args_dict_get_3 _ _ _) (meets_dict_get_default (zy X.prog X.w) a (Xb p) j r) ⟨_,f.mapOf,h _ _ (I.tok _) ?_⟩;rw[l];exact(c.val k).getD q;subst m;cases(p);obtain⟨z,j,t,c,f⟩:=V5 I.hok e;refine call_meetsIn PySem.F.slot_dict_get f.typeIs PySem.F.entry_dict_get (PySem.F.args_dict_get_3 _ _ _) (meetsH_dict_get_default (tupleKind (zy X.prog X.w)) a b j r) ⟨tupleKind_room_in1 v,k,t,Yn I.hok w,f,h _ _ (I.tok _) ?_⟩;rw[l];exact(c.val k).getD q
end
inductive fE(Q:VK)(a:Addr)(y:V)(H2:Hp):Prop|mk:∀o,DGet H2 a y o->Q (o.getD .non) H2->fE Q a y H2
inductive eM(ty:TE)(σ:St)(Q:VK)(x:V)(H1:Hp):Prop|mk:∀a,x=.ref a->vH H1 a->(ty σ H1 λy H2=>fE Q a y H2)->eM ty σ Q x H1
def yI(U G:TE):TE:=λσ H Q=>U σ H λx H1=>eM G σ Q x H1
inductive fD(Q:VK)(a:Addr)(y z:V)(H3:Hp):Prop|mk:∀o,DGet H3 a y o->Q (o.getD z) H3->fD Q a y z H3
inductive eL(ty tx:TE)(σ:St)(Q:VK)(x:V)(H1:Hp):Prop|mk:∀a,x=.ref a->vH H1 a->(ty σ H1 λy H2=>tx σ H2 λz H3=>fD Q a y z H3)->eL ty tx σ Q x H1
def Ev(Z G U:TE):TE:=λσ H Q=>Z σ H λx H1=>eL G U σ Q x H1
section
variable{o f:Expr}{cpos:Pos}{td ty tx:TE}
theorem AQ(v:X.A.units+1<cLine)(w:PE X o td)(he:PE X e ty)(m:M1 X o "get" apos e cpos):PE X (.Call (.Attribute o "get" apos) [e] [] cpos) (yI td ty):=by intro b s f H Q I h;refine wpAny_Call_method m.base m.few m.line PySem.F.plainAttrs_dict PySem.F.slot_dict_get PySem.F.type_dict_get (aF (w b s f H _ I h) λu n ⟨x,E,i,q,a,z,d,t⟩=>?_);subst z;obtain rfl:u=Value.ref a:=q;obtain⟨l,j,_⟩:=xC i d;refine⟨l,j,?_⟩;rw[m.trees];refine Calls.callWith_builtin J (Calls.evalArgs_plain (Calls.spliced_cons (aF (he b n f E _ i t) λM K ⟨y,D,C,p,L,g,r⟩=>Calls.spliced_nil ?_)));exact Ei v C g p λF G A c=>⟨_,D,A,c,r⟩
theorem Vu(D:X.A.units+1<cLine)(E:PE X o td)(he:PE X e ty)(F:PE X f tx)(m:M2 X o "get" apos e f cpos):PE X (.Call (.Attribute o "get" apos) [e,f] [] cpos) (Ev td ty tx):=by
 intro b s c H Q I h;refine wpAny_Call_method m.base m.few m.line PySem.F.plainAttrs_dict PySem.F.slot_dict_get PySem.F.type_dict_get (aF (E b s c H _ I h) λu q ⟨x,R,j,v,a,G,d,C⟩=>?_);subst G;obtain rfl:u=Value.ref a:=v;obtain⟨n,l,_⟩:=xC j d;refine⟨n,l,?_⟩;rw[m.trees];refine Calls.callWith_builtin J (Calls.evalArgs_plain (Calls.spliced_cons (aF (he b q c R _ j C) λiv p ⟨y,P,M,t,A⟩=>Calls.spliced_cons (aF (F b p c P _ M A) λfv W ⟨z,N,L,r,Z,g,w⟩=>Calls.spliced_nil ?_))))
 exact Ej D L g t r λS U K i=>⟨_,N,K,i,w⟩
end
section
end
section
end
end L2
namespace HT
open PySem PyProof.Rows
variable{sl:Addr}{A:Around}{aC:Array Value}{s:Shared}{vl vu:Value}{E Q:Value->Shared->Prop}
section
open PySem.SeqAt
open PySem.AutoSeq1 (wpAny_loadPart')
open PySem.MeetsSeq PySem.MeetsSeq2 PySem.MeetsSeq3
end
section
variable{prog:Program}{w:World}
theorem qU{t b:Y}{vs a:O I}(v:IsTup s.heap t vs.toArray)(y:IsTup s.heap b a.toArray)(D:vs≠[])(z:a=[]->Q (.ref t) s) (F:a≠[]->Q (.ref s.heap.objs.size) {s with heap:=s.heap.push {cls:=.type "tuple",data:=.seq (vs++a).toArray}})
  (x:vs.length+a.length<=sizeLine):wpAny (model prog w) A (binaryOp .Add (.ref t) (.ref b)) Q E s:=by
 obtain⟨⟨C,p,q,j⟩,i,o,n,m⟩:=id v;obtain⟨⟨r,h,data2,d⟩,c,g,l,f⟩:=id y;simp only at o m g f;subst o m g f;have e:vs.toArray++a.toArray=(vs++a).toArray:=by simp
 by_cases u:a=[];exact concat_meets ⟨_,i,J⟩ ⟨_,c,J⟩ noFill_tuple_add seq_tuple_add PySem.F.slot_tuple_add PySem.F.entry_tuple_add (PySem.F.args_tuple_add_2 _ _)
  (tuple_addW1 t b vs.toArray a.toArray n l p h j d (by simp_all) (by grind)) ⟨i,c,z u⟩
 refine concat_meets ⟨_,i,J⟩ ⟨_,c,J⟩ noFill_tuple_add seq_tuple_add PySem.F.slot_tuple_add PySem.F.entry_tuple_add (PySem.F.args_tuple_add_2 _ _)
  (tuple_addW2 t b vs.toArray a.toArray n l p h j d (by simp_all) (by simp_all) (by omega)) ⟨i,c,?_⟩
 simp_all
noncomputable def bV(n d:Nat):Option Int->Nat|none=>d|some v=>if v<0 then(v+(n:Int)).toNat else min v.toNat n
theorem oj(n d:Nat):bV n d none=d:=rfl
theorem qS(n d k:Nat):bV n d (some (k:Int))=min k n:=by rfl
theorem Eo(n d:Nat)(a:d<=n)(o:Option Int):bV n d o<=n:=by
 cases o with|none=>exact a| some v=>
   show(if v<0 then(v+n).toNat else min v.toNat n)<=n
   grind
theorem zW(v:Int)(n d:Nat):(if v<0 then max (v+(n:Int)) 0 else min v (n:Int))=((bV n d (some v):Nat):Int):=by
 show(if v<0 then max (v+n) 0 else min v n)=(((if v<0 then(v+n).toNat else min v.toNat n):Nat):Int)
 grind
theorem JR(lo a:Option Int)(n:Nat):Builtin.Slice.sliceAdjust lo a 1 (n:Int)=(((bV n 0 lo:Nat):Int),((bV n n a:Nat):Int)):=by
 have b:¬((1)<0):=by omega
 unfold Builtin.Slice.sliceAdjust;simp only[b,if_false];refine Prod.ext ?_ ?_;cases lo with|none=>rfl|some v=>exact zW v n 0
 cases a with|none=>rfl|some v=>exact zW v n n
theorem Lx(i j:Nat):Builtin.Slice.slicePlaces (i:Int) (j:Int) 1=j-i:=by
 unfold Builtin.Slice.slicePlaces;have a:(1:Int)>0:=by omega
 simp only[a,if_true,Int.ediv_one];split<;>omega
theorem Kj{v:Value}{o:Option Int}{Q:Option Int->Shared->Prop}(p:IsPart v o)(h:Q o s):wpAny (model prog w) A (Builtin.Slice.slicePartIndex v) Q E s:=by cases p with|none=>exact slicePart_none h|int i t=>exact slicePart_int h
theorem Z6{lo b:Option Int}{n:Nat}{Q:Int×Int×Nat->Shared->Prop}(hs:s.heap.IsSliceOf sl vl vu .none)(e:IsPart vl lo)(d:IsPart vu b)(h:Q (((bV n 0 lo:Nat):Int),1,bV n n b-bV n 0 lo) s):wpAny (model prog w) A (Builtin.Slice.sliceApplied (.ref sl) (pure (n:Int))) Q E s:=by obtain⟨os,a,f,c⟩:=id hs;unfold Builtin.Slice.sliceApplied Builtin.Slice.sliceFields;refine a4 (a4 (wpAny_field a c J (a4 (wpAny_field a c J (a4 (wpAny_field a c J (a9 ?_)))))));refine a4 (slicePart_none ?_);rw[if_neg (by decide)];refine a4 (Kj e (a4 (Kj d (a4 (a9 ?_)))));show wpAny _ _ (match Builtin.Slice.sliceAdjust lo b 1 n with|(lo,b)=>pure (lo,(1:Int),Builtin.Slice.slicePlaces lo b 1)) _ _ s;rw[JR lo b n];show wpAny _ _ (pure (((bV n 0 lo):Int),(1),Builtin.Slice.slicePlaces ((bV n 0 lo:Nat)) ((bV n n b):Int) 1)) _ _ s;rw[Lx];exact a9 h
theorem Hc(xs:Array I)(i k:Nat):((List.range k).filterMap λ(m:Nat)=>xs[((i:Int)+(m:Int)*1).toNat]?).toArray=((xs.toList.drop i).take k).toArray:=by
 have e:(λ(m:Nat)=>xs[((i:Int)+m*1).toNat]?)=λm=>xs[i+m]?:=by grind
 rw[e];have:=pick_run xs i k;rw[List.filterMap_map]at this;have a:((λx=>xs[x]?)∘λx=>i+x)=λm=>xs[i+m]?:=rfl
 simp_all
theorem fN{t:Y}{lo b:Option Int}(c:IsTup s.heap t aC)(hs:s.heap.IsSliceOf sl vl vu .none)(j:IsPart vl lo)(i:IsPart vu b)(l:¬(bV aC.size 0 lo=0/\bV aC.size aC.size b=aC.size))
  (h:Q (.ref s.heap.objs.size) {s with heap:=s.heap.push {cls:=.type "tuple",data:=.seq ((aC.toList.drop (bV aC.size 0 lo)).take (bV aC.size aC.size b-bV aC.size 0 lo)).toArray}})
  (m:aC.size<=sizeLine):wpAny (model prog w) A (getItem (.ref t) (.ref sl)) Q E s:=by
 have a:sizeOk (.seq ((aC.toList.drop (bV aC.size 0 lo)).take (bV aC.size aC.size b-bV aC.size 0 lo)).toArray):=by show((aC.toList.drop (bV aC.size 0 lo)).take (bV aC.size aC.size b-bV aC.size 0 lo)).toArray.size<=sizeLine;rw[cz,d5,List.length_drop,Array.length_toList];omega
 have r:bV aC.size aC.size b<=aC.size:=Eo _ _ (ae _) b;obtain⟨os,d,f,n⟩:=id hs;have g:s.TypeIs (.ref sl) "slice":=⟨os,d,f⟩
 unfold getItem
 try with_reducible refine wpAny_holding ?_
 first|refine a4 (a9 ?_)|skip
 refine a4 (wpAny_sequenceKey c.typeIs (by decide) ?_);refine a4 (wpAny_callSpecial?_slot (name:=Str.ofString "__getitem__") c.typeIs PyProof.Rows.slot_tuple_getitem (cf PyProof.Rows.slot_tuple_getitem c.typeIs entry_tuple_getitem ?_ (args_tuple_getitem _ _)))
 show wpAny _ _ (Builtin.Tuple.tupleItemsOf (.ref t)>>=_) _ _ s;refine a4 (tupleItemsOf_ c ?_);refine a4 (wpAny_typeOf g ?_);rw[if_pos (by decide)];refine a4 (Z6 hs j i ?_);have e:¬((((bV aC.size 0 lo:Nat):Int)==0 && (1:Int)==1 && (bV aC.size aC.size b-bV aC.size 0 lo)==aC.size)=true):=by intro q;rw[cg,cg]at q;have p:((bV aC.size 0 lo:Nat):Int)=0:=eq_of_beq q.1.1;have o:bV aC.size aC.size b-bV aC.size 0 lo=aC.size:=eq_of_beq q.2;exact l ⟨by omega,by omega⟩
 show wpAny _ _ (if(((bV aC.size 0 lo:Nat):Int)==0 && (1:Int)==1 && (bV aC.size aC.size b-bV aC.size 0 lo)==aC.size)=true then _ else _) _ _ s;rw[if_neg e,Hc];first|exact a4 (m:=Builtin.Tuple.tupleExact _) (cx (a9 ⟨_,J,a9 h⟩) a)|exact a4 (m:=Builtin.Tuple.tupleExact _) (cx (a4 (a9 (a9 ⟨_,J,a9 h⟩))) a)|exact a4 (a4 (m:=Builtin.Tuple.tupleExact _) (cx (a9 (a9 ⟨_,J,a9 h⟩)) a))|exact a4 (a4 (m:=Builtin.Tuple.tupleExact _) (cx (a9 ⟨_,J,a9 h⟩) a))
end
end HT
namespace L2
open PySem PySem.Spec PyProof.Rows
variable{A:Around}{X:Cx}{e:Expr}{H:Hp}{i:Int}{pins:List (Addr×Obj)}{es:List Expr}{ns:List Int}{xs ys:List V}{its dJ us:List Value}{j t':Nat}{aD:Pos}{s:Shared}{σ:St}{x:V}{u v:Value}{E:Value->Shared->Prop}
abbrev TO:=St->Hp->(Option Int->Hp->Prop)->Prop
def PO(X:Cx)(e:Option Expr)(t:TO):Prop:=
 ∀ (pins:List (Addr×Obj)) (s:Shared) (σ:St) (H:Hp) (Q:Option Int->Hp->Prop),Inv X pins σ H s->t σ H Q->
   wpAny (model X.prog X.w) X.A (evalPart e X.env) (λu s'=>∃o H',Inv X pins σ H' s'/\IsPart u o/\Q o H') X.xe s
def FX:TO:=λ_ H Q=>Q none H
inductive gP(Q:Option Int->Hp->Prop)(x:V)(H1:Hp):Prop|mk:∀i,x=.int i->Q (some i) H1->gP Q x H1
def Dz(t:TE):TO:=λσ H Q=>t σ H λx H1=>gP Q x H1
theorem BZ:∀{us:List Value},yn (ns.map V.int) us->IntsAre us ns:=by induction ns with|nil=>intro us r;rw[List.map_nil]at r;cases r;exact .nil| cons n ns c=>intro us r;rw[c4]at r;cases r with| cons b a=>obtain⟨t,e⟩:=b;subst e;exact .cons n t (c a)
section
variable{te:TE}{lo hi:Option Expr}{tl th:TO}{p2:Pos}
theorem Zv:PO X none FX:=by intro a s b H Q I h;rw[evalPart_none];exact a9 ⟨none,H,I,.none,h⟩
theorem Zu(h:PE X e te):PO X (some e) (Dz te):=by intro a s b H Q I f;rw[evalPart_some];refine aF (h a s b H _ I f) λu l ⟨x,j,g,c,d⟩=>?_;obtain⟨i,rfl,q⟩:=d;obtain⟨t,rfl⟩:=c;exact⟨some i,j,g,.int i t,q⟩
inductive pi(X:Cx)(pins:List (Addr×Obj))(s:Shared)(σ:St)(v:Value)(sl:Addr)(Q:VK):Prop|mk:∀T id,typeLookup (.type T) "__getitem__"=pure (some (.builtin id))->s.TypeIs v T->wpAny (model X.prog X.w) X.A (getItem v (.ref sl)) (EP X pins σ Q) X.xe s->pi X pins s σ v sl Q
def nC(X:Cx)(r:V->Option Int->Option Int->Hp->VK->Prop):Prop:=
 ∀ (pins:List (Addr×Obj)) (s:Shared) (σ:St) (H:Hp) (x:V) (v vl vu:Value) (lo hi:Option Int) (sl:Addr) (Q:VK),Inv X pins σ H s->ym x v->s.heap.IsSliceOf sl vl vu .none->IsPart vl lo->IsPart vu hi->r x lo hi H Q->
   pi X pins s σ v sl Q
def MI(r:V->Option Int->Option Int->Hp->VK->Prop)(Z:TE)(G U:TO):TE:=λσ H Q=>Z σ H λx H1=>G σ H1 λl H2=>U σ H2 λu H3=>r x l u H3 Q
theorem kr{r:V->Option Int->Option Int->Hp->VK->Prop}(C:nC X r)(he:PE X e te)(hl:PO X lo tl)(z:PO X hi th):PE X (.Subscript e (.Slice lo hi none p2) aD) (MI r te tl th):=by intro a s c H Q I h;refine Subscript_ (aF (he a s c H _ I h) λv m ⟨x,M,K,n,t⟩=>?_);refine wpAny_Slice (aF (hl a m c M _ K t) λg j ⟨l,L,G,y,p⟩=>aF (z a j c L _ G p) λf d ⟨u,i,F,w,o⟩=>?_);rw[evalPart_none];refine a9 ?_;have E:Inv X a c i {d with heap:=d.heap.push {cls:=.type "slice",data:=.fields #[g,f,.none]}}:=F.kept λb N q=>aj _ q;obtain⟨T,id,hT,A,D⟩:=C a {d with heap:=d.heap.push {cls:=.type "slice",data:=.fields #[g,f,.none]}} c i x v g f l u d.heap.objs.size Q E n (Heap.IsSliceOf.new ..) y w o;exact tail_any A hT D (by rfl)
noncomputable def jG(xs:List V)(lo G:Option Int):List V:=(xs.drop (HT.bV xs.length 0 lo)).take (HT.bV xs.length xs.length G-HT.bV xs.length 0 lo)
theorem Jj(xs:O V)(lo a:Option Int):(jG xs lo a).length<=xs.length:=by unfold jG;rw[d5,List.length_drop];omega
inductive oq(K:W.Frag)(x:V)(lo hi:Option Int)(H:Hp)(Q:VK):Prop|mk:∀a xs,x=.ref a->aE K H a xs->¬(HT.bV xs.length 0 lo=0/\HT.bV xs.length xs.length hi=xs.length)->(∀p,H p=none->Q (.ref p) (upd H p (.tup (jG xs lo hi))))->oq K x lo hi H Q
theorem Er:nC X (oq X.K):=by
 intro f s t H x v w u lo i y Q I j p m l h;obtain⟨a,c,rfl,o,A,q⟩:=h;cases j;obtain⟨e,r,g,n⟩:=I.tuple o;have d:e.toArray.size=c.length:=by rw[cz];exact r.length.symm
 refine⟨"tuple",_,PyProof.Rows.slot_tuple_getitem.lookup,g.typeIs,?_⟩;refine HT.fN g p m l (by simp_all) ?_ (by omega);rw[d];refine⟨.ref s.heap.objs.size,_,I.laid (λb z q=>aj _ q) (ae _) ?_,J,q _ (I.hok.fresh (ae _))⟩;exact⟨c9 (Jj c lo i) n,_,(r.drop (HT.bV c.length 0 lo)).take (HT.bV c.length c.length i-HT.bV c.length 0 lo),IsTup.new _ _,gp.push⟩
inductive lc(K:W.Frag)(x y:V)(H:Hp)(Q:VK):Prop|mk:∀a b xs ys,x=.ref a->y=.ref b->aE K H a xs->aE K H b ys->xs≠[]->xs.length+ys.length<=sizeLine->(ys=[]->Q (.ref a) H)->(ys≠[]->∀p,H p=none->Q (.ref p) (upd H p (.tup (xs++ys))))->lc K x y H Q
theorem yn.nil_iff(r:yn xs us):us=[]↔xs=[]:=by cases r with|nil=>simp|cons _ _=>simp
theorem Fu:cI X (binaryOp .Add) (lc X.K):=by intro e s A H x y v u Q I i g h;obtain⟨a,b,D,C,rfl,rfl,t,r,p,F,l,j⟩:=h;cases i;cases g;obtain⟨o,d,n,_⟩:=I.tuple t;obtain⟨f,c,m,_⟩:=I.tuple r;refine HT.qU n m (λz=>p (d.nil_iff.mp z)) (λz=>⟨.ref a,H,I,J,l (c.nil_iff.mp z)⟩) (λz=>?_) (by rw[<-d.length,<-c.length];omega);refine⟨.ref s.heap.objs.size,_,I.laid (λb E q=>aj _ q) (ae _) ?_,J,j (λw=>z (c.nil_iff.mpr w)) _ (I.hok.fresh (ae _))⟩;exact⟨by simp_all,_,d.append c,IsTup.new _ _,gp.push⟩
end
noncomputable def jU(n:Nat)(i:Int):Option Nat:=if 0<=i then(if i<n then some i.toNat else none)else if -(n:Int)<=i then some (i+n).toNat else none
noncomputable def cE{G:Type}(xs:List G)(i:Int):Option G:=(jU xs.length i).bind λj=>xs[j]?
theorem zH{n:Nat}(h:jU n i=some j):seqIndex? i n=some j/\j<n/\ -(n:Int)<=i/\i<n:=by
 unfold jU at h;by_cases b:0<=i;rw[if_pos b]at h;by_cases a:i<n;rw[if_pos a]at h;have e:=Option.some.inj h;exact⟨by rw[seqIndex_of b a,e],by omega,by omega,a⟩
 simp_all
 rw[if_neg b]at h;by_cases a: -n<=i;rw[if_pos a]at h;have e:=Option.some.inj h;exact⟨by rw[seqIndex_neg (by omega) a,e],by omega,a,by omega⟩
 simp_all
theorem tP{a:Type}{xs:List a}{v:a}(h:cE xs i=some v):∃j,seqIndex? i xs.length=some j/\xs[j]?=some v/\j<xs.length/\ -(xs.length:Int)<=i/\i<xs.length:=by
 unfold cE at h;cases e:jU xs.length i with|none=>simp_all| some j=>
   rw[e]at h;obtain⟨f,d,c,b⟩:=zH e
   simp_all
theorem y9{a:Type}{xs:O a}{v:a}(h:xs[j]?=some v):cE xs (j:Int)=some v:=by
 have b:=(ci.mp h).1;have e:jU xs.length j=some j:=by
  unfold jU
  simp_all
 unfold cE;simp_all
def Fe(b:Expr):Prop:=∀o i,subscripted b false o i=operate [o,i] (getItem o i)
def re(X:Cx)(r:R2):Prop:=
 ∀ (aY G:Expr) (pins:List (Addr×Obj)) (s:Shared) (σ:St) (H:Hp) (x y:V) (v u:Value) (Q:VK),Inv X pins σ H s->ym x v->ym y u->r x y H Q->
   subscripted G false v u=operate [v,u] (getItem v u)->wpAny (model X.prog X.w) X.A (subscriptTail aY G v u) (EP X pins σ Q) X.xe s
def mF(X:Cx)(id:String)(r:V->List V->Hp->VK->Prop):Prop:=
 ∀ (pins:List (Addr×Obj)) (s:Shared) (σ:St) (H:Hp) (x:V) (xs:List V) (v:Value) (us:List Value) (Q:VK),Inv X pins σ H s->ym x v->yn xs us->r x xs H Q->
   wpAny (model X.prog X.w) X.A (call (.builtin id) (v::us)) (EP X pins σ Q) X.xe s
section
variable{a b:Expr}{ta tb:TE}
theorem zr{r:R2}(i:re X r)(l:PE X a ta)(j:PE X b tb)(hs:Fe b:=by exact λ_ _=>rfl):PE X (.Subscript a b aD) (qP r ta tb):=by intro c s d H Q I h;exact Subscript_ (rD l j I h λv u e x y n m g f q=>i a b c e d n x y v u Q m g f q (hs _ _))
inductive oB(K:W.Frag)(x y:V)(H:Hp)(Q:VK):Prop|mk:∀p xs i v,x=.ref p->y=.int i->aG K H p xs->cE xs i=some v->Q v H->oB K x y H Q
inductive cO(K:W.Frag)(x y:V)(H:Hp)(Q:VK):Prop|mk:∀p xs i v,x=.ref p->y=.int i->aE K H p xs->cE xs i=some v->Q v H->cO K x y H Q
inductive oz(x y:V)(H:Hp)(Q:VK):Prop|mk:∀z i c,x=.str z->y=.int i->z.length<=sizeLine->cE z.cps.toList i=some c->Q (.str ⟨#[c]⟩) H->oz x y H Q
theorem y4:re X (oB X.K):=by
 intro R b a s m H x y v u Q I o n h f;obtain⟨p,K,i,z,rfl,rfl,A,D,q⟩:=h;cases o;obtain⟨t,rfl⟩:=n;obtain⟨e,r,d,L⟩:=I.list A;obtain⟨j,g,G,N,F,E⟩:=tP D;obtain⟨w,P,c⟩:=r.get G;have M:=r.length;have hn:=Wk;have fin:EP X a m Q w s:=⟨z,H,I,c,q⟩
 by_cases l:0<=i;have C:i.toNat=j:=by
  rw[seqIndex_of l E]at g
  simp_all
 exact item_listR d.isList l (by omega) (by simp_all) fin f;have C:(i+e.toArray.size).toNat=j:=by
  rw[seqIndex_neg (by omega) F]at g
  simp_all
 exact subscriptTail_builtinR d.isList.typeIs slot_list_getitem.lookup
  (wpAny_getItem_list_neg d.isList (by omega) (by simp_all) (by omega) (by simp_all) ⟨J,fin⟩) f
theorem zt:re X (cO X.K):=by
 intro N b a s e H x y v u Q I g f h m;obtain⟨p,D,i,z,rfl,rfl,n,A,q⟩:=h;cases g;obtain⟨t,rfl⟩:=f;obtain⟨l,r,d,E⟩:=I.tuple n;obtain⟨j,L,C,K,G,F⟩:=tP A;obtain⟨w,M,c⟩:=r.get C;have o:=r.length;have hn:=Wk;have fin:EP X a e Q w s:=⟨z,H,I,c,q⟩
 exact subscriptTail_builtinR d.typeIs slot_tuple_getitem.lookup
  (getItem_tuple d (by omega) (by omega) (by rw[cz,<-o];omega) (by simp_all) ⟨J,fin⟩) m
theorem D2:re X oz:=by
 intro F a b s A H x y v u Q I f e h g;obtain⟨z,i,c,rfl,rfl,D,m,q⟩:=h;obtain⟨t,rfl⟩:=f;obtain⟨C,rfl⟩:=e;obtain⟨j,d,p,E,o,n⟩:=tP m;have l:z.cps.toList.length=z.length:=by simp[Str.length]
 rw[l]at d o n;have hn:=Wk;exact tail_any (typeIs_str s z t) slot_str_getitem.lookup (getItem_str (c:=c) (by have w:decide (i< -(2^63:Int))=false:=c6 (by omega);have r:decide (i≥2^63)=false:=c6 (by omega);rw[w,r,Bool.or_false]) (by rw[d];simpa using p) ⟨.str ⟨#[c]⟩,H,I.tok _,⟨_,J⟩,q⟩) g
theorem KE(its:O I)(n j:Nat)(u:I):Obj.mapSeq (·.setIfInBounds j u) {cls:=.type "list",data:=.seq its.toArray n}={cls:=.type "list",data:=.seq (its.set j u).toArray n}:=by simp[Obj.mapSeq]
theorem Inv.lst{a:O (Y×Obj)}{b:St}{H:Hp}{s:Shared}{p:Y}{xs:O V}(I:Inv X a b H s)(h:H p=some (.lst xs)):∃(its:O Value)(n:Nat),yn xs its/\s.heap.get? p=some {cls:=.type "list",data:=.seq its.toArray n}/\xs.length<=sizeLine:=by
 obtain⟨z,its,n,r,e⟩:=I.hok p _ h
 simp_all
theorem Inv.lstUpd{p:Y}{n a:Nat}{f:Obj->Obj}(I:Inv X pins σ H s)(h:H p=some (.lst xs))(d:s.heap.get? p=some {cls:=.type "list",data:=.seq its.toArray n}) (c:f {cls:=.type "list",data:=.seq its.toArray n}={cls:=.type "list",data:=.seq dJ.toArray a}) (r:yn ys dJ) (hz:ys.length<=sizeLine) (t:Nat):
  Inv X pins σ (upd H p (.lst ys)) {s with heap:=s.heap.update p f,toks:=t}:=by
 have e:(s.heap.update p f).get? p=some {cls:=.type "list",data:=.seq dJ.toArray a}:=by rw[Heap.get?_update_self f d (by rw[c]<;>rfl),c]
 refine I.write (by rw[h];trivial) (.inl J) (λb u g q=>(Heap.get?_update_other _ _ (ai g)).trans q) ⟨_,e⟩ ?_;exact⟨hz,dJ,a,r,e⟩
inductive kT(o i v:V)(H:Hp)(Q:Hp->Prop):Prop|mk:∀p xs k j,o=.ref p->i=.int k->H p=some (.lst xs)->jU xs.length k=some j->Q (upd H p (.lst (xs.set j v)))->kT o i v H Q
theorem W7:rC X kT:=by
 intro c s z H o i v C D u Q I l m g h;obtain⟨p,A,k,j,rfl,rfl,d,w,q⟩:=h;cases l;obtain⟨t,rfl⟩:=m;obtain⟨a,n,r,b,E⟩:=I.lst d;obtain⟨e,G,y,x⟩:=zH w;have F:=r.length;have hn:=Wk;have K:=
  I.lstUpd d b (KE a n j u) (r.set g j) (by simp_all) s.toks
 by_cases f:0<=k;have hk:k.toNat=j:=by
  rw[seqIndex_of f x]at e
  simp_all
 exact W.ki_setAt b f (by omega) (by simp_all) (by grind);have hk:(k+a.toArray.size).toNat=j:=by
  rw[seqIndex_neg (by omega) y]at e
  simp_all
 exact W.ki_setBack b (by omega) (by simp_all) (by omega) (by grind)
theorem Mg(lo a:Option Int)(n:Nat):(sliceBounds lo a none n).1=((HT.bV n 0 lo:Nat):Int)/\(sliceBounds lo a none n).2.1=((HT.bV n n a:Nat):Int)/\(sliceBounds lo a none n).2.2=1:=by
 refine⟨?_,?_,J⟩;cases lo with|none=>rfl| some i=>
   simp only[sliceBounds,HT.bV,Option.getD_none,show(1)>0 by decide,if_true]
   grind
 cases a with|none=>rfl| some i=>
   simp only[sliceBounds,HT.bV,Option.getD_none,show(1)>0 by decide,if_true]
   grind
theorem MA(its:O I)(lo a:Option Int):slicePick its.toArray lo a none=((its.drop (HT.bV its.length 0 lo)).take (HT.bV its.length its.length a-HT.bV its.length 0 lo)).toArray:=by obtain⟨d,c,b⟩:=Mg lo a its.toArray.size;unfold slicePick;rw[d,c,b];simp only[sliceRange_one,pick_run,cz]<;>rfl
inductive ou(K:W.Frag)(x:V)(lo hi:Option Int)(H:Hp)(Q:VK):Prop|mk:∀a xs,x=.ref a->aG K H a xs->(∀p,H p=none->Q (.ref p) (upd H p (.lst (jG xs lo hi))))->ou K x lo hi H Q
theorem Jt:nC X (ou X.K):=by intro e s t H x v w u lo g y Q I i p l j h;obtain⟨a,c,rfl,o,q⟩:=h;cases i;obtain⟨m,r,f,n⟩:=I.list o;have d:=r.length;refine⟨"list",_,slot_list_getitem.lookup,f.isList.typeIs,?_⟩;refine wpAny_getItem_list_slice f.isList p l j .none (by simp) ?_ (by simp_all);rw[MA,<-d];refine⟨.ref s.heap.objs.size,_,I.laid (λb z q=>aj _ q) (ae _) ?_,J,q _ (I.hok.fresh (ae _))⟩;exact⟨c9 (Jj c lo g) n,_,0,(r.drop (HT.bV c.length 0 lo)).take (HT.bV c.length c.length g-HT.bV c.length 0 lo),bf _ J⟩
noncomputable def Xe:V->Bool|.non=>true|.bl _=>true|.int _=>true|.str _=>true|_=>false
noncomputable def jV:V->V->Bool|.non,.non=>true|.bl a,.bl b=>a==b|.bl a,.int b=>(if a then 1 else 0)==b|.int a,.bl b=>a==(if b then 1 else 0)|.int a,.int b=>a==b|.str a,.str b=>a==b|_,_=>false
theorem DS{y:V}(e:ym y u)(c:ym x v)(g:Xe y=true)(f:Xe x=true):SeqAt.EqAt A s u v (jV y x):=by
 cases y with
 | non=>
   cases e;cases x with
   |non=>cases c;exact SeqAt.EqAt.same _
   |bl b=>cases c;exact SeqAt.EqAt.none_bool b
   |int b=>obtain⟨t,rfl⟩:=c;exact SeqAt.EqAt.none_int b t
   |str b=>obtain⟨t,rfl⟩:=c;exact SeqAt.EqAt.none_str b t
   |_=>exact absurd (f) br
 | bl a=>
   cases e;cases x with
   |non=>cases c;exact SeqAt.EqAt.bool_none a
   |bl b=>cases c;exact SeqAt.EqAt.bool_bool a b
   |int b=>obtain⟨t,rfl⟩:=c;exact SeqAt.EqAt.bool_int a b t
   |str b=>obtain⟨t,rfl⟩:=c;exact SeqAt.EqAt.bool_str a b t
   |_=>exact absurd (f) br
 | int a=>
   obtain⟨d,rfl⟩:=e;cases x with
   |non=>cases c;exact SeqAt.EqAt.int_none a d
   |bl b=>cases c;exact SeqAt.EqAt.int_bool a d b
   |int b=>obtain⟨t,rfl⟩:=c;exact SeqAt.EqAt.int_int a d b t
   |str b=>obtain⟨t,rfl⟩:=c;exact SeqAt.EqAt.int_str a d b t
   |_=>exact absurd (f) br
 | str a=>
   obtain⟨d,rfl⟩:=e;cases x with
   |non=>cases c;exact SeqAt.EqAt.str_none a d
   |bl b=>cases c;exact SeqAt.EqAt.str_bool a d b
   |int b=>obtain⟨t,rfl⟩:=c;exact SeqAt.EqAt.str_int a d b t
   |str b=>obtain⟨t,rfl⟩:=c;exact SeqAt.EqAt.str_str a d b t
   |_=>exact absurd (f) br
 |_=>exact absurd (g) br
noncomputable def fk(x:V)(u:Value):Bool:=match u with|.none=>jV .non x|.bool b=>jV (.bl b) x|.int i _=>jV (.int i) x|.str z _=>jV (.str z) x|_=>false
theorem wX{y:V}(r:ym y u)(f:Xe y=true):fk x u=jV y x:=by cases y with|non=>cases r;rfl|bl b=>cases r;rfl|int i=>obtain⟨t,rfl⟩:=r;rfl|str z=>obtain⟨t,rfl⟩:=r;rfl|_=>exact absurd (f) br
theorem Qc{x:V}:∀{xs:List V}{us:List Value},yn xs us->xs.all Xe=true->us.any (fk x)=xs.any λy=>jV y x|_,_,.nil,_=>rfl| y::xs,u::us,.cons r t,f=>by rw[List.all_cons,cg]at f;rw[List.any_cons,List.any_cons,wX r f.1,Qc t f.2]
theorem Y9{A:Around}{s:Shared}{x:V}{v:Value}(b:ym x v)(c:Xe x=true):∀{xs:List V}{us:List Value},yn xs us->xs.all Xe=true->∀u∈us,SeqAt.EqAt A s u v (fk x u)|_,_,.nil,_=>λu a=>by grind| y::xs,u::us,.cons r t,f=>λd a=>by rw[List.all_cons,cg]at f;rcases ag.mp a with rfl|a;rw[wX r f.1];exact DS r b f.1 c;exact Y9 b c t f.2 d a
noncomputable def ng(x:V)(xs:List V):Bool:=xs.any λy=>jV y x
inductive uG(K:W.Frag)(neg:Bool)(x y:V)(H:Hp)(Q:VK):Prop|mk:∀p xs,y=.ref p->(aG K H p xs\/aE K H p xs)->Xe x=true->xs.all Xe=true->Q (.bl (if neg then !ng x xs else ng x xs)) H->uG K neg x y H Q
theorem Z8:cI X (compareOp .In) (uG X.K false):=by intro f s m H x y v u Q I e i h;obtain⟨p,n,rfl,b,g,c,q⟩:=h;cases i;rcases b with b|b;obtain⟨a,r,d,j⟩:=I.list b;refine SeqAt.in_listAt (fk x) d.isList (λw l=>Y9 e g r c w (by simp_all)) ⟨.bl _,H,I,J,?_⟩;rw[show a.toArray.any (fk x)=a.any (fk x) by simp,Qc r c];exact q;obtain⟨a,r,d,j⟩:=I.tuple b;refine SeqAt.in_tupleAt (fk x) d (λw l=>Y9 e g r c w (by simp_all)) ⟨.bl _,H,I,J,?_⟩;rw[show a.toArray.any (fk x)=a.any (fk x) by simp,Qc r c];exact q
theorem Me:cI X (compareOp .NotIn) (uG X.K true):=by intro g s m H x y v u Q I f j h;obtain⟨p,n,rfl,b,i,c,q⟩:=h;cases j;rcases b with b|b;obtain⟨a,r,d,l⟩:=I.list b;refine SeqAt.notIn_listAt (fk x) d.isList (λw e=>Y9 f i r c w (by simpa using e)) ⟨.bl _,H,I,J,?_⟩;rw[show a.toArray.any (fk x)=a.any (fk x) by simp,Qc r c];exact q;obtain⟨a,r,d,l⟩:=I.tuple b;refine SeqAt.notIn_tupleAt (fk x) d (λw e=>Y9 f i r c w (by simpa using e)) ⟨.bl _,H,I,J,?_⟩;rw[show a.toArray.any (fk x)=a.any (fk x) by simp,Qc r c];exact q
theorem yg:jj X (.builtin "len") (λxs H Q=>∃p ys,xs=[.ref p]/\(aG X.K H p ys\/aE X.K H p ys)/\Q (.int ys.length) H):=by intro f s j H xs l Q I r h;obtain⟨p,ys,rfl,b,q⟩:=h;obtain⟨u,rfl,g⟩:=ql r;cases g;have hn:=Wk;rcases b with b|b;obtain⟨e,c,d,i⟩:=I.list b;have a:=c.length;exact Calls.call_len_list d.isList (by grind) ⟨.int ys.length,H,I.tok _,⟨s.toks+1,by rw[cz,a]⟩,q⟩;obtain⟨e,c,d,i⟩:=I.tuple b;have a:=c.length;exact len_tuple d (by grind) ⟨.int ys.length,H,I.tok _,⟨s.toks+1,by rw[cz,a]⟩,q⟩
theorem Yr:jj X (.builtin "len") (λxs H Q=>∃z,xs=[.str z]/\z.length<=sizeLine/\Q (.int z.length) H):=by intro a s b H xs c Q I r h;obtain⟨z,rfl,d,q⟩:=h;obtain⟨u,rfl,t,rfl⟩:=ql r;have hn:=Wk;exact len_str (by omega) ⟨.int z.length,H,I.tok _,⟨_,J⟩,q⟩
theorem LW:jj X (.type "list") (λxs H Q=>∃p ys,xs=[.ref p]/\(aG X.K H p ys\/aE X.K H p ys)/\∀l,H l=none->Q (.ref l) (upd H l (.lst ys))):=by
 intro g s A H xs D Q I r h;obtain⟨p,ys,rfl,m,q⟩:=h;obtain⟨u,rfl,C⟩:=ql r;cases C;have fin:∀(a:O Value),yn ys a->ys.length<=sizeLine->∀(c:Heap)(f:Nat),(∀b z,s.heap.get? b=some z->c.get? b=some z)->
   c.get? s.heap.objs.size=some {cls:=.type "list",dict:=none,data:=.seq a.toArray f,slots:=#[]}->EP X g A Q (.ref s.heap.objs.size) {s with heap:=c}:=λa d j c f i e=>⟨.ref s.heap.objs.size,_,I.laid i (ae _) (show va X.prog X.w _ c _ (.lst ys)from⟨j,a,f,d,e⟩),J,q _ (I.hok.fresh (ae _))⟩
 rcases m with m|m;obtain⟨a,d,v,j⟩:=I.list m;have t:=d.length;obtain⟨o,w,y,n,x⟩:=v.isList;exact call_list_seq p (.inl J) w y x (λc f i e=>fin a d j c f i e) (by simp_all);obtain⟨a,d,v,j⟩:=I.tuple m;have t:=d.length;obtain⟨o,w,y,n,x⟩:=v;exact call_list_seq p (.inr J) w y x (λc f i e=>fin a d j c f i e) (by simp_all)
theorem Z3:jj X (.type "tuple") (λxs H Q=>∃p ys,xs=[.ref p]/\((aG X.K H p ys/\∀l,H l=none->Q (.ref l) (upd H l (.tup ys)))\/(aE X.K H p ys/\Q (.ref p) H))):=by
 intro g s x H xs y Q I r h;obtain⟨p,ys,rfl,h⟩:=h;obtain⟨u,rfl,n⟩:=ql r;cases n;rcases h with⟨f,q⟩|⟨f,q⟩;obtain⟨a,c,d,i⟩:=I.list f;have j:=c.length;refine call_tuple_list d.isList (λv t=>?_) (by simp_all);have m:=I.kept (t':=s.toks) t;have w:=
  m.laid (t':=s.toks) (λb o e=>aj _ e) (ae _) (show va X.prog X.w _ _ _ (.tup ys)from⟨i,a,c,IsTup.new _ _,gp.push⟩)
 exact⟨.ref v.objs.size,_,w,J,q _ (m.hok.fresh (ae _))⟩;obtain⟨a,c,d,i⟩:=I.tuple f;exact call_tuple_same d ⟨.ref p,H,I,J,q⟩
def uE(K:W.Frag)(T:String)(x:V)(H:Hp):Prop:=match x with|.str _=>T="str"|.int _=>T="int"|.ref p=>(T="list"/\∃xs,aG K H p xs)\/(T="tuple"/\∃o,K.lookup p=some o/\o.cls=.type "tuple"/\o.dict=none)\/
  (T="dict"/\((∃kvs,H p=some (.dK kvs))\/∃kvs,H p=some (.dT kvs)))\/(T="set"/\∃S n,H p=some (.set S n))|_=>False
theorem yL{T:String}(I:Inv X pins σ H s)(r:ym x v)(d:uE X.K T x H):s.TypeIs v T/\∀a,v=.ref a->∃j,s.heap.get? a=some j/\j.dict=none:=by
 cases x with| str z=>
   obtain⟨t,rfl⟩:=r;cases(d);exact⟨typeIs_str s z t,λ_ e=>nomatch e⟩| int i=>
   obtain⟨t,rfl⟩:=r;cases(d);exact⟨typeIs_int s i t,λ_ e=>nomatch e⟩| ref p=>
   cases r;rcases d with⟨rfl,w,q⟩|⟨rfl,o,hk,u,l⟩|⟨rfl,hk⟩|⟨rfl,S,n,hk⟩;obtain⟨m,_,h,_⟩:=I.list q;refine⟨h.isList.typeIs,λa e=>?_⟩;cases e;obtain⟨o,n,e,c,l,_⟩:=h
   simp_all
   refine⟨⟨o,I.kIn p o hk,u⟩,λa e=>?_⟩;cases e;exact⟨o,I.kIn _ o hk,l⟩;have z:∃o,s.heap.get? p=some o/\o.ExactDict:=by
    rcases hk with⟨f,hk⟩|⟨f,hk⟩;obtain⟨_,_,_,_,o,_,_,e,b,_⟩:=I.hok p _ hk
    simp_all
    obtain⟨_,_,_,_,o,_,_,e,b,_⟩:=I.hok p _ hk
    simp_all
   obtain⟨o,e,b⟩:=z;refine⟨⟨o,e,b.1⟩,λa g=>?_⟩;cases g;exact⟨o,e,b.2.1⟩;obtain⟨o,_,_,_,e,b,_⟩:=I.hok p _ hk;refine⟨⟨o,e,b.1⟩,λa g=>?_⟩;cases g;exact⟨o,e,b.2.1⟩|_=>exact False.elim d
def CT(K:W.Frag)(T:String)(r:V->List V->Hp->VK->Prop)(to:TE):TE:=λσ H Q=>to σ H λx H1=>uE K T x H1/\r x [] H1 Q
def ML(K:W.Frag)(T:String)(r:V->List V->Hp->VK->Prop)(to:TE)(t:TA):TE:=λσ H Q=>to σ H λx H1=>uE K T x H1/\t σ H1 λxs H2=>r x xs H2 Q
variable{o:Expr}{to:TE}{t:TA}{name:Str}{apos cpos:Pos}{T id:String}{r:V->List V->Hp->VK->Prop}
theorem yD(n:PlainAttrs T)(d:Slot T name id)(e:typeOf (.builtin id)=pure (.type "method_descriptor"))(q:mF X id r)(p:PE X o to)(c:attributeBase o name X.env (eval o X.env)=eval o X.env:=by rfl) (b:(apos.endLine==cpos.line)=true:=by rfl):PE X (.Call (.Attribute o name apos) [] [] cpos) (CT X.K T r to):=by intro a s f H Q I h;refine wpAny_Call_method0_late c b (aF (p a s f H _ I h) λv l ⟨x,w,i,g,j,m⟩=>?_);obtain⟨u,t⟩:=yL i g j;exact⟨T,id,n,d,e,u,t,Calls.callWith_builtin J (PySem.evalArgs_none (q a l f w x [] v [] Q i g .nil m))⟩
theorem ja(D:PlainAttrs T)(d:Slot T name id)(j:typeOf (.builtin id)=pure (.type "method_descriptor"))(F:mF X id r)(E:PE X o to)(G:PA X (e::es) t)(c:attributeBase o name X.env (eval o X.env)=eval o X.env:=by rfl)
  (f:((backTo cpos (starEach (e::es) X.env)).all (λx=> !x.1) && (backToKw cpos (keywordEach [] X.env)).all (λx=>x.1.isSome) && decide ((e::es).length+([]:O Keyword).length+(if([]:O Keyword).isEmpty then 0 else 1)<30))=true:=by rfl)
  (b:(apos.endLine==cpos.line)=true:=by rfl) (hs:starEach (e::es) X.env=(false,eval e X.env)::starEach es X.env:=by rfl) (g:(backTo cpos (starEach es X.env)).any (·.1)=false:=by rfl):
  PE X (.Call (.Attribute o name apos) (e::es) [] cpos) (ML X.K T r to t):=by intro a s i H Q I h;refine wpAny_Call_method_late c f b J (aF (E a s i H _ I h) λv y ⟨x,P,n,l,u,C⟩=>?_);obtain⟨L,K⟩:=yL n l u;refine⟨T,id,D,d,j,L,K,?_⟩;have m:=G cpos a y i P _ n C;rw[hs]at m⊢;refine Calls.callWith_builtin (by simp_all) (Calls.evalArgs_plain ?_);exact aF m λq w ⟨p,N,M,z,A⟩=>F a w i N x p v q Q M l z A
/-xs.append(e),list.index on a module's tuple .. are MtR facts of 06m -/
end
def vC(X:Cx)(id:String)(r:V->List V->Hp->VK->Prop):Prop:=
 ∀ (pins:List (Addr×Obj)) (s:Shared) (σ:St) (H:Hp) (x:V) (xs:List V) (v:Value) (us:List Value) (Q:VK),Inv X pins σ H s->ym x v->yn xs us->r x xs H Q->
   wpAny (model X.prog X.w) X.A (call (.builtin id) (v::us)) (EP X pins σ Q) X.xe s
theorem yn.one:∀{x:V}{us:List Value},yn [x] us->∃u,us=[u]/\ym x u|_,_,.cons r .nil=>⟨_,J,r⟩
theorem yn.zero:∀{us:List Value},yn [] us->us=[]|_,.nil=>rfl
theorem yn.dropLast{xs:List V}{us:List Value}(h:yn xs us):yn xs.dropLast us.dropLast:=by induction h with|nil=>exact .nil| cons r t a=>cases t with|nil=>grind|cons q b=>exact .cons r a
theorem yn.rep{xs:List V}{us:List Value}(h:yn xs us):∀k:Nat,yn (List.replicate k xs).flatten (List.replicate k us).flatten|0=>.nil| k+1=>by rw[List.replicate_succ,List.replicate_succ,List.flatten_cons,List.flatten_cons];exact yn.append h (yn.rep h k)
theorem La{a:Type}(l:O a):l.eraseIdx (l.length-1)=l.dropLast:=by simp
theorem BB(its:List Value):∀(k:Nat)(a:List Value),List.foldl (λc b=>c++b) a.toArray (List.replicate k its.toArray)=(a++(List.replicate k its).flatten).toArray
 |0,a=>by simp
 | k+1,a=>by
   have e:a.toArray++its.toArray=(a++its).toArray:=by simp
   have d:(a++its)++(List.replicate k its).flatten=a++(List.replicate (k+1) its).flatten:=by rw[List.replicate_succ,List.flatten_cons,List.append_assoc]
   rw[<-d,<-BB its k (a++its),<-e,List.replicate_succ,List.foldl_cons]
section
variable{l b:Addr}{zs:List V}
theorem Inv.lset{n:Nat}{f:Array Value->Array Value}(I:Inv X pins σ H s)(g:H l=some (.lst xs))(e:s.heap.get? l=some {cls:=.type "list",data:=.seq its.toArray n}) (c:f its.toArray=dJ.toArray) (a:yn ys dJ) (hz:ys.length<=sizeLine):
  Inv X pins σ (upd H l (.lst ys)) {s with heap:=s.heap.update l (Obj.mapSeq f),toks:=t'}:=by have q:=PySem.IsL.update e f;rw[c]at q;refine I.write (by rw[g];exact trivial) (.inl J) (λh u d b=>(Heap.get?_update_other s.heap (Obj.mapSeq f) (ai d)).trans b) ⟨_,q⟩ ?_;exact⟨hz,dJ,_,a,q⟩
theorem Inv.lnew(I:Inv X pins σ H s)(a:yn ys its)(hz:ys.length<=sizeLine):Inv X pins σ (upd H s.heap.objs.size (.lst ys)) {s with heap:=s.heap.push {cls:=.type "list",data:=.seq its.toArray},toks:=t'}:=
 I.laid (λ_ _ q=>aj _ q) (ae _) ⟨hz,its,0,a,bf _ J⟩
theorem Inv.fresh(I:Inv X pins σ H s):H s.heap.objs.size=none:=I.hok.fresh (ae _)
theorem Inv.lstM(I:Inv X pins σ H s)(a:H l=some (.lst xs)):xs.length<=sizeLine/\∃(its:O Value)(n:Nat),yn xs its/\xs.length=its.length/\s.heap.get? l=some {cls:=.type "list",data:=.seq its.toArray n}:=by obtain⟨z,its,n,r,e⟩:=I.hok l _ a;exact⟨z,its,n,r,r.length,e⟩
theorem A6{n:Nat}(h:n<=sizeLine):Builtin.List.listTooLong n=false:=by
 unfold Builtin.List.listTooLong
 simp_all
end
section
inductive fI(x:V)(vs:List V)(H:Hp)(Q:VK):Prop|mk:∀l xs y,x=.ref l->vs=[y]->H l=some (.lst xs)->xs.length<sizeLine->Q .non (upd H l (.lst (xs++[y])))->fI x vs H Q
theorem qf:vC X "list.append" fI:=by
 intro b s i H x m v o Q I d f h;obtain⟨l,j,y,rfl,rfl,c,p,q⟩:=h;cases d;obtain⟨u,rfl,g⟩:=f.one;obtain⟨z,a,n,r,t,e⟩:=I.lstM c;refine call_meets F.slot_list_append ⟨_,e,J⟩ F.entry_list_append (F.args_list_append_2 _ _) (list_append l a.toArray n u (by simp_all)) ⟨e,?_⟩;refine⟨.non,_,I.lset c e (by simp) (r.append (.cons g .nil)) ?_,J,q⟩
 grind
inductive fH(x:V)(vs:List V)(H:Hp)(Q:VK):Prop|mk:∀l b xs zs,x=.ref l->vs=[.ref b]->H l=some (.lst xs)->H b=some (.lst zs)->xs.length+zs.length<=sizeLine->Q .non (upd H l (.lst (xs++zs)))->fH x vs H Q
theorem Xq:vC X "list.extend" fH:=by
 intro g s C H x K v L Q I j m h;obtain⟨l,b,G,D,rfl,rfl,i,y,M,q⟩:=h;cases j;obtain⟨u,rfl,o⟩:=m.one;cases o;obtain⟨z,c,n,r,N,e⟩:=I.lstM i;obtain⟨E,a,t,p,w,A⟩:=I.lstM y;have f:c.toArray.size+a.toArray.size<=sizeLine:=by simp_all
 have d:¬(!c.toArray.isEmpty && Builtin.List.listTooLong (c.toArray.size+a.toArray.size))=true:=by rw[A6 f,Bool.and_false];simp
 refine call_meets F.slot_list_extend ⟨_,e,J⟩ F.entry_list_extend (F.args_list_extend_2 _ _)
  (AutoSeq1.list_extend_list_list_0 l c.toArray n b a.toArray t d (by omega) (by omega)) ⟨e,A,?_⟩
 refine⟨.non,_,I.lset i e (by simp) (r.append p) ?_,J,q⟩
 simp_all
inductive oy(x:V)(vs:List V)(H:Hp)(Q:VK):Prop|mk:∀l xs y,x=.ref l->vs=[]->H l=some (.lst xs)->xs[xs.length-1]?=some y->Q y (upd H l (.lst xs.dropLast))->oy x vs H Q
theorem Eb:vC X "list.pop" oy:=by
 intro d s o H x t v w Q I g i h;obtain⟨l,p,y,rfl,rfl,f,m,q⟩:=h;cases g;have c:=i.zero;subst c;obtain⟨z,a,n,r,C,e⟩:=I.lstM f;obtain⟨u,A,j⟩:=r.get m;have b:a.toArray[a.toArray.size-1]?=some u:=by simp_all
 refine call_meets F.slot_list_pop ⟨_,e,J⟩ F.entry_list_pop (F.args_list_pop_1 _) (MeetsSeq.list_pop_last l a.toArray n u b (by simp_all)) ⟨e,?_⟩;refine⟨y,_,I.lset f e ?_ r.dropLast ?_,j,q⟩;rw[cz,List.eraseIdxIfInBounds_toArray,La]
 grind
inductive oH(x y:V)(H:Hp)(Q:VK):Prop|mk:∀l b xs zs,x=.ref l->y=.ref b->H l=some (.lst xs)->H b=some (.lst zs)->xs.length+zs.length<=sizeLine->(∀p,H p=none->Q (.ref p) (upd H p (.lst (xs++zs))))->oH x y H Q
theorem tu:cI X (binaryOp .Add) oH:=by
 intro d s w H x y v u Q I g f h;obtain⟨l,b,D,A,rfl,rfl,m,o,F,q⟩:=h;cases g;cases f;obtain⟨z,c,n,r,G,e⟩:=I.lstM m;obtain⟨C,a,E,i,j,t⟩:=I.lstM o;refine P.add_list e t ?_ (by simp_all);have p:c.toArray++a.toArray=(c++a).toArray:=by simp
 rw[p];exact⟨.ref _,_,I.lnew (r.append i) (by simp_all),J,q _ I.fresh⟩
inductive ox(x y:V)(H:Hp)(Q:VK):Prop|mk:∀l k xs,x=.ref l->y=.int k->H l=some (.lst xs)-> -(2^63)<=k->k<2^63->xs.length*k.toNat<=sizeLine->(∀p,H p=none->Q (.ref p) (upd H p (.lst (List.replicate k.toNat xs).flatten)))->ox x y H Q
theorem FK{a:Type}(xs:O a)(k:Nat):(List.replicate k xs).flatten.length=k*xs.length:=by simp
theorem yC:cI X (binaryOp .Mult) ox:=by
 intro j s L H x y v u Q I C A h;obtain⟨l,k,M,rfl,rfl,D,G,E,P,q⟩:=h;cases C;obtain⟨t,rfl⟩:=A;obtain⟨z,b,n,r,R,e⟩:=I.lstM D;have f:b.toArray.size*k.toNat<=sizeLine:=by simp_all
 have i:¬b.toArray.size*k.toNat>(2^63-1)/8:=by
  have:sizeLine<=(2^63-1)/8:=by decide
  omega
 have g:¬(!Builtin.List.listFitsIndex k)=true:=by rw[fitsIndex_both G E];simp
 have c:¬Builtin.List.listTooLong (b.toArray.size*k.toNat)=true:=by rw[A6 f];simp
 have d:List.foldl (λp o=>p++o) #[] (List.replicate (if b.toArray.isEmpty=true then 0 else k.toNat) b.toArray)=(List.replicate k.toNat b).flatten.toArray:=by
  have K:=λm=>by have:=BB b m [];rw[List.nil_append]at this;exact this
  rw[K];cases b with|nil=>simp|cons a N=>rfl
 refine wpAny_binaryOp_repeat_ref (by rfl) ⟨_,e,J⟩ (λw=>typeIs_int w k t) noFill_list_mul F.fills_int_mul F.slot_int_rmul repeat_list F.slot_int_index.lookup
  (call_meets F.slot_int_rmul (typeIs_int s k t) F.entry_int_rmul (F.args_int_rmul_2 _ _) (int___rmul___int_list k t l b.toArray n) ⟨e,J,⟨_,e,J⟩,call_meets F.slot_list_mul ⟨_,e,J⟩ F.entry_list_mul (F.args_list_mul_2 _ _) (AutoListH.list___mul___list_int_3 l b.toArray n k t g i c) ⟨e,?_⟩⟩)
 rw[d];exact⟨.ref _,_,I.lnew (r.rep k.toNat) (by rw[FK,Nat.mul_comm];omega),J,q _ I.fresh⟩
end
section
variable{prog:Program}{w:World}
set_option maxRecDepth 100000 in
end
section
end
end L2
namespace Att
open PySem PySem.W PySem.Calls PyProof.Rows
variable{A:Around}{h:Heap}{q:Program}{s:Shared}{E:Value->Shared->Prop}
theorem Jn{P:Params}:∀(ns:List Int)(vs:List Value),WellAll P h vs (ns.map WData.int)->IntsAre vs ns:=by intro ns;induction ns with| nil=>intro vs w;rw[List.map_nil]at w;cases w;exact .nil| cons n ns c=>intro vs w;rw[c4]at w;cases w with| cons a b=>cases a;exact .cons _ _ (c _ b)
theorem fV{l:OpenLaw}{n:Nat}(x:l.most=some n){P:Params}{b:List WData}{c:List Value}(e:l.row.toRowW.claim.pre b=true) (i:WellAll P h c b):
  ∃a vs ns,c=[Value.ref a]/\b=[WData.list (ns.map WData.int)]/\h.get? a=some {cls:=.type "list",data:=.seq vs.toArray}/\IntsAre vs ns/\ns.length<=n:=by
 have j:=(pre_splitW e).1;have m:l.pre.holds [] {args:=b}=true:=(pre_splitW e).2;obtain⟨d,r,rfl,v,u⟩:=hasAllW_cons j;obtain rfl:=hasAllW_nil u;obtain⟨w,rfl,t⟩:=hasW_list v;obtain⟨ns,rfl⟩:=items_int t;have f:ns.length<=n:=by
  unfold OpenLaw.pre at m;have o:(WTm.not (.lt (.lit (.int n)) (.len (.arg 0)))).holds [] {args:=[.list (ns.map .int)]}=true:=by
   have o:=(holds_andW m).1
   simp_all
  have y:=condW_of o (w_not (w_lt w_lit (w_len_list (w_arg J))))
  simp_all
 cases i with| cons q p=>cases p;cases q with|list s g=>exact⟨_,_,ns,J,J,s,Jn ns _ g,f⟩
theorem IQ(l:OpenLaw)(a:O WData):l.row.toRowW.claim.post a (.bool true) a=true:=
 postW_of
  (show WShape.has [] (.bool true) .bool=true by rfl)
  (w_eq_bool (w_res J) w_lit) J
theorem lh{l:OpenLaw}{n:Nat}{e:O Str}{H:(Str->Option I)->Heap->Prop}{F:World->Heap->Prop}{d:DefRec}(N:l.most=some n) (y:d.params.defaults=[])
  (call:∀(w:World) (c b:Shared) (mg u:Str->Option I) (p:Addr) (o:Obj) (t s h:I) (a:Addr) (vs:O I) (ns:O Int),Ground q e [] H w c mg u b.heap->F w b.heap->
   b.heap.get? p=some o->o.data=.func (docDef d.name d.params d.body d.scope t s h)->b.heap.CodeRec s d.name->mg d.name=some (.ref p)->
   b.heap.get? a=some {cls:=.type "list",data:=.seq vs.toArray}->IntsAre vs ns->ns.length<=n->b.gens=#[]->
   codeAny (model l.prog w) callerA (.call (.ref p) ⟨[.ref a],[]⟩) (λr s'=>r=.ok (.ret (.bool true))/\OldK b.heap s'.heap/\s'.os=b.os/\AllBare s'.gens) b):
  WalkO q e H F l.row.toRowW d [] (λf vs=>PySem.call f vs):=by intro w c b mg u G Y p o t s h Z kV M S z D x R E A as i C K v Q;obtain rfl:Z=.none:=Dflts.none D y;obtain rfl:kV=.none:=Dflts.noKw D;obtain⟨a,vs,ns,rfl,rfl,j,g,m⟩:=fV N i v;refine enter_call (codeAny_mono (call w c b mg u p o t s h a vs ns G Y M (fd_plain S) z x j g m R) λr s' L=>?_);obtain⟨rfl,X,W,U⟩:=L;exact⟨.inl ⟨.bool true,.bool true,[],J,λ_=>rfl,.bool true,IQ l _,λ_=>⟨List.Pairwise.nil,λ_ P=>(nomatch P)⟩⟩,X,W,U⟩
section
variable{prog:Program}{w:World}{K:Frag}
end
end Att
namespace L2
open PySem PySem.Spec PyProof.Rows
variable{a c f it:Addr}{A:Around}{osl sl:Array (Option Value)}{its:Array Value}{X:Cx}{D:Ends}{env:Env}{tg:Expr}{fd:FuncData}{h':Heap}{H H' H2:Hp}{lo:Int}{pins cL:List (Addr×Obj)}{fp:List Addr}{cZ fY:List Expr}{ns:List Int}{cap:List Nat}{own ps:List Str}{xs:List V}{us vs:List Value}{i:Nat}{v:Option Value}{aD:Pos}{P prog q:Program}{R:Result->Shared->Prop}{scope:Scope}{s s':Shared}{sp:Sp}{σ σ':St}{st:Stmt}{qual x:Str}{mb mg:Str->Option Value}{ta:TA}{te:TE}{g:TG}{tb:TS}{tc:TT}{cM:Value}{E Ex Q:Value->Shared->Prop}{w:World}
theorem BJ:∀{vs:List Value}{ns:List Int},IntsAre vs ns->yn (ns.map V.int) vs|_,_,.nil=>.nil|_,_,.cons n t h=>.cons ⟨t,J⟩ (BJ h)
def rB(H:Hp):Prop:=∀b,H b=none\/∃o xs,H b=some (.frz o (.lst xs))
theorem Gs {K:W.Frag} {CX:iM} {k:Nat} {S:Addr} {c:Shared}(KX:K.In c.heap) (y:c.heap.Ns mainGlobals mg) (l:c.heap.Ns builtinsNs mb) (N:∀x:Str,x≠"__name__"->mb x=bootBuiltins x) (A:c.heap.NoLimit) (hg:c.gens=#[])
  (Q:c.heap.get? a=some {cls:=.type "list",data:=.seq vs.toArray}) (Z:IntsAre vs ns) (hl:ns.length<=sizeLine) (hr:aQ k callerA)
  (F:∀base:Heap,K.In base->base.Ns mainGlobals mg->cF P w K mg base CX k S fd [x] sp) (j:∀(s:Shared)(u:Value),BindsTo s fd ⟨[u],[]⟩ [(x,u)])
  (M:∀H:Hp,rB H->aG K H a (ns.map V.int)->sp [.ref a] H (λv _=>v=.bl true) λ_ _ _=>False)
  (R:∀H e s',CX [] H c (λ_ _ _=>False) e s'->False):
  codeAny (model P w) callerA (.call (.ref S) ⟨[.ref a],[]⟩) (λr s'=>r=.ok (.ret (.bool true))/\OldK c.heap s'.heap/\s'.os=c.os/\AllBare s'.gens) c:=by
 have rv:=BJ Z;have X:=Z.length;have i:∀H:Hp,rB H->aG K H a (ns.map V.int)->bZ P w H c.heap->(∀b,H b≠none->b=a)->(H a≠none->K.lookup a=none)->
   codeAny (model P w) callerA (.call (.ref S) ⟨[.ref a],[]⟩) (λr s'=>r=.ok (.ret (.bool true))/\OldK c.heap s'.heap/\s'.os=c.os/\AllBare s'.gens) c:=by
  intro H hO hS t hA hK;have f:∀{b:Addr}{o:Obj},c.heap.get? b=some o->H b=none->(jZ c.heap H).get? b=some o:=λe n=>Go e n;have L:∀{b:Addr}{o:Obj}{E:Array DictEntry}{G:Nat},c.heap.get? b=some o->o.data=.dict E G->H b=none:=λ{b o E G} e d=>by grind
  have g:∀{b:Addr}{m:Str->Option Value},c.heap.Ns b m->(jZ c.heap H).Ns b m:=λ{b m} ⟨o,E,G,e,d,r⟩=>⟨o,E,G,f e (L e d),d,r⟩
  have C:=λb o e=>f (KX b o e) (by grind)
  have hM:Mod K mg (jZ c.heap H):=⟨C,g y,⟨mb,g l,N⟩,let⟨mc,h1,h2⟩:=A;⟨mc,g h1,h2⟩⟩
  have e0:fw P w K mg (jZ c.heap H) callerA [] c H:=⟨J,hM,λb o e=>Fi e,Nat.le_of_eq (Io _ _),trivial,λb l=>absurd (show b∈[]from l) (by simp),t,.of_eq hg⟩
  refine codeAny_mono ((F _ C (g y)).run callerA [] c H ⟨[.ref a],[]⟩ [.ref a] [.ref a] _ _ hr e0 (j c (.ref a)) (.cons J .nil) (M H hO hS)) λr s' h=>?_;cases r with|error e=>exact(R H e s' h).elim| ok fl=>
    cases fl with|next=>exact False.elim h|brk=>exact False.elim h|cont=>exact False.elim h| ret u=>
      obtain⟨v,H',os,D,U,p,r',q⟩:=h;have q':=q;subst q';obtain rfl:u=Value.bool true:=r';refine⟨J,OldK.of_keep λb o e=>?_,os,D⟩;cases q:H b with|none=>exact U.keep b o e q (by intro z;exact absurd (show b∈[]from z) (by simp)) (by simp)| some u=>
        rcases hO b with z|⟨ob,xs,z⟩
        simp_all
        have z2:=U.frzs b ob _ z;obtain⟨e1,_⟩:=t b _ z;obtain⟨e2,_⟩:=p b _ z2
        simp_all
 cases hk:K.lookup a with| some o=>
   have e:=KX a o hk;rw[Q]at e;cases e;refine i (λ_=>none) (λ_=>.inl J) (.inr ⟨_,vs.toArray,_,hk,J,J,J,by simp_all,by omega⟩) (λb u z=>by simp_all) (λb z=>absurd J z) λz=>absurd J z| none=>
   refine i (λb=>if b=a then some (.frz {cls:=.type "list",data:=.seq vs.toArray} (.lst (ns.map V.int)))else none) (λb=>?_) (.inl (.inr ⟨{cls:=.type "list",data:=.seq vs.toArray},if_pos J⟩)) (λb u z=>?_) (λb z=>?_) λ_=>hk
   grind
   by_cases l:b=a;have z':=(if_pos l).symm.trans z;cases z';subst l;exact⟨Q,by simp_all,vs,_,rv,Q⟩
   simp_all
   simp_all
theorem qN{l:W.OpenLaw}{n k:Nat}{c:O Str}{Z:(Str->Option I)->Heap->Prop}{D:World->Heap->Prop}{d:DefRec}{K:Params->W.Frag}{CX:World->iM}{sp:World->Sp}(M:l.most=some n) (t:n<=sizeLine) (z:d.params.defaults=[]) (L:aQ k callerA)
  (R:∀(w:World)(h:Heap),D w h->(K w.params).In h)
  (F :∀(w:World) (mg:Str->Option I) (m:Addr) (h:Heap),(K w.params).In h->h.Ns mainGlobals mg->mg d.name=some (.ref m)-> ∃ fd:FuncData,(∀(s:Shared) (u:I),BindsTo s fd ⟨[u],[]⟩ [(x,u)])/\
     ∀base:Heap,(K w.params).In base->base.Ns mainGlobals mg->cF l.prog w (K w.params) mg base (CX w) k m fd [x] (sp w))
  (r:∀(w:World)(H:Hp)(a:Addr)(ns:O Int),ns.length<=n->rB H->aG (K w.params) H a (ns.map V.int)->sp w [.ref a] H (λv _=>v=.bl true) λ_ _ _=>False)
  (A:∀(w:World)(H:Hp)(s:Shared)(e:I)(p:Shared),CX w [] H s (λ_ _ _=>False) e p->False):
  W.WalkO q c Z D l.row.toRowW d [] (λf vs=>PySem.call f vs):=by refine Att.lh M z λw C i mg mb m o pm cd X a vs ns G Y ho hd P y j g b N=>?_;have E:=R w _ Y;obtain⟨fd,Q,hF⟩:=F w mg m _ E G.T.g y;exact Gs E G.T.g G.T.b G.T.builtins G.T.nolimit N j g (c9 b t) L hF Q (λH U S=>r w H a ns b U S) λH e p=>A w H i e p
noncomputable def jd(s:Stmt):Arguments:=match s with|.FunctionDef _ a _ _ _ _ _ _ _ _=>a|_=>{posonlyargs:=[],args:=[],vararg:=none,kwonlyargs:=[],kw_defaults:=[],kwarg:=none,defaults:=[]}
noncomputable def wr(s:Stmt):List Stmt:=match s with|.FunctionDef _ _ b _ _ _ _ _ _ _=>b|_=>[]
noncomputable def zf(s:Stmt):Scope:=match s with|.FunctionDef _ _ _ _ _ _ sc _ _ _=>sc|_=>{kind:=.function,names:=[],isGenerator:=false,isCoroutine:=false}
abbrev fR:iM:=λ_ _ _ _ _ _=>False
abbrev E0:XK:=λ_ _ _=>False
theorem nO:Xl fR X E0:=λ_ _ _ _ _ _ _ h=>h.elim
structure iK(K:W.Frag)(x qual:Str)(st:Stmt)(f:Addr)(fd:FuncData):Prop where
 ex:∃(oc:Value)(od:Option Addr)(kV doc pm:Value)(an:Option Addr)(cdv ct:Value)(osl:Array (Option Value)),fd=W.fnOf x qual (jd st) (wr st) (zf st) .none kV doc pm an cdv ct/\K.lookup f=some ⟨oc,od,.func fd,osl⟩/\W.codeIn K cdv qual=true
 kp:W.keepIn K (.ref f)=true
section
variable{K:W.Frag}{base:Heap}
theorem iK.ok{N:O Str}{k:Nat}(F:iK K x qual st f fd)(S:aA N ps (zf st))(b:∀vs H Q E,sp vs H Q E->vs.length=ps.length)(a:∀(cdv:I) (A:Around) (outer:O Env) (s:Shared) (H:Hp) (vs:O V) (Q:VK) (E:XK),aQ k (A.deeper (envOfC qual (zf st) s.heap.objs.size f cdv))->sp vs H Q E-> ∃t,eG (iQ fR P w K mg base N qual (zf st) f cdv A outer s H E).nox (wr st) t/\t (.of Q) (start N vs) H):cF P w K mg base fR (k+1) f fd ps sp:=by obtain⟨n,m,kV,j,l,p,cdv,o,e,rfl,g,d⟩:=F.ex;refine C4 g d S b λA outer s H vs Q E i c=>?_;obtain⟨t,h,q⟩:=a cdv A outer s H vs Q E i c;exact⟨t,h.nox,q⟩
theorem iK.binds(F:iK K x qual st f fd)(h:∀(kV a b:I)(d:Option Y)(cdv c:I)(us:O I),us.length=ps.length->bindArgs (W.fnOf x qual (jd st) (wr st) (zf st) .none kV a b d cdv c) ⟨us,[]⟩=pure (ps.zip us)):Yc K fd ps []:=by obtain⟨j,i,kV,a,b,d,cdv,c,e,rfl,l,g⟩:=F.ex;exact .all (h kV a b d cdv c)
theorem sR{h:I}{g e:Option Y}{kV a b cdv d:I}(l:K.lookup f=some ⟨h,g,.func (W.fnOf x qual (jd st) (wr st) (zf st) .none kV a b e cdv d),osl⟩)(c:W.codeIn K cdv qual=true) (k:W.keepIn K (.ref f)=true):iK K x qual st f (W.fnOf x qual (jd st) (wr st) (zf st) .none kV a b e cdv d):=⟨⟨h,g,kV,a,b,e,cdv,d,osl,J,l,c⟩,k⟩
end
theorem ji{k:Nat}(a:aQ k A):A.units+1<cLine:=ef (fh (by decide) _) a.units
theorem xy{n:Nat}(h:n<=1000):n<sizeLine:=ef h (by decide)
section
theorem pv(i:Nat)(d:X.N[i]?=some x:=by rfl)(b:autoParam (nz X.env.scope x) Cm._auto_1)(c:(x==("__debug__":Str))=false:=by decide)
 (a:(x==("__classdict__":Str))=false:=by decide):PE X (.Name x aD) (jA i):=En d b c a
end
theorem yi{A B:Prop}(h:B):if false=true then A else B:=by simp_all
theorem wf{A B:Prop}(h:A):if true=true then A else B:=by simp_all
theorem jw{c A B:Prop}[Decidable c](b:c->A)(a:¬c->B):if c then A else B:=by simp_all
def Same(H G:Hp):Prop:=∀b o,H b=some o->G b=some o
theorem Same.refl(H:Hp):Same H H:=λ_ _ h=>h
theorem Same.trans{d:Hp}(a:Same H d)(b:Same d H2):Same H H2:=λc o h=>b c o (a c o h)
theorem Same.seq{K:W.Frag}(e:Same H H')(h:aG K H a xs):aG K H' a xs:=by rcases h with(h|⟨o,h⟩)|h;exact .inl (.inl (e _ _ h));exact .inl (.inr ⟨o,e _ _ h⟩);exact .inr h
section
variable{κ:Type}[DecidableEq κ]
theorem Wy{kvs:O (κ×V)}{k:κ}{v:V}(h:yq kvs k=some v):k∈kvs.map (·.1):=by
 have q:(kvs.any λa=>decide (a.1=k))=true:=by rw[Zh,h];rfl
 simp_all
end
section
theorem LX{D a F:Expr}{z u:Value}(I:Nat->Shared->Prop)(C:∀e s',Ex e s'->notedBy (model prog w) A env (λx y=>R (.error x) y) e s')(o:∀n s,I n s->wpAny (model prog w) A (pyNext z) (λr b=>match r with
   |none=>R (.ok .next) b
   | some v=>wpAny (model prog w) A (letOwnedTupleGo a z v) (λ_ s₂=>wpAny (model prog w) A (assign a env v) (λ_ s₂=> wpAny (model prog w) A (forIn fY true λc r=>if r=true then do let ok<-isTrue c env (eval c env);pure (ForInStep.yield ok)else pure (ForInStep.yield r)) (λok f=> if ok=true then wpAny (model prog w) A (eval D env) (λx j=>wpAny (model prog w) A (call (.builtin "list.append") [u,x]) (λ_ i=>∃m,m<n/\I m i) (λ_ _=>False) j) Ex f
     else∃m,m<n/\I m f) (λ_ _=>False) s₂) (λ_ _=>False) s₂) (λ_ _=>False) b) (λ_ _=>False) s)
  (n:Nat) (h:I n s):
  codeAny (model prog w) A (.compLoop (.ListComp D [⟨a,F,fY,0⟩] scope aD) 0 z u env) R s:=by
 refine codeAny_loop J I (λn s E=>?_) n h;refine wpAny_noted ?_;rw[compTurn_list];refine a4 (wpAny_standAt (a4 (dc (o n s E) (λr b d=>?_) λ_ _ g=>g.elim)));cases r with
 |none=>exact a9 d
 | some v=>
   refine a4 (dc d (λ_ b d=>?_) λ_ _ g=>g.elim);refine a4 (dc d (λ_ s₂ t=>a4 (dc t (λok f l=>?_) λ_ _ g=>g.elim)) λ_ _ g=>g.elim);cases ok with
   |false=>exact a9 ⟨J,l⟩
   | true=>exact a4 (a4 (dc l (λx j q=>a4 (dc q (λ_ i p=>a9 (a9 ⟨J,p⟩)) λ_ _ g=>g.elim)) C))
end
noncomputable def eF(G:Env):List (Str×NameKind)->List (Str×Addr)->List (Str×Addr)|[],cs=>cs|(n,k)::r,cs=>if k==.free then eF G r ((n,(G.cells.lookup n).getD 0)::cs)else eF G r cs
theorem Xi(j:∀x∈scope.names,x.2=.free->∃c,env.cells.lookup x.1=some c):closureFor scope env=pure (eF env scope.names []):=by
 have go:∀(l:O (Str×NameKind))(b:O (Str×Y)),(∀x∈l,x.2=.free->∃c,env.cells.lookup x.1=some c)->
   (forIn (m:=Sem) l b λx r=>(if(x.2==NameKind.free)=true then do let a<-cellOf env x.1;pure (ForInStep.yield ((x.1,a)::r))else pure (ForInStep.yield r)))=pure (eF env l b):=by
  intro l;induction l with|nil=>intro b _;rfl| cons p r f=>
    obtain⟨n,k⟩:=p;intro b h;have g:=λx i=>h x (bq _ i);rw[List.forIn_cons];by_cases hk:k=.free;subst hk;obtain⟨c,m⟩:=h (n,.free) bp J;have e:cellOf env n=pure c:=by unfold cellOf;rw[m]
    rw[if_pos (by rfl),e,pure_bind,pure_bind];dsimp only;rw[f _ g];show _=pure (if(NameKind.free==.free)=true then eF env r ((n,(env.cells.lookup n).getD 0)::b)else eF env r b)
    simp_all
    have d:(k==NameKind.free)=false:=by simp_all
    rw[d,if_neg br,pure_bind];dsimp only;rw[f _ g];show _=pure (if(k==.free)=true then eF env r ((n,(env.cells.lookup n).getD 0)::b)else eF env r b);rw[d,if_neg br]
 have e:=go scope.names [] j;unfold closureFor
 simp_all
theorem Wr{a:Env}{x:Str}{c:Addr}:∀{l:List (Str×NameKind)}{b:List (Str×Addr)},(∀x∈l,x.2=.free->∃c,a.cells.lookup x.1=some c)->(eF a l b).lookup x=some c->b.lookup x=some c\/a.cells.lookup x=some c
 |[],b,_,h=>.inl h
 | (n,k)::r,b,e,h=>by
   have d:=λx f=>e x (bq _ f);unfold eF at h;split at h
   rename_i hk
   obtain⟨i,g⟩:=e (n,k) bp (by simp_all);rcases Wr d h with q|q
   grind
   simp_all
   exact Wr d h
theorem V9{b:Env}{x:Str}:∀{l:List (Str×NameKind)}{a:List (Str×Addr)},(x,NameKind.free)∈l\/(∃c,a.lookup x=some c)->∃c,(eF b l a).lookup x=some c
 | [],a,h=>by rcases h with h|h;cases h;exact h
 | (n,k)::r,a,h=>by
   unfold eF;split
   rename_i hk
   have hk:k=.free:=by simp_all
   subst hk;refine V9 ?_;rcases h with h|⟨c,h⟩;rcases ag.mp h with h|h
   simp_all
   simp_all
   grind
   rename_i hk
   refine V9 ?_
   grind
theorem Vk(a:∀y∈scope.names,y.2≠ .cell)(h:(relabel scope env).names.lookup x=some .cell\/(relabel scope env).names.lookup x=some .free):(x,NameKind.free)∈scope.names:=by
 have go:∀(l:O (Str×NameKind)),(∀y∈l,y.2≠ .cell)->∀k,(k=NameKind.cell\/k=.free)->
   (l.map λ(n,k)=>if(k==NameKind.free && env.scope.kind==.function && env.kindOf n==some .cell)then(n,NameKind.cell)else(n,k)).lookup x=some k->(x,NameKind.free)∈l:=by intro l;induction l with|nil=>simp| cons p r b=>grind
 rcases h with h|h;exact go scope.names a _ (.inl J) h;exact go scope.names a _ (.inr J) h
abbrev iV(us:List Value):Obj:={cls:=.type "list",data:=.seq us.toArray us.length}
theorem Iy(us:O I)(u:I):({cls:=.type "list",data:=.seq (us.toArray.push u) (us.length+1)}:Obj)=iV (us++[u]):=by simp
noncomputable def bQ(k:Nat)(cap:List Nat)(G:St):St:=List.replicate k none++cap.map λj=>(G[j]?).getD none
noncomputable def ln(own:List Str)(cap:List Nat)(N:List Str):List Str:=own++cap.map λj=>(N[j]?).getD Str.empty
noncomputable def qh(X:Cx)(own:List Str)(cap:List Nat)(G:Scope)(C:Addr)(fp:List Addr)(U:Shared)(Z:Hp):Cx:={X with N:=ln own cap X.N,s₀:=U,H₀:=Z,env:=compEnvC G (eF X.env G.names []) C X.env,outer:=X.stack,ex:=fp,fn:=λ_=>false,pn:=[],xe:=λ_ _=>False}
def mO(X:Cx)(G:Scope):List Nat->Prop|[]=>True|j::r=>(∃x,X.N[j]?=some x/\(X.env.scope.names.lookup x=some .cell\/X.env.scope.names.lookup x=some .free)/\(relabel G X.env).names.lookup x≠some .local)/\mO X G r
theorem mO.mem{X:Cx}{c:Scope}:∀{cap:List Nat},mO X c cap->∀j∈cap,∃x,X.N[j]?=some x/\(X.env.scope.names.lookup x=some .cell\/X.env.scope.names.lookup x=some .free)/\(relabel c X.env).names.lookup x≠some .local|[],_,_,h=>nomatch h| _::_,⟨a,b⟩,j,h=>by rcases ag.mp h with rfl|h;exact a;exact mO.mem b j h
structure bA(X:Cx)(own:List Str)(cap:List Nat)(scope:Scope):Prop where
 kind:scope.kind=.function
 free:∀x∈scope.names,x.2=.free->X.env.kindOf x.1=some .cell\/X.env.kindOf x.1=some .free
 cell:∀x∈scope.names,x.2≠ .cell
 names:∀x∈scope.names,x.2=.local->scope.names.lookup x.1=some .local
 cap:mO X scope cap
section
variable{H₂:Hp}{s₂:Shared}{C:Addr}
theorem bA.has(S:bA X own cap scope)(a:X.Ok):∀x∈scope.names,x.2=.free->∃c,X.env.cells.lookup x.1=some c:=λx b hk=>a.has _ (S.free x b hk)
theorem bA.look(S:bA X own cap scope)(a:X.Ok)(h:(eF X.env scope.names []).lookup x=some c):X.env.cells.lookup x=some c:=by rcases Wr (S.has a) h with q|q;cases q;omega
theorem Un.cellK{fs a:O Y}{h:Heap}(u:Un fs a H H' h h')(n:H c=none)(b:c ∉ a)(z:h.IsCell c v):h'.IsCell c v:=by obtain⟨o,d,f⟩:=z;obtain⟨g,e⟩:=u.any d n b;exact⟨_,e,f⟩
theorem IJ(I:Inv X pins σ H₂ s₂)(S:bA X own cap scope)(f:∀b∈fp,Jq X pins H₂ b)(g:s₂.heap.objs.size<=C)(d:∀b∈fp,b<s₂.heap.objs.size):(qh X own cap scope C fp s₂ H₂).Ok where
 mod:=I.ok.mod
 kind:=S.kind
 glob:=I.ok.glob
 blt:=I.ok.blt
 above:=g
 inj:=λx y c j i=>I.ok.inj x y c (S.look I.ok j) (S.look I.ok i)
 has:=λx h=>V9 (.inl (Vk S.cell h))
 cab:=λx c h=>by cases h
 hd:=I.ok.hd
 frames:=I.ok.frames
 stk:=.inl J
 exf:=λb a=>⟨az (c8 (d b a) g),λx c h=>(f b a).2.2.2.2.1 x c (S.look I.ok h)⟩
 bs:=I.bs
 bsz:=c9 I.ok.bsz I.sz
 noex:=λb o e a=>by rcases(f b a).2.2.2.1 with z|z;exact I.ok.noex b o e z;exact absurd (c8 (aq e) (c9 I.ok.bsz z)) (cy _)
 exfs:=λb a z=>by rcases ag.mp (I.stkSub b z)with e|e;exact(f b a).2.1 e;exact(f b a).2.2.1 e
 funs:=I.stack
 frf:=λb a=>I.stkFree b a
theorem As(I:Inv X pins σ H₂ s₂)(S:bA X own cap scope)(f:∀b∈fp,Jq X pins H₂ b){fs:List Addr}(u:Un fs fp H₂ H' s₂.heap h')(m:Str->Option Value):∀(i:Nat)(x:Str)(v:V),(ln own cap X.N)[i]?=some x->(bQ own.length cap σ)[i]?=some (some v)->nz (relabel scope X.env) x->∃q,ym v q/\vQ (compEnvC scope (eF X.env scope.names []) C X.env) h' m x q:=by
 intro i x v a d F;unfold bQ at d;unfold ln at a;by_cases E:i<own.length
 grind
 rw[List.getElem?_append_right (by simpa using E)]at d a;rw[fc]at d;rw[au]at a d;cases e:cap[i-own.length]? with|none=>simp_all| some j=>
   rw[e]at a d;obtain⟨y,t,hk,n⟩:=S.cap.mem j (bv e);have a:(X.N[j]?).getD Str.empty=x:=Option.some.inj a;rw[t]at a;have a:y=x:=a;subst a;have d:(σ[j]?).getD none=some v:=Option.some.inj d;have p:σ[j]?=some (some v):=by grind
   obtain⟨G,hn,D⟩:=I.loc;obtain⟨q,r,l⟩:=D j y v t p (.inr hk);refine⟨q,r,?_⟩;rcases l with⟨s,_⟩|⟨_,c,o,z⟩;have s:X.env.scope.names.lookup y=some .local:=s
   simp_all
   have g:=F.resolve_left n;obtain⟨H,h⟩:=V9 (.inl (Vk S.cell g));have w:=S.look I.ok h;rw[o]at w;cases w;exact .inr ⟨g,c,h,u.cellK (I.freeC y c o) (λA=>(f c A).2.2.2.2.1 y c o J) z⟩
theorem Bz(I:Inv X pins σ H₂ s₂)(S:bA X own cap scope)(f:∀b∈fp,Jq X pins H₂ b)(J:Inv (qh X own cap scope C fp s₂ H₂) cL σ' H' s'):Inv (qh X own cap scope C fp s₂ H₂) cL (bQ own.length cap σ) H' s':=by obtain⟨m,hn,_⟩:=id J.loc;refine⟨J.ok,J.os,J.bare,J.base,⟨m,hn,As I S f J.base m⟩,J.cell,J.free,J.freeC,J.pin,J.hok,?_⟩;unfold bQ;show _=(ln own cap X.N).length;unfold ln;simp
theorem Ar{D:Y}{i:O V}(I:Inv X pins σ H₂ s₂)(f:∀b∈fp,Jq X pins H₂ b)(J:Inv (qh X own cap scope C fp s₂ H₂) cL σ' H' s')(hs:Heap.SameBut C s'.heap h') (E:s₂.heap.objs.size<=C) (A:s₂.heap.objs.size<=D) (m:D≠C) (y:s'.heap.get? D=some (iV us)) (h:H' D=none) (hl:i.length<=sizeLine) (r:yn i us):
  Inv X pins σ (upd H' D (.lst i)) {s' with heap:=h'}:=by
 have same:∀b o,b≠C->s'.heap.get? b=some o->h'.get? b=some o:=λb o a e=>(hs.2 b a).trans e;have s:∀b o,s₂.heap.get? b=some o->b≠C/\b≠D:=λb o e=>⟨az (c8 (aq e) E),az (c8 (aq e) A)⟩
 have u:=J.base;have R:H' C=none:=J.free;have l:bZ X.prog X.w (upd H' D (.lst i)) h':=by
  intro b w e;by_cases a:b=D;subst a;rw[zd]at e;cases e;exact⟨hl,us,us.length,r,same b _ m y⟩;rw[upd_ne a]at e;have x:∀c p,H' c=some p->c≠C:=λc p z q=>by simp_all
  refine(J.hok b w e).stay (λc v H q=>same c v ?_ q) (λc q=>?_) λc j q=>?_
  grind
  rw[upd_ne (zj q h)];exact q;rw[upd_ne (zj q h)];exact q
 refine I.call' (ch:=fp) J.os ⟨λb o e n a d=>?_,λb o e n a d=>?_,λb o e n d=>?_,λb o e d=>?_,λb j e=>?_,λb o j e=>?_,λb t e=>?_⟩ l J.bare λb a=>?_;exact same b o (s b o e).1 (u.keep b o e n a d);obtain⟨F,q⟩:=u.slot b o e n a d
 simp_all
 rw[upd_ne (s b o e).2];exact u.free b o e n d;obtain⟨G,q⟩:=u.there b o e d
 simp_all
 have q:=u.tups b j e;rw[upd_ne (zj q h)];exact q;have q:=u.frzs b o j e;rw[upd_ne (zj q h)];exact q;obtain⟨g,q⟩:=u.tbls b t e;exact⟨g,by rw[upd_ne (zj q h)];exact q⟩;obtain⟨Q,P,N,M,L,K⟩:=f b a
 grind
end
def nE(X:Cx)(G:List Expr)(t:TT):Prop:=
 ∀ (pins:List (Addr×Obj)) (s:Shared) (σ:St) (H:Hp) (Q:Bool->Hp->Prop),Inv X pins σ H s->t σ H Q->
   wpAny (model X.prog X.w) X.A (forIn G true λc r=>if r=true then do let ok<-isTrue c X.env (eval c X.env);pure (ForInStep.yield ok)else pure (ForInStep.yield r)) (TP X pins σ Q) X.xe s
def nL:TT:=λ_ H Q=>Q true H
theorem xu:nE X [] nL:=by intro a s b H Q I h;exact a9 ⟨H,I,h⟩
theorem jp{c:Expr}{t:TT}(h:PT X c t):nE X [c] t:=by intro a s d H Q I f;rw[List.forIn_cons];rw[if_pos J];refine a4 (a4 (aF (h a s d H Q I f) λb j ⟨i,g,e⟩=>?_));refine a9 ?_;dsimp only;rw[List.forIn_nil];exact a9 ⟨i,g,e⟩
inductive bX(J:It)(g:TG)(tc:TT)(te:TE)(k:Nat)(cap:List Nat)(σ:St)(H:Hp)(Q:VK):Prop| mk:∀W:Nat->Nat->List V->Hp->Prop,(∃m,W 0 m [] H)->(∀i m ys H,W i m ys H-> (J.stop i H/\ys.length<=sizeLine/\∀p,H p=none->Q (.ref p) (upd H p (.lst ys)))\/
   (J.go i H/\ys.length<=sizeLine/\∃N:List V->Hp->Prop,(∀ys' H',N ys' H'->∃m',m'<m/\W (i+1) m' ys' H')/\∀x H',J.yld i H x H'->g x (bQ k cap σ) H' λσ2 H2=>tc σ2 H2 λb H3=>if b=true then te σ2 H3 λy H4=>N (ys++[y]) H4 else N ys H3))->bX J g tc te k cap σ H Q
def B3(G:TI)(g:TG)(Z:TT)(U:TE)(k:Nat)(cap:List Nat):TE:=λσ H Q=>G σ H λJ H1=>bX J g Z U k cap σ H1 Q
section
variable{cB gm:Expr}{wi:TI}
theorem AJ{Zw:Cx->O Str->O Nat->Scope->Y->O Y->Shared->Hp->I->Shared->Prop}{f:Shared}{tn:Nat->Heap->Prop}{J:It}{W:Nat->Nat->O V->Hp->Prop}{m0:Nat}{QQ:O V->Hp->Prop}{RR:I->Y->Result->Shared->Prop}(hc:X.calm=true) (S:bA X own cap scope)
  (hg:∀C fp s₂ H₂,PG (qh X own cap scope C fp s₂ H₂) tg g) (ht:∀C fp s₂ H₂,nE (qh X own cap scope C fp s₂ H₂) fY tc) (he:∀C fp s₂ H₂,PE ((qh X own cap scope C fp s₂ H₂).wish (Zw X own cap scope C fp s₂ H₂)) gm te)
  (E:Inv X pins σ H2 f) (T:dD X.prog X.w X.K tg J fp it tn) (ba:tn 0 f.heap) (f2:∀b∈fp,Jq X pins H2 b) (w0:W 0 m0 [] H2)
  (a3:∀i m l H,W i m l H-> (J.stop i H/\l.length<=sizeLine/\QQ l H)\/
   (J.go i H/\l.length<=sizeLine/\∃N:O V->Hp->Prop,(∀aS t,N aS t->∃m',m'<m/\W (i+1) m' aS t)/\∀x t,J.yld i H x t->g x (bQ own.length cap σ) t λaK H2=>tc aK H2 λb H3=>if b=true then te aK H3 λy H4=>N (l++[y]) H4 else N l H3))
  (hZ:∀(D C:Y)(e:I)(M:Shared),Zw X own cap scope C fp f H2 e M->notedBy (model X.prog X.w) X.A (compEnvC scope (eF X.env scope.names []) C X.env) (λx bl=>RR (.ref D) C (.error x) bl) e M)
  (bx:∀(D C:Y) (cL:O (Y×Obj)) (bk:St) (t:Hp) (M:Shared) (us:O I) (l:O V),Inv (qh X own cap scope C fp f H2) cL bk t M->f.heap.objs.size<=C->f.heap.objs.size<=D->D≠C->M.heap.get? D=some (iV us)->t D=none-> l.length<=sizeLine->yn l us->QQ l t->RR (.ref D) C (.ok .next) M):
  wpAny (model X.prog X.w) X.A (newList []) (λbi s=>wpAny (model X.prog X.w) X.A (newFunctionEnv scope X.env.globals (eF X.env scope.names []) [] X.env.qual none .none (some X.env)) (λR a6=>codeAny (model X.prog X.w) X.A (.compStart (.ListComp gm [⟨tg,cB,fY,0⟩] scope aD) 0 (.ref it) bi {R with scope:=relabel scope X.env}) (RR bi R.locals) a6) X.xe s) X.xe f:=by
 refine cx (wpAny_newFunctionEnv S.cell (by intro y hy;simp at hy) (λG w j=>?_) S.kind);generalize ah:f.heap.push {cls:=.type "list",dict:=none,data:=.seq [].toArray}=g2 at w j⊢;have av:g2.objs.size=f.heap.objs.size+1:=by rw[<-ah,dm]
 have hC:f.heap.objs.size<=g2.objs.size:=by rw[av];exact Nat.le_succ _
 have ap:f.heap.objs.size≠g2.objs.size:=by rw[av];exact az (fg _)
 have below:∀b,b<f.heap.objs.size->b≠g2.objs.size/\b≠f.heap.objs.size:=λb h=>⟨by rw[av];exact az (Nat.lt_succ_of_lt h),az h⟩
 have cM:=λb o e=>j.extBut b o (below b (aq e)).1 (aj _ (ah▸aj _ e));have bd:=j.extBut _ _ ap (aj _ (ah▸bf _ rfl));have af:∀b∈fp,b<f.heap.objs.size:=λb h=>by obtain⟨o,e,_⟩:=T.obj _ _ ba b h;exact aq e
 have A:∀a,f.heap.objs.size<=a->H2 a=none:=λa ha=>E.hok.fresh ha;have ok:=IJ E S f2 hC af;have bb:=T.keep _ _ _ ba λb h o e=>cM b o e;let L:=qh X own cap scope g2.objs.size fp f H2;have u1:Un (gj X.stack) fp H2 H2 f.heap G:=Un.kept cM;have start:Inv L [(f.heap.objs.size,iV [])] (bQ own.length cap σ) H2 {f with heap:=G,toks:=f.toks+([]:O (Str×I)).length}:=by
  refine⟨ok,rfl,E.bare,u1,⟨_,w,As E S f2 u1 _⟩,λx c e=>?_,A _ hC,λx c e=>E.freeC x c (S.look E.ok e),λp P=>?_,E.hok.kept cM,?_⟩;obtain⟨v,z⟩:=E.cell x c (S.look E.ok e);obtain⟨o,ho,hd⟩:=z;exact⟨v,o,cM c o ho,hd⟩;have e:p=(f.heap.objs.size,iV []):=by simpa[L,qh]using P
  subst e;refine⟨bd,A _ (ae _),ap,λz=>?_,λv z=>by cases z⟩;obtain⟨_,o,ho,_⟩:=E.stack.mem z;exact absurd (aq ho) (cy _);unfold bQ;show _=(ln own cap X.N).length;unfold ln;simp
 have F:∀{D:Y}{o:Obj}{t:Hp},f.heap.objs.size<=D->(∀b∈fp,t b=none)->∀b∈fp,Jq L [(D,o)] t b:=λ{D o t} hD hn b h=>
  ⟨hn b h,(ok.exf b h).1,ok.exfs b h,.inl h,λx c e=>(ok.exf b h).2 x c e,λp P=>by
   have e:p=(D,o):=by simpa[L,qh]using P
   subst e;exact ai (az (c8 (af b h) hD))⟩
 have Q:∀s:Shared,s={f with heap:=G,toks:=f.toks+([]:O (Str×I)).length}->
   codeAny (model X.prog X.w) X.A (.compLoop (.ListComp gm [⟨tg,cB,fY,0⟩] scope aD) 0 (.ref it) (.ref f.heap.objs.size) (compEnvC scope (eF X.env scope.names []) g2.objs.size X.env))
    (RR (.ref f.heap.objs.size) g2.objs.size) s:=by
  rintro s rfl;refine LX (λn M=>∃i t us l,Inv L [(f.heap.objs.size,iV us)] (bQ own.length cap σ) t M/\tn i M.heap/\(∀b∈fp,t b=none)/\yn l us/\W i n l t) (hZ _ _) ?_ m0
   ⟨0,H2,[],[],start,bb,λb h=>(f2 b h).1,.nil,w0⟩
  rintro n s3 ⟨i,H3,us,l,I3,a8,bh,rv,w3⟩;rcases a3 i n l H3 w3 with⟨a7,hl,qn⟩|⟨go,hl,N,hN,step⟩;refine aF (T.done L rfl rfl rfl hc i _ s3 _ H3 _ I3 (F (ae _) bh) a8 a7) λr s4 ⟨hr,I4⟩=>?_;subst hr;have K:=I4.pin (f.heap.objs.size,iV us) (cu _ bp);exact bx _ _ _ _ H3 s4 us l I4 hC (ae _) ap K.1 K.2.1 hl rv qn;refine aF (T.item L rfl rfl rfl hc i _ s3 _ H3 _ I3 (F (ae _) bh) a8 go) λr s4 ⟨u,hr,h4⟩=>?_;subst hr;refine aF h4 λ_ s5 ⟨x,H5,I5,r5,y5,Z,bC⟩=>?_;have bD:=I5.pinned (F (ae _) bC) (T.obj _ _ Z);refine aF (hg _ _ _ _ _ s5 _ H5 x u _ bD r5 (step x H5 y5)) λ_ s6 ⟨ay,H6,I6,q6⟩=>?_;refine aF (ht _ _ _ _ _ s6 ay H6 _ I6 q6) λb s7 ⟨H7,I7,q7⟩=>?_;have a5:∀{aw:St}{H8:Hp}{s8:Shared},Inv L ([(f.heap.objs.size,iV us)]++K1 fp s5.heap) aw H8 s8->tn (i+1) s8.heap/\∀b∈fp,H8 b=none:=λ{aw H8 s8} U=>by refine⟨T.keep _ _ _ Z λb h o e=>(U.pin (b,o) (cu _ (cu _ (Yk h e)))).1,λb h=>?_⟩;obtain⟨o,e,d⟩:=T.obj _ _ Z b h;exact(U.pin (b,o) (cu _ (cu _ (Yk h e)))).2.1
  cases b with| false=>
    rw[if_neg br]at q7;obtain⟨m',hm,w7⟩:=hN _ _ q7;rw[if_neg br];obtain⟨t7,n7⟩:=a5 I7;exact⟨m',hm,i+1,H7,us,l,Bz E S f2 I7.unpinned,t7,n7,rv,w7⟩| true=>
    rw[if_pos rfl]at q7;rw[if_pos rfl];refine dc (he _ _ _ _ _ s7 ay H7 _ (I7.wish _) q7) (λy s8 h8=>?_) λ_ _ z=>z;obtain⟨z,H8,U,r8,bw⟩:=h8;have U:=U.unwish;obtain⟨m',hm,w8⟩:=hN _ _ bw;obtain⟨t8,n8⟩:=a5 U;have p8:=U.pin (f.heap.objs.size,iV us) (cu _ (dk _ bp));have bE:us.length<=sizeLine:=by rw[<-rv.length];exact hl
    refine append_at p8.1 λh9 bc bB=>?_;have bg:=bB.trans (congrArg some (Iy us y));refine⟨m',hm,i+1,H8,us++[y],l++[z],?_,T.keep _ _ _ t8 λb h o e=>(bc.2 b (λq=>?_)).trans e,n8,yn.append rv (.cons r8 .nil),w8⟩;have J0:Inv L [] (bQ own.length cap σ) H8 s8:=(Bz E S f2 U).pins_of λp P=>by cases P
    have J1:Inv L [] (bQ own.length cap σ) H8 {s8 with heap:=h9,toks:=s8.toks}:=J0.turned (λb o h e=>(bc.2 b h).trans e) p8.2.1 p8.2.2.1 (.inr (ae _)) (λx c e q=>by
     obtain⟨v,hv⟩:=E.cell x c (S.look E.ok e);exact absurd (c8 hv.lt (by rw[q];exact ae _)) (cy _)) (λp P=>by
     have:p∈[]:=by simpa[L,qh]using P
     cases this)
    exact J1.pins_of λp P=>by
     have e:p=(f.heap.objs.size,iV (us++[y])):=by simpa using P
     subst e;exact⟨bg,p8.2.1,p8.2.2.1,p8.2.2.2.1,λv z=>by cases z⟩
    exact absurd (af b h) (by rw[q];exact cy _)
 exact codeAny_compStart_list (Q _ rfl) (T.self _ 0 _ _ _ bb (Q _ rfl))
theorem qc(F:X.calm=true)(S:bA X own cap scope)(A:PI X tg cB wi)(E:∀C fp s₂ H₂,PG (qh X own cap scope C fp s₂ H₂) tg g) (y:∀C fp s₂ H₂,nE (qh X own cap scope C fp s₂ H₂) fY tc) (he:∀C fp s₂ H₂,PE (qh X own cap scope C fp s₂ H₂) gm te)
  (hs:∀x,foldedSetIterable cB X.env x=pure x:=by intro _;rfl):PE X (.ListComp gm [⟨tg,cB,fY,0⟩] scope aD) (B3 wi g tc te own.length cap):=by intro b s r H Q I h;rw[eval_ListComp];refine wpAny_comprehension_free rfl hs (Xi (S.has I.ok)) S.kind S.names (aF (A b s r H _ I h) λv Z M=>aF M λw U L=>?_);obtain⟨it,fp,R,J,H2,e,o,T,c,l,W,⟨m0,t⟩,a⟩:=L;subst e;refine AJ (Zw:=λ_ _ _ _ _ _ _ _ _ _=>False) F S E y he o T c l t a (λ_ _ _ _ h=>h.elim) λD C cL p H' s' P N n K G i j hn z u q=>?_;obtain⟨m,f,_⟩:=id n.loc;exact⟨m,f,λh' d=>⟨.ref D,_,Ar o l n d K G i j hn z u,rfl,q D hn⟩⟩
def CY(i:Nat)(G:TE):TS:=λD σ H=>G σ H λx H1=>D.nx (σ.set i (some x)) H1
theorem Vn{y:Str}{U d:Pos}(hc:X.calm=true)(S:bA X own cap scope)(hi:PI X tg cB wi)(hg:∀C fp s₂ H₂,PG (qh X own cap scope C fp s₂ H₂) tg g) (ht:∀C fp s₂ H₂,nE (qh X own cap scope C fp s₂ H₂) fY tc) (he:∀C fp s₂ H₂,PE (qh X own cap scope C fp s₂ H₂) gm te)
  (hN:X.N.Nodup) (hy:X.N[i]?=some y) (hl:X.env.scope.names.lookup y=some .local)
  (A:swapsWith (.ListComp gm [⟨tg,cB,fY,0⟩] scope aD) (some (.Name y U)) d.line X.env=pure true)
  (hs:∀x,foldedSetIterable cB X.env x=pure x:=by intro _;rfl):PS X (.Assign [.Name y U] (.ListComp gm [⟨tg,cB,fY,0⟩] scope aD) d) (CY i (B3 wi g tc te own.length cap)):=by
 intro n s R H D I h;rw[exec_Assign_Name_used _ _ _ _ A];refine a4 (wpAny_standAt (a4 ?_));refine a4 (dc (wpAny_comprehension_free rfl hs (Xi (S.has I.ok)) S.kind S.names (aF (hi n s R H _ I h) λv s1 h1=>aF h1 λah s2 h2=>?_)) (λ_ s' hq=>a9 (a9 hq)) λ_ _ e=>e)
 obtain⟨it,fp,tn,J,H2,e,f,T,t,Z,W,⟨m0,w0⟩,l⟩:=h2;subst e;refine AJ (Zw:=λ_ _ _ _ _ _ _ _ _ _=>False) hc S hg ht he f T t Z w0 l (λ_ _ _ _ h=>h.elim) λL C cL af H' s' us ys Q j hD r N hn G rv q=>?_;obtain⟨m,F,_⟩:=id Q.loc;have I3:=Ar f Z Q ⟨rfl,λ_ _=>rfl⟩ j hD r N hn G rv;refine wpAny_assign_Name (BG I3 hN hy (.inl hl) (v:=.ref L) rfl (λs5 I5 K=>?_) (.inr hl));have P:(upd H' L (.lst ys)) C=none:=by rw[upd_ne (ai r)];exact Q.free
 have u:∀a,(a=X.env.locals\/X.env.cells.lookup y=some a)->C≠a:=λa M z=>by rcases M with e|e;exact absurd (c8 f.lt (by rw[<-e,<-z];exact j)) (cy _);obtain⟨v,w⟩:=f.cell y a e;exact absurd (c8 w.lt (by rw[<-z];exact j)) (cy _)
 obtain⟨a,sb,M⟩:=K;refine⟨m,F.sameBut sb (u a M),λh6 E=>?_⟩;refine⟨R.set i (some (.ref L)),_,?_,q L hn⟩;refine I5.turned (λb o hb e=>(E.2 b hb).trans e) P ?_ (.inr (c9 f.sz j)) (λx c e z=>?_) λp hp z=>?_;exact λz=>absurd (c8 f.lt (by rw[<-z];exact j)) (cy _);obtain⟨v,w⟩:=f.cell x c e;exact absurd (c8 w.lt (by rw[z];exact j)) (cy _);exact absurd (c8 (aq (f.pin p hp).1) (by rw[z];exact j)) (cy _)
end
section
inductive my(K:W.Frag)(xs:List V)(H:Hp)(Q:VK):Prop|mk:∀x n t b,xs=[x,.ty n]->cQ K H x t->W.kitOne K t (.type n)=some b->Q (.bl b) H->my K xs H Q
theorem Gu:jj X (.builtin "isinstance") (my X.K):=by intro a s i H j l Q I r h;obtain⟨x,n,t,b,rfl,c,e,q⟩:=h;obtain⟨u,m,rfl,g,f⟩:=wT r;cases(f);exact Iq I g c e λd=>⟨.bl b,H,I.tok d,J,q⟩
theorem Xp:cI X (compareOp .LtE) (λx y H Q=>∃i j,x=.str i/\y=.str j/\Q (.bl (!decide (j.cps.toList<i.cps.toList))) H):=by intro a s d H x y v u Q I c b h;obtain⟨i,j,rfl,rfl,q⟩:=h;obtain⟨t,rfl⟩:=c;obtain⟨e,rfl⟩:=b;exact P.le_str (xb I q J)
theorem kx(D:X.calm=true):jj X (.builtin "all") (λxs H Q=>∃(a:Addr)(bs:List Bool),xs=[.ref a]/\aG X.K H a (bs.map V.bl)/\Q (.bl (bs.all id)) H):=by
 intro n s G H xs K Q I r h;obtain⟨a,bs,rfl,t,q⟩:=h;obtain⟨u,rfl,w⟩:=ql r;cases w;obtain⟨c,j,p,N⟩:=I.list t;have l:a<s.heap.objs.size:=by obtain⟨_,e,_⟩:=p.isList;exact aq e
 have m:=j.length;rw[aa]at m;refine call_all_walk (wpAny_pyIter_list p.isList ?_);refine⟨s.heap.objs.size,_,_,_,_,_,λi=>(bs[i]?).getD false,J,Walks.list (A:=X.A.in1) (I.ok.hd D) s.heap.objs.size a (az l) c.toArray,⟨⟨_,bf _ J,J,J⟩,p.isList.push _⟩,?_,λP L hk=>?_⟩;intro i v M R S g f;have g:c[i]?=some v:=by simpa using g
 cases e:bs[i]? with| none=>have:=List.getElem?_eq_none_iff.mp e;have F:c[i]?=none:=List.getElem?_eq_none_iff.mpr (by omega);rw[F]at g;cases g| some b=>obtain⟨u,C,y⟩:=j.get (by rw[au,e];rfl);rw[C]at g;cases g;cases(y);dsimp only at f;rw[e]at f;exact a9 f
 have e:((List.range c.toArray.size).all λi=>(bs[i]?).getD false)=bs.all id:=by rw[cz,<-m];clear q t j m;rw[Bool.eq_iff_iff,db,db];constructor;intro h x A;obtain⟨i,d,rfl⟩:=List.mem_iff_getElem.mp A;have:=h i (dj.mpr d);simpa[d]using this;intro h i d;have d:=dj.mp d;have:=h (bs[i]) (List.getElem_mem d);simpa[d]using this
 rw[e];refine⟨.bl (bs.all id),H,I.kept λb o e=>hk b o (λE=>?_) (aj _ e),J,q⟩;have z:b=s.heap.objs.size:=by simpa using E
 exact absurd (aq e) (by rw[z];exact cy _)
theorem By(Z:X.calm=true):jj X (.builtin "sum") (λxs H Q=>∃(a:Y)(ns:O Int),xs=[.ref a]/\aG X.K H a (ns.map V.int)/\(∀n∈ns,0<=n)/\ns.sum<2^63/\Q (.int ns.sum) H):=by
 intro E s σ H xs us Q I r h;obtain⟨a,ns,rfl,U,C,h1,q⟩:=h;obtain⟨u,rfl,P⟩:=ql r;cases P;obtain⟨c,D,p,hz⟩:=I.list U;have d:a<s.heap.objs.size:=by obtain⟨_,e,_⟩:=p.isList;exact aq e
 have G:=D.length;rw[aa]at G;have m:∀k,k<=ns.length->preSum (λi=>(ns[i]?).getD 0) k=(ns.take k).sum:=by intro k;induction k with|zero=>intro _;rfl| succ k w=>intro hk;have this:ns[k]?=some ns[k]:=bo (by omega);rw[preSum,w (by omega),cq,this,List.sum_append];simp
 have F:∀(l:O Int),(∀n∈l,0<=n)->0<=l.sum:=by intro l;induction l with|nil=>intro _;exact dz _| cons a r w=>intro h;have h1:=h a bp;have h2:=w λn hn=>h n (bq _ hn);rw[List.sum_cons];omega
 have M:∀k,(ns.take k).sum<=ns.sum:=by
  intro k;have e:ns.sum=(ns.take k).sum+(ns.drop k).sum:=by rw[<-List.sum_append,List.take_append_drop]
  have:=F (ns.drop k) λn hn=>C n (List.mem_of_mem_drop hn);omega
 refine call_sum_walk (wpAny_pyIter_list p.isList ?_);refine⟨s.heap.objs.size,_,_,_,_,_,λi=>(ns[i]?).getD 0,J,Walks.list (A:=X.A.in1) (I.ok.hd Z) s.heap.objs.size a (az d) c.toArray,⟨⟨_,bf _ J,J,J⟩,p.isList.push _⟩,?_,?_,?_,λh' L N hk=>?_⟩;intro b A;rw[dm];rcases ag.mp A with z|z;rw[z];exact fg _;have z:b=a:=by simpa using z
 rw[z];exact Nat.lt_succ_of_lt d;intro i v g;have g:c[i]?=some v:=by simpa using g
 have K:i<ns.length:=by have:=(ci.mp g).1;omega
 obtain⟨u,S,R⟩:=D.get (by rw[au,bo K];rfl);rw[S]at g;cases g;obtain⟨t,rfl⟩:=(R)
 exact⟨t,by dsimp only;rw[bo K];rfl⟩;intro j f;rw[cz]at f;have f:j<ns.length:=by omega
 have W:=List.getElem_mem f;have y:=m (j+1) (by omega);have x:=m j (by omega);have h3:=M (j+1);have h5:=F (ns.take j) λn hn=>C n (List.mem_of_mem_take hn);have h6:=C _ W;rw[preSum,x,bo f]at y;have y:(ns.take j).sum+ns[j]=(ns.take (j+1)).sum:=y;refine⟨?_,?_⟩;dsimp only;rw[bo f];unfold InLong;omega;rw[m (j+1) (by omega)];unfold InLong;omega;have e:preSum (λi=>(ns[i]?).getD 0) c.toArray.size=ns.sum:=by rw[cz,<-G,m _ (ae _),cr]
 rw[e];refine⟨.int ns.sum,H,I.kept λb o e=>hk b o (λA=>?_) (aj _ e),⟨N,J⟩,q⟩;have z:b=s.heap.objs.size:=by simpa using A
 exact absurd (aq e) (by rw[z];exact cy _)
end
section
theorem K5{t:Y}{v:I}(a:s.heap.IsTupleIter it t i)(e:s.heap.IsTuple t its)(d:its[i]?=some v)(k:∀g,g.IsTupleIter it t (i+1)->Heap.SameBut it s.heap g->Q v {s with heap:=g}):wpAny (model prog w) A (Builtin.SmallTypes.nextOf (.ref it)) Q E s:=by obtain⟨o,c,h,b⟩:=id a;obtain⟨l,f,_,m,j⟩:=e;unfold Builtin.SmallTypes.nextOf;refine a4 (wpAny_callSpecial?_slot a.typeIs PySem.F.slot_tuple_iterator_next (cf PySem.F.slot_tuple_iterator_next a.typeIs PySem.F.entry_tuple_iterator_next ?_ (PySem.F.args_tuple_iterator_next_1 _)));show wpAny _ _ (field (.ref it) 0>>=_) _ _ s;refine a4 (wpAny_field c b J ?_);rw[if_neg (λz=>by grind)];refine a4 (wpAny_field c b J ?_);refine a4 (wpAny_seqItems f j ?_);simp only[d9,d];refine a4 (wpAny_setField c b (by simp) (a9 ⟨v,J,a9 (k _ ⟨_,Heap.get?_update_self _ c (Obj.isFreed_of_fields (Obj.data_mapFields b _)),(Obj.cls_mapFields ..).trans h,?_⟩ (Heap.SameBut.update ..))⟩));rw[Obj.data_mapFields b];rfl
theorem X2{t:Y}(hh:A.handled=none)(a:s.heap.IsTupleIter it t i)(e:s.heap.IsTuple t its)(d:its[i]?=none)(k:∀g x,Heap.ExtBut it s.heap g->(∃o,g.get? x=some o/\o.cls=.type "StopIteration")->E (.ref x) {s with heap:=g}):wpAny (model prog w) A (Builtin.SmallTypes.nextOf (.ref it)) Q E s:=by
 obtain⟨o,c,m,b⟩:=id a;obtain⟨j,f,_,l,h⟩:=e;unfold Builtin.SmallTypes.nextOf;refine a4 (wpAny_callSpecial?_slot a.typeIs PySem.F.slot_tuple_iterator_next (cf PySem.F.slot_tuple_iterator_next a.typeIs PySem.F.entry_tuple_iterator_next ?_ (PySem.F.args_tuple_iterator_next_1 _)));show wpAny _ _ (field (.ref it) 0>>=_) _ _ s;refine a4 (wpAny_field c b J ?_);rw[if_neg (λz=>by grind)];refine a4 (wpAny_field c b J ?_);refine a4 (wpAny_seqItems f h ?_);simp only[d9,d];refine a4 (wpAny_rule (a4 (wpAny_setField c b (by simp) ?_)));refine a4 ?_;simp only[newExc,newTuple];refine a4 (cx ?_ (by size_fits));refine a4 (wpAny_of_eq (by rfl) ?_);refine cx ?_ (by size_fits);simp only[raiseNew];refine a4 (wpAny_handled ?_);first|rw[(hh)]|rw[hh]
 exact a4 (a9 (wpAny_throw (k _ _ (((Heap.SameBut.update ..).extBut.push _).push _) ⟨_,bf _ J,J⟩)))
theorem KY{e t:Y}{v:I}{Q:Option I->Shared->Prop}(he:IsEnum s.heap e it i cM)(X:s.heap.IsTupleIter it t i)(ht:s.heap.IsTuple t its)(hv:its[i]?=some v)(m:e≠it)(k:∀g,IsEnumOut g e it ((i:Int)+1) v s.heap.objs.size->g.IsTupleIter it t (i+1)->g.get? s.heap.objs.size=some {cls:=.type "tuple",data:=.seq #[.int i s.toks,v]}->g.objs.size=s.heap.objs.size+1-> (∀b o,b≠e->b≠it->s.heap.get? b=some o->g.get? b=some o)->Q (some (.ref s.heap.objs.size)) {s with heap:=g,toks:=s.toks+1}):wpAny (model prog w) A (pyNext (.ref e)) Q E s:=by
 have hT:s.TypeIs (.ref e) "enumerate":=⟨_,he,J⟩
 unfold pyNext;refine a4 (wpAny_attempt (wpAny_callSpecial?_slot hT PySem.F.slot_enumerate_next (cf PySem.F.slot_enumerate_next hT PySem.F.entry_enumerate_next ?_ (PySem.F.args_enumerate_next_1 _))));obtain⟨N,gs,d,M,os⟩:=s;show wpAny _ _ (field (.ref e) 2>>=_) _ _ _;refine a4 (wpAny_field he J J ?_);refine a4 (K5 X ht hv λg1 z l=>?_);replace l:=l;have y:=(l.2 e m).trans he;refine a4 (wpAny_field y J J ?_);refine a4 (wpAny_field y J J ?_);refine a4 (wpAny_mkInt ?_);refine a4 (wpAny_setField_rec y (by simp) λg2 x j=>?_);replace j:=j;replace x:=x;refine a4 (wpAny_setField_rec x (by simp) λP u h=>?_);replace h:=h;replace u:=u;refine a4 (wpAny_newTuple ?_);have q:IsEnum (P.push {cls:=.type "tuple",data:=.seq #[.int i M,v]}) e it (i+1) cM:=aj _ u;generalize n:P.push {cls:=.type "tuple",data:=.seq #[.int i M,v]}=L at q;have p:P.objs.size=N.objs.size:=by rw[h.1,j.1,l.1]
 have D:=aq he;have U:L.get? N.objs.size=some {cls:=.type "tuple",data:=.seq #[.int i M,v]}:=by rw[<-n,<-p];exact bf _ J
 have S:L.objs.size=N.objs.size+1:=by rw[<-n,dm,p]
 have W:∀b o,b≠e->b≠it->N.get? b=some o->L.get? b=some o:=λb o C R Z=>by rw[<-n];exact aj _ (h.extBut b o C (j.extBut b o C (l.extBut b o R Z)))
 have K:L.IsTupleIter it t (i+1):=by rw[<-n];obtain⟨o,ho,r⟩:=(z.extBut j.extBut (ai m)).extBut h.extBut (ai m);exact⟨o,aj _ ho,r⟩
 show wpAny _ _ (Builtin.SmallTypes.ownedTupleIsFree (.ref e)>>=_) _ _ ⟨L,gs,d,M+1,os⟩;rw[p];clear n u h x j y l z p P g2 g1;refine a4 ?_;unfold Builtin.SmallTypes.ownedTupleIsFree;refine a4 (wpAny_field q J J (a9 ?_));simp only[if_true];refine a4 (wpAny_rule (a4 (wpAny_field q J J (a4 (wpAny_setField_rec q (by simp) λg5 H f=>?_)))));replace f:=f;replace H:=H;refine a4 ?_;unfold Builtin.SmallTypes.ownedTupleHandOut;refine a4 (wpAny_setField_rec H (by simp) λg6 G c=>?_);replace c:=c;replace G:=G;refine wpAny_setField_rec G (by simp) λg7 F a=>?_;replace a:=a;replace F:=F;refine a4 (wpAny_letGo (a9 ⟨_,J,a9 (k g7 F ?_ ?_ ?_ ?_)⟩));exact((K.extBut f.extBut (ai m)).extBut c.extBut (ai m)).extBut a.extBut (ai m);exact a.extBut _ _ (df D) (c.extBut _ _ (df D) (f.extBut _ _ (df D) U));rw[a.1,c.1,f.1,S];exact λb o C R Z=>a.extBut b o C (c.extBut b o C (f.extBut b o C (W b o C R Z)))
theorem Ii{e t:Y}{Q:Option I->Shared->Prop}(hh:A.handled=none)(he:IsEnum s.heap e it i cM)(a:s.heap.IsTupleIter it t i)(d:s.heap.IsTuple t its)(c:its[i]?=none)(k:∀g,Heap.ExtBut it s.heap g->Q none {s with heap:=g}):wpAny (model prog w) A (pyNext (.ref e)) Q E s:=by
 have hT:s.TypeIs (.ref e) "enumerate":=⟨_,he,J⟩
 unfold pyNext;refine a4 (wpAny_attempt (wpAny_callSpecial?_slot hT PySem.F.slot_enumerate_next (cf PySem.F.slot_enumerate_next hT PySem.F.entry_enumerate_next ?_ (PySem.F.args_enumerate_next_1 _))));show wpAny _ _ (field (.ref e) 2>>=_) _ _ _;refine a4 (wpAny_field he J J ?_);refine a4 (X2 hh a d c λg x b ⟨o,f,h⟩=>?_);exact a4 (di ⟨o,f,h⟩ isSubtype_stop (a9 (k _ b)))
theorem GE(t:Y)(its:Array I)(n:Nat)(e:Option Y)(l:Array (Option I)):
  Meets (Builtin.«enumerate.__new__» ⟨[.type "enumerate",.ref t],[]⟩) (λ_ R s=>s.heap.get? t=some {cls:=.type "tuple",dict:=e,data:=.seq its n,slots:=l}/\ R (.ok (.ret (.ref (s.heap.push {cls:=.type "tuple_iterator",data:=.fields #[.ref t,.int 0 0]}).objs.size)))
     {s with heap:=(s.heap.push {cls:=.type "tuple_iterator",data:=.fields #[.ref t,.int 0 0]}).push {cls:=.type "enumerate",data:=.fields #[.none,.bool false,.ref s.heap.objs.size,rawInt 0,.none,.none]}}):=
 .of_wp λf w A R s h=>by
  obtain⟨m,g,d,j,os⟩:=s;obtain⟨a,h⟩:=h;have i:=sub_enumerate;have b:Heap.IsTuple (Shared.heap ⟨m,g,d,j,os⟩) t its:=⟨_,a,J,n,J⟩
  wp_walk using AutoSeq1.wpAny_loadPart' a
  refine wpAny_stack_any λst=>a9 ?_;split
  rename_i c _ _ _ _ _
  cases(c==Value.type "enumerate")
  wp_walk using AutoSeq1.wpAny_loadPart' a,wpAny_pyIter_tuple b
  exact⟨_,J,h⟩
  wp_walk using AutoSeq1.wpAny_loadPart' a,wpAny_pyIter_tuple b
  exact⟨_,J,h⟩
  wp_walk using AutoSeq1.wpAny_loadPart' a,wpAny_pyIter_tuple b
  exact⟨_,J,h⟩
theorem JU{t:Y}(m:s.heap.IsTuple t its)(k:∀g,IsEnum g (s.heap.objs.size+1) s.heap.objs.size 0 .none->g.IsTupleIter s.heap.objs.size t 0->g.objs.size=s.heap.objs.size+2->(∀b o,s.heap.get? b=some o->g.get? b=some o)->Q (.ref (s.heap.objs.size+1)) {s with heap:=g}):
  wpAny (model prog w) A (call (.type "enumerate") [.ref t]) Q E s:=by
 obtain⟨⟨c,h,r,l⟩,p,f,n,d⟩:=m;replace f:=f;replace d:=d;subst f d;refine callType_new PySem.F.called_enumerate (by rfl) (PySem.F.typeCall_enumerate_1 _) (PySem.F.newCall_enumerate_1 _) (λa=>PySem.F.args_object_init_2 a _) PySem.F.entry_enumerate_new (GE t its n h l) ⟨p,?_⟩;have i:(s.heap.push {cls:=.type "tuple_iterator",data:=.fields #[.ref t,.int 0 0]}).objs.size=s.heap.objs.size+1:=dm ..;rw[i];have j:IsEnum ((s.heap.push {cls:=.type "tuple_iterator",data:=.fields #[.ref t,.int 0 0]}).push {cls:=.type "enumerate",data:=.fields #[.none,.bool false,.ref s.heap.objs.size,rawInt 0,.none,.none]}) (s.heap.objs.size+1) s.heap.objs.size 0 .none:=by
  have q:=bf (s.heap.push {cls:=.type "tuple_iterator",data:=.fields #[.ref t,.int 0 0]}) (o:={cls:=.type "enumerate",data:=.fields #[.none,.bool false,.ref s.heap.objs.size,rawInt 0,.none,.none]}) J
  grind
 refine⟨⟨_,j,J⟩,k _ j ⟨_,aj _ (bf _ J),J,J⟩ (by rw[dm,i]) λb o e=>aj _ (aj _ e)⟩
end
noncomputable def rq(K:W.Frag)(a:Addr):It:=⟨λi H=>∃xs x,aE K H a xs/\xs[i]?=some x,λi H x H'=>∃p y,x=.ref p/\H p=none/\H'=upd H p (.tup [.int i,y])/\∀xs,aE K H a xs->xs[i]?=some y,λi H=>∃xs,aE K H a xs/\xs.length<=i⟩
theorem JB{K:W.Frag}{k1}(a e f:Y)(M:e≠f)(l:sizeLine≥2):dD P w K (.Tuple cZ k1 aD) (rq K a) [e,f] e (λi h=>(∃cM,IsEnum h e f i cM)/\h.IsTupleIter f a i) where
 mem:=by simp
 obj:=λi h st b l=>by
  obtain⟨⟨cM,A⟩,F⟩:=st;rcases ag.mp l with z|z
  simp_all
  have z:b=f:=by simp_all
  rw[z];obtain⟨o,G,c,d⟩:=F
  simp_all
 keep:=λi h h' st k=>by obtain⟨⟨cM,A⟩,o,G,r⟩:=st;exact⟨⟨cM,k e (by simp) _ A⟩,o,k f (by simp) o G,r⟩
 item:=by
  intro X hP hw hK hc i C s σ H E I R st hg;subst hP hw hK;obtain⟨xs,x,L,hx⟩:=hg;obtain⟨af,U,p,hz⟩:=I.tuple L;obtain⟨u,hu,ru⟩:=U.get hx;obtain⟨⟨cM,A⟩,F⟩:=st;obtain⟨f0,f1,f2,f3,f4,f5⟩:=R e (by simp);obtain⟨g0,g1,g2,g3,g4,g5⟩:=R f (by simp);refine KY A F (p) (by simpa using hu) M λg ho ap hT aK hk=>?_;refine⟨.ref s.heap.objs.size,J,wpAny_letOwnedTupleGo_enum ho λg' aS D=>?_⟩;have N:=df (aq A);have av:s.heap.objs.size≠f:=by obtain⟨o,G,_⟩:=F;exact df (aq G)
  have y:=λb o Q Z z=>(D.2 b Q).trans (hk b o Q Z z);have aw:=(D.2 _ N).trans hT;have j:=I.hok.fresh (ae _);have ay:∀b o,H b=some o->b≠e/\b≠f:=λb o z=>⟨(λq=>by simp_all),(λq=>by simp_all)⟩
  have I1:Inv X C σ (upd H s.heap.objs.size (.tup [.int i,x])) {s with heap:=g',toks:=s.toks+1}:=by
   refine I.step (ch:=[e,f]) (λb l=>?_) (λb o Q Z t z _=>y b o (λq=>t (by grind)) (λq=>t (by grind)) z)
    (λb o Q Z t z _=>⟨o.slots,y b o (λq=>t (by grind)) (λq=>t (by grind)) z⟩) (λb o t z n=>?_) (λb o t z=>⟨o,y b o (λq=>t (by grind)) (λq=>t (by grind)) z⟩)
    (λb S z=>by rw[upd_ne (zj z j)];exact z) (λb o S z=>by rw[upd_ne (zj z j)];exact z) (λb ps z=>⟨#[],by rw[upd_ne (zj z j),z];simp⟩) (λm hm=>?_) (λb ob z=>?_) I.bare
   grind
   rw[upd_ne (az (aq z))];exact n;obtain⟨o,es,ep,ah,r⟩:=hm;exact⟨o,es,ep,y _ o (ai f1) (ai g1) ah,r⟩;by_cases l:b=s.heap.objs.size;subst l;rw[zd]at z;cases z;exact⟨by omega,[.int i s.toks,u],.cons ⟨_,J⟩ (.cons ru .nil),⟨_,aw,J,_,J⟩,λq L=>by simp_all⟩
   rw[upd_ne l]at z;refine(I.hok b ob z).stay (λc v hc q=>?_) (λc q=>by rw[upd_ne (zj q j)];exact q) λc S q=>by rw[upd_ne (zj q j)];exact q
   grind
  refine⟨.ref s.heap.objs.size,_,I1,J,⟨_,x,J,j,J,λS hy=>by rw[I.tuple_inj hy L];omega⟩,⟨⟨u,by grind⟩,?_⟩,λb l=>?_⟩;obtain⟨o,G,r⟩:=ap;exact⟨o,(D.2 f (ai M)).trans G,r⟩;rcases ag.mp l with q|q;rw[q,upd_ne (ai N)];omega;have q:b=f:=by simp_all
  rw[q,upd_ne (ai av)];omega
 done:=by intro X hP hw hK hc i C s σ H E I R st hg;subst hP hw hK;obtain⟨xs,L,hx⟩:=hg;obtain⟨af,U,p,hz⟩:=I.tuple L;obtain⟨⟨cM,A⟩,F⟩:=st;obtain⟨g0,g1,g2,g3,g4,g5⟩:=R f (by simp);have hl:=U.length;exact Ii (I.ok.hd hc) A F (p) (by simp_all) λg eb=>⟨J,I.turned (λb o l z=>eb b o l z) g0 g1 g3 g4 g5⟩
 self:=λ_ _ _ _ _ st h=>by obtain⟨⟨cM,A⟩,_⟩:=st;exact wpAny_pyIter_enum A h
section
inductive iE(K:W.Frag)(R:It->Hp->Prop)(vs:List V)(H1:Hp):Prop|mk:∀a xs,vs=[.ref a]->aE K H1 a xs->R (rq K a) H1->iE K R vs H1
def Da(K:W.Frag)(ta:TA):TI:=λσ H R=>ta σ H λvs H1=>iE K R vs H1
theorem Jv{r}{F:Pos}{a:Expr}{p:Pos}(C:Gl X "enumerate")(y:X.mg "enumerate"=none)(E:PA X [a] ta)(hs:starEach [a] X.env=[(false,eval a X.env)]:=by rfl):PI X (.Tuple cZ r F) (.Call (.Name "enumerate" p) [a] [] aD) (Da X.K ta):=by
 intro f s j H R I h;refine Call_ (Ym I C y boot_enumerate (PyProof.Rows.callWith_type1 (aF (E aD f s j H _ I h) λM c ⟨L,G,d,m,n⟩=>?_) hs J));obtain⟨t,K,e,x,q⟩:=n;subst e;obtain⟨u,rfl,l⟩:=ql m;cases l;obtain⟨v,N,o,P⟩:=d.tuple x;refine JU (o) λg i A w hk=>?_;refine wpAny_pyIter_enum i ?_;refine⟨c.heap.objs.size+1,[c.heap.objs.size+1,c.heap.objs.size],_,_,G,J,d.kept hk,JB t (c.heap.objs.size+1) c.heap.objs.size (Nat.succ_ne_self _) (by rw[sizeLine_eq];omega),⟨⟨_,i⟩,A⟩,λb D=>?_,q⟩;rcases ag.mp D with z|z;rw[z];exact d.fpOk (Nat.le_succ _) (d.hok.fresh (Nat.le_succ _));have z:b=c.heap.objs.size:=by simp_all
 rw[z];exact d.fpOk (ae _) (d.hok.fresh (ae _))
end
theorem uz{K:W.Frag}(Pv:Nat->St->Hp->Prop)(h0:Pv 0 σ H)(hl:∀i σ H,i<=xs.length->Pv i σ H->aE K H a xs)(hs:∀i x σ H p,xs[i]?=some x->Pv i σ H->H p=none->g (.ref p) σ (upd H p (.tup [.int i,x])) λb H2=>tb (D.lp (Pv (i+1))) b H2) (j:∀σ H,Pv xs.length σ H->D.nx σ H):
  cK g tb D σ (rq K a) H:=by
 refine⟨λi m σ H=>m=xs.length-i/\i<=xs.length/\Pv i σ H,⟨xs.length,by simp,be _,h0⟩,?_⟩;rintro i m σ H ⟨rfl,h,p⟩;have q:=hl i σ H h p;by_cases c:i<xs.length;refine .inr ⟨⟨xs,xs[i],q,by simp⟩,Pv (i+1),λf l d=>⟨xs.length-(i+1),by omega,J,c,d⟩,λx l y=>?_⟩;obtain⟨d,n,rfl,hn,rfl,o⟩:=y
 grind
 have e:i=xs.length:=by omega
 subst e;exact .inl ⟨⟨xs,q,ae _⟩,j σ H p⟩
noncomputable def vF(lo:Int)(n:Nat):It:=⟨λi _=>i<n,λi H x H'=>H'=H/\x=.int (lo-i),λi _=>n<=i⟩
theorem JA{K:W.Frag}(c:Y)(lo:Int)(n:Nat):dD P w K tg (vF lo n) [c] c (λi h=>IsRangeIter h c (lo+(i:Nat)*(-1)) ((n:Int)-(i:Nat)) (-1)) where
 mem:=by simp
 obj:=λi h st b f=>by simp_all
 keep:=λi h r st k=>k c (by simp) _ st
 item:=by
  intro X p j q m i a s C H E I g st l;subst p j q;obtain⟨A,z,L,y,x,u⟩:=g c (by simp);refine(Walks.range (I.ok.hd m) c lo (-1) n).item i s _ _ l st λv r D G d F=>?_;obtain⟨t,rfl⟩:=G;have N:Inv X a C H {s with heap:=r,toks:=D}:=I.turned (λb o f e=>F b o (by simp_all) e) A z y x u;refine⟨_,J,dX d J J (by rfl) ⟨.int (lo-i),H,N,⟨t,?_⟩,⟨J,J⟩,d,λb f=>(g b f).1⟩⟩
  grind
 done:=by intro X p j q m i a s C H E I g st l;subst p j q;obtain⟨A,z,L,y,x,u⟩:=g c (by simp);exact wpAny_pyNext_range_end (I.ok.hd m) st (by have:n<=i:=l;omega) λr M=>⟨J,I.turned (λb o f e=>M b o f e) A z y x u⟩
 self:=λ_ _ _ _ _ st h=>wpAny_pyIter_rangeiter st h
section
inductive iF(R:It->Hp->Prop)(vs:List V)(H1:Hp):Prop|mk:∀n:Nat,vs=[.int ((n:Int)-1),.int (-1),.int (-1)]->(n:Int)<2^62->R (vF ((n:Int)-1) n) H1->iF R vs H1
def C9(ta:TA):TI:=λσ H R=>ta σ H λvs H1=>iF R vs H1
theorem F5 {a b c:Expr} {p:Pos} (E:Gl X "range") (D:X.mg "range"=none) (G:PA X [a,b,c] ta) (hs:starEach [a,b,c] X.env=[(false,eval a X.env),(false,eval b X.env),(false,eval c X.env)]:=by rfl)
  (g:starEach [b,c] X.env=[(false,eval b X.env),(false,eval c X.env)]:=by rfl):
  PI X tg (.Call (.Name "range" p) [a,b,c] [] aD) (C9 ta):=by
 intro d s u H R I h;refine Call_ (Ym I E D boot_range (PyProof.Rows.callWith_type1 (aF (G aD d s u H _ I h) λP j ⟨N,w,M,z,C⟩=>?_) (by rw[hs,g]) (by rw[g];rfl)));obtain⟨n,e,hn,q⟩:=C;subst e;cases z with| cons r f=>
   cases f with| cons A f=>
     cases f with| cons l f=>
       cases f;obtain⟨t,rfl⟩:=r;obtain⟨x,rfl⟩:=A;obtain⟨i,rfl⟩:=l;refine call_range_3 (by decide) ?_ (.inl (PyProof.noPylong_small (by omega)));have v:Builtin.Range.rangeSize (n-1) (-1) (-1)=n:=by
        unfold Builtin.Range.rangeSize
        grind
       have y:Builtin.Range.small (n-1) (-1) (-1)=true:=by
        unfold Builtin.Range.small;simp only[v,Builtin.Range.rangeFitsLong,cg,Bool.or_eq_true,decide_eq_true_eq,beq_iff_eq]
        grind
       refine wpAny_pyIter_range (IsRange.new ..) y ?_;rw[v];have m:Inv X d u w {j with heap:=j.heap.push {cls:=.type "range",data:=.fields #[.int (n-1) t,.int (-1) x,.int (-1) i]},toks:=j.toks}:=M.kept λb o e=>aj _ e;refine⟨_,[_],_,_,w,J,m.kept λb o e=>aj _ e,JA _ (n-1) n,?_,λb F=>?_,q⟩;have L:n-1+((0:Nat):Int)*(-1)=n-1:=by omega
       have K:n-((0:Nat):Int)=n:=by omega
       rw[L,K];exact bf _ J;have e:=ak.mp F;rw[e];exact m.fpOk (ae _) (m.hok.fresh (ae _))
end
theorem Gh{n:Nat}(Pv:Nat->St->Hp->Prop)(h0:Pv 0 σ H)(hs:∀i σ H,i<n->Pv i σ H->g (.int (lo-i)) σ H λb H2=>tb (D.lp (Pv (i+1))) b H2) (f:∀σ H,Pv n σ H->D.nx σ H):
  cK g tb D σ (vF lo n) H:=by
 refine⟨λi m σ H=>m=n-i/\i<=n/\Pv i σ H,⟨n,by simp,be _,h0⟩,?_⟩;rintro i m σ H ⟨rfl,j,p⟩;by_cases a:i<n;refine .inr ⟨a,Pv (i+1),λc h d=>⟨n-(i+1),by omega,J,a,d⟩,λx h y=>?_⟩;obtain⟨e,y⟩:=y
 simp_all
 have e:i=n:=by omega
 subst e;exact .inl ⟨ae _,f σ H p⟩
theorem Ya:entryFor table "dict.update.loop"=some Builtin.«dict.update.loop»:=entryFor_of_tree (by kernel_rfl)
theorem qe:plainId "dict.update.loop"=true:=by decide+kernel
theorem Iz:typeLookup (.type "tuple") "keys"=pure none:=am_miss_of_fast (by decide+kernel)
section
set_option maxRecDepth 8000 in
theorem Ml{xs:Array Value}{k:Nat}{u:Tok}(hx:s.heap.get? a=some {cls:=.type "tuple",dict:=none,data:=.seq xs k,slots:=sl})(hA:A.handled=none)
  (h:∀h' tk e,Heap.NewExcOf s.heap h' e "AttributeError"->E (.ref e) {s with heap:=h',toks:=tk}):wpAny (model prog w) A (getAttrBy (.ref a) (.str "keys" u) false) Q E s:=by
 obtain⟨hp,g,d,tk,os⟩:=s;have hT:∀tk',(⟨hp,g,d,tk',os⟩:Shared).TypeIs (.ref a) "tuple":=λ_=>⟨_,hx,rfl⟩
 have f1:=sub_AttributeError;have f3:=PySem.F.slot_tuple_getattribute.lookup;have f4:=PySem.F.slot_tuple_getattribute.bind (.ref a);have f5:=am_tuple_getattr_none;unfold getAttrBy
 repeat(any_goals (first|assumption|exact hT _|((with_reducible show wpAny _ _ (call (Value.builtin "tuple.__getattribute__") _ _) _ _ _);refine call_meets PySem.F.slot_tuple_getattribute (hT _) am_entry_tuple_getattribute (PySem.F.args_tuple_getattribute_2 _ _) (meets_getattribute_miss_tuple a xs k sl "keys" _ Iz (by decide+kernel) (by size_fits)) ⟨hx,hA,λh' tk' e hx'=>?_⟩)|wp_step))
 obtain⟨t',u',he⟩:=hx'.there;show wpAny _ _ (getattributeRaised _ _ _ _ _ _ _) _ _ _;unfold getattributeRaised
 repeat(any_goals (first|assumption|wp_step))
 exact h _ _ _ hx'.of
theorem Lo{xs:Array I}{k:Nat}{Q:Option I->Shared->Prop}(d:s.heap.get? a=some {cls:=.type "tuple",dict:=none,data:=.seq xs k,slots:=sl})(i:A.handled=none)
  (h:∀h' tk,(∀b o,s.heap.get? b=some o->h'.get? b=some o)->Q none {s with heap:=h',toks:=tk}):wpAny (model prog w) A (getAttr? (.ref a) "keys") Q E s:=by unfold getAttr? getAttrBy?;refine a4 (wpAny_mkText ?_);refine a4 (wpAny_attempt (Ml d i λh' tk e x=>?_));obtain⟨c,r,f,g,_⟩:=x.there;refine a4 (di ⟨_,f,g⟩ sub_AttributeError ?_);exact a9 (h _ _ x.keeps)
end
section
inductive io(xs:List V)(H:Hp)(Q:VK):Prop|mk:∀(a:Addr),xs=[.ref a]->H a=some (.tup [])->(∀p,H p=none->Q (.ref p) (upd H p (.dK [])))->io xs H Q
theorem JS(F:X.calm=true):jj X (.type "dict") io:=by
 intro t s W H Z us Q I r h;obtain⟨a,rfl,G,q⟩:=h;obtain⟨u,rfl,y⟩:=ql r;cases y;obtain⟨hz,E,A,⟨⟨cc,cd,U,S⟩,x,M,n,L⟩,D⟩:=(I.hok a _ G)
 have K:=D _ x;subst M L K;cases A;have w:=I.ok.hd F;refine callType_codes (Q₁:=λi d=>i=.ref s.heap.objs.size/\d={s with heap:=s.heap.push {cls:=.type "dict",data:=.dict #[]}}) PySem.F.kt_called_dict (PySem.F.kt_typeCall_dict_1 _) PySem.F.entry_dict_init (kt_code_dict_new _ ⟨J,J⟩) ?_;rintro i d ⟨rfl,rfl⟩;have c:(s.heap.push {cls:=.type "dict",data:=.dict #[]}).DictOf (zy X.prog X.w) s.heap.objs.size []:=Heap.DictOf.new s.heap;have f:=aj {cls:=.type "dict",data:=.dict #[]} x;refine⟨c.typeIs,PySem.F.args_dict_init_2 _ _,?_⟩;unfold Builtin.«dict.__init__»;refine a4 ?_;unfold Builtin.Dict.selfAndRest;refine a4 (wpAny_notOrdered_dict c.typeIs (a9 ?_));show wpAny _ _ (Builtin.Dict.updateFrom "dict.__init__" s.heap.objs.size (.ref a) [] .none) _ _ _;unfold Builtin.Dict.updateFrom;refine a4 (wpAny_typeOf ⟨_,f,J⟩ ?_);rw[if_pos (by decide)];refine a4 (Lo f w λg tk hk=>?_);simp only[Option.isNone_none,if_true];refine a4 (wpAny_rule ?_);have j:g.IsTuple a #[]:=⟨_,hk _ _ f,J,n,J⟩
 refine a4 (wpAny_pyIter_tuple j (a9 ⟨plainId_quiet qe _,codeAny_builtin Ya ?_⟩));obtain⟨o,N,P,v,C⟩:=c;have m:=aq (hk _ _ v);rw[Around.under_plainId qe _];refine a4 (wpAny_pyNext_tuple_end w ⟨_,bf _ J,J,J⟩ (j.push _) J λh' R=>a4 (a9 (a9 ⟨J,?_⟩)));have p:=λb o l e=>R b o (az l) (aj _ e);have keep:=λb o e=>p b o (Nat.lt_trans (aq e) m) (hk _ _ (aj _ e));obtain⟨_,z,_⟩:=uv (P:=X.prog) (w:=X.w) (H:=H) s.heap I.big;exact⟨.ref s.heap.objs.size,_,I.laid keep (ae _) (sO (be _) z .nil ⟨o,N,P,p _ _ m (hk _ _ v),C⟩),J,q _ (I.hok.fresh (ae _))⟩
end
noncomputable def rg(x:Str):It:=⟨λi _=>i<x.cps.size,λi H v H'=>H'=H/\∃c,x.cps[i]?=some c/\v=.str ⟨#[c]⟩,λi _=>x.cps.size<=i⟩
theorem HQ{K:W.Frag}{q:String}(a:Y)(x:Str)(t:Tok)(n:q="str_ascii_iterator"\/q="str_iterator"):dD P w K tg (rg x) [a] a (λi h=>i<=x.cps.size/\h.IsStrIter a q x t i) where
 mem:=by simp
 obj:=λi h st b D=>by
  have e:b=a:=by simp_all
  subst e;obtain⟨_,o,e,c,d⟩:=st
  simp_all
 keep:=λi h g st k=>by obtain⟨z,o,e,r⟩:=st;exact⟨z,o,k a (by simp) o e,r⟩
 item:=by
  intro X Z S hK C i j s R H E I F st p;subst Z S hK;obtain⟨z,st⟩:=st;obtain⟨Q,N,f2,M,L,G⟩:=F a (by simp);have fin:∀(g:Heap)(l:Nat)(v:Value),SignAt x i v->g.IsStrIter a q x t (i+1)->(∀b o,b ∉ [a]->s.heap.get? b=some o->g.get? b=some o)->
    ∃u,some v=some u/\wpAny (model X.prog X.w) X.A (letOwnedTupleGo tg (.ref a) u) (λ_ s2=>∃y H',Inv X j R H' s2/\ym y u/\(rg x).yld i H y H'/\(i+1<=x.cps.size/\s2.heap.IsStrIter a q x t (i+1))/\∀b∈[a],H' b=none) E {s with heap:=g,toks:=l}:=by intro g l v A f m;obtain⟨c,u,U,rfl⟩:=A;have I1:Inv X j R H {s with heap:=g,toks:=l}:=I.turned (λb o D e=>m b o (by simp_all) e) Q N M L G;obtain⟨o,e1,e2,e3⟩:=id f;refine⟨_,J,dX e1 e2 e3 (by grind) ⟨.str ⟨#[c]⟩,H,I1,⟨u,J⟩,⟨J,c,U,J⟩,⟨p,f⟩,λb D=>(F b D).1⟩⟩
  rcases n with rfl|rfl;exact(Walks.strAscii (I.ok.hd C) a x t).item i s _ _ p st λv g l A f m=>fin g l v A f m;exact(Walks.strWide (I.ok.hd C) a x t).item i s _ _ p st λv g l A f m=>fin g l v A f m
 done:=by
  intro X Z S hK C i j s R H E I F st p;subst Z S hK;obtain⟨z,st⟩:=st;have p:x.cps.size<=i:=p;have e:i=x.cps.size:=by omega
  subst e;obtain⟨Q,N,f2,M,L,G⟩:=F a (by simp);rcases n with rfl|rfl;exact(Walks.strAscii (I.ok.hd C) a x t).done s _ _ st λg l m=>⟨J,I.turned (λb o D e=>m b o (by simp_all) e) Q N M L G⟩
  exact(Walks.strWide (I.ok.hd C) a x t).done s _ _ st λg l m=>⟨J,I.turned (λb o D e=>m b o (by simp_all) e) Q N M L G⟩
 self:=λ_ _ _ _ _ st h=>by rcases n with rfl|rfl;exact wpAny_pyIter_striter_ascii st.2 h;exact wpAny_pyIter_striter_wide st.2 h
section
inductive le(R:It->Hp->Prop)(v:V)(H1:Hp):Prop|mk:∀x,v=.str x->R (rg x) H1->le R v H1
def CJ(G:TE):TI:=λσ H R=>G σ H λv H1=>le R v H1
theorem xZ{l:Expr}{j:TE}(hl:PE X l j):PI X tg l (CJ j):=by
 intro a s i H R I h;refine aF (hl a s i H _ I h) λv c ⟨x,u,g,p,r⟩=>?_;obtain⟨y,e,q⟩:=r;subst e;obtain⟨t,rfl⟩:=p;have m:∀d,(d="str_ascii_iterator"\/d="str_iterator")->qY X a i tg R (.ref c.heap.objs.size) {c with heap:=c.heap.push {cls:=.type d,data:=.fields #[.str y t,.int 0 0]}}:=λd f=>by
  refine⟨c.heap.objs.size,[c.heap.objs.size],_,_,u,J,g.kept λb o e=>aj _ e,HQ _ y t f,⟨be _,_,bf _ J,J,J⟩,λb w=>?_,q⟩;have e:b=c.heap.objs.size:=by simp_all
  subst e;exact g.fpOk (ae _) (g.hok.fresh (ae _))
 cases n:y.cps.all (· <128);exact wpAny_pyIter_wide n (m _ (.inr J));exact wpAny_pyIter_ascii n (m _ (.inl J))
end
section
variable{K:W.Frag}{k:Nat}{Q:VK}
theorem nX(Pv:Nat->O V->Hp->Prop)(h0:Pv 0 [] H)(hl:∀i ys H,i<=xs.length->Pv i ys H->aE K H a xs/\ys.length<=sizeLine)(hs:∀i x ys H,xs[i]?=some x->Pv i ys H->g x (bQ k cap σ) H λc H2=>tc c H2 λb h=>if b=true then te c h λy r=>Pv (i+1) (ys++[y]) r else Pv (i+1) ys h)
  (o:∀ys H,Pv xs.length ys H->∀p,H p=none->Q (.ref p) (upd H p (.lst ys))):bX (nD K a) g tc te k cap σ H Q:=by
 refine⟨λi m ys H=>m=xs.length-i/\i<=xs.length/\Pv i ys H,⟨xs.length,by simp,be _,h0⟩,?_⟩;rintro i m ys H ⟨rfl,n,p⟩;obtain⟨q,f⟩:=hl i ys H n p;by_cases d:i<xs.length;refine .inr ⟨⟨xs,xs[i],q,by simp⟩,f,Pv (i+1),λj s l=>⟨xs.length-(i+1),by omega,J,d,l⟩,λx s y=>?_⟩;obtain⟨e,y⟩:=y
 grind
 have e:i=xs.length:=by omega
 subst e;exact .inl ⟨⟨xs,q,ae _⟩,f,o ys H p⟩
theorem Zy(Pv:Nat->O V->Hp->Prop)(h0:Pv 0 [] H)(hl:∀i ys H,i<=xs.length->Pv i ys H->aG K H a xs/\ys.length<=sizeLine)(hs:∀i x ys H,xs[i]?=some x->Pv i ys H->g x (bQ k cap σ) H λc H2=>tc c H2 λb h=>if b=true then te c h λy r=>Pv (i+1) (ys++[y]) r else Pv (i+1) ys h)
  (o:∀ys H,Pv xs.length ys H->∀p,H p=none->Q (.ref p) (upd H p (.lst ys))):bX (rj K a) g tc te k cap σ H Q:=by
 refine⟨λi m ys H=>m=xs.length-i/\i<=xs.length/\Pv i ys H,⟨xs.length,by simp,be _,h0⟩,?_⟩;rintro i m ys H ⟨rfl,n,p⟩;obtain⟨q,f⟩:=hl i ys H n p;by_cases d:i<xs.length;refine .inr ⟨⟨xs,xs[i],q,by simp[d]⟩,f,Pv (i+1),λj s l=>⟨xs.length-(i+1),by omega,J,d,l⟩,λx s y=>?_⟩;obtain⟨e,y⟩:=y;subst e;exact hs i x ys _ (y xs q) p;have e:i=xs.length:=by omega
 subst e;exact .inl ⟨⟨xs,q,ae _⟩,f,o ys H p⟩
theorem jq{n:Nat}(Pv:Nat->O V->Hp->Prop)(h0:Pv 0 [] H)(hl:∀i ys H,i<=n->Pv i ys H->ys.length<=sizeLine)(hs:∀i ys H,i<n->Pv i ys H->g (.int (lo+i)) (bQ k cap σ) H λa H2=>tc a H2 λb f=>if b=true then te a f λy q=>Pv (i+1) (ys++[y]) q else Pv (i+1) ys f)
  (o:∀ys H,Pv n ys H->∀p,H p=none->Q (.ref p) (upd H p (.lst ys))):bX (pr lo n) g tc te k cap σ H Q:=by
 refine⟨λi m ys H=>m=n-i/\i<=n/\Pv i ys H,⟨n,by simp,be _,h0⟩,?_⟩;rintro i m ys H ⟨rfl,l,p⟩;have d:=hl i ys H l p;by_cases c:i<n;refine .inr ⟨c,d,Pv (i+1),λh r j=>⟨n-(i+1),by omega,J,c,j⟩,λx r y=>?_⟩;obtain⟨e,y⟩:=y
 simp_all
 have e:i=n:=by omega
 subst e;exact .inl ⟨ae _,d,o ys H p⟩
theorem xV(Pv:Nat->O V->Hp->Prop)(h0:Pv 0 [] H)(hl:∀i ys H,i<=x.cps.size->Pv i ys H->ys.length<=sizeLine)(hs:∀i c ys H,x.cps[i]?=some c->Pv i ys H->g (.str ⟨#[c]⟩) (bQ k cap σ) H λa H2=>tc a H2 λb h=>if b=true then te a h λy q=>Pv (i+1) (ys++[y]) q else Pv (i+1) ys h)
  (o:∀ys H,Pv x.cps.size ys H->∀p,H p=none->Q (.ref p) (upd H p (.lst ys))):bX (rg x) g tc te k cap σ H Q:=by
 refine⟨λi m ys H=>m=x.cps.size-i/\i<=x.cps.size/\Pv i ys H,⟨x.cps.size,by simp,be _,h0⟩,?_⟩;rintro i m ys H ⟨rfl,n,p⟩;have f:=hl i ys H n p;by_cases d:i<x.cps.size;refine .inr ⟨d,f,Pv (i+1),λj r l=>⟨x.cps.size-(i+1),by omega,J,d,l⟩,λv r y=>?_⟩;obtain⟨e,c,s,rfl⟩:=y
 simp_all
 have e:i=x.cps.size:=by omega
 subst e;exact .inl ⟨ae _,f,o ys H p⟩
end
inductive T where|non|bl (b:Bool)|int (i:Int)|str (x:Str)|tup (ts:List T)|lst (ts:List T)|dct
inductive vG(H:Hp)(f:List V->HO)(L:List V->Prop)(v:V):Prop|mk:∀a xs,v=.ref a->H a=some (f xs)->L xs->vG H f L v
inductive Cw(A:V->Prop)(L:List V->Prop)(xs:List V):Prop|mk:∀v vs,xs=v::vs->A v->L vs->Cw A L xs
mutual
noncomputable def Is(H:Hp):T->V->Prop|.non,v=>v=.non|.bl b,v=>v=.bl b|.int i,v=>v=.int i|.str x,v=>v=.str x|.tup ts,v=>vG H .tup (λxs=>IsL H ts xs) v|.lst ts,v=>vG H .lst (λxs=>IsL H ts xs) v|.dct,v=>∃a,v=.ref a/\H a=some (.dK [])
noncomputable def IsL(H:Hp):List T->List V->Prop|[],xs=>xs=[]|t::ts,xs=>Cw (λv=>Is H t v) (λvs=>IsL H ts vs) xs
end
variable{p:Addr}{kvs:List (aJ×V)}{ts:List T}{o:Obj}{v:V}
def yu(H G:Hp):Prop:=∀b xs,H b=some (.tup xs)->G b=some (.tup xs)
theorem Same.tups(s:Same H H'):yu H H':=λb a e=>s b _ e
theorem yu.refl(H:Hp):yu H H:=λ_ _ e=>e
theorem yu.trans{f:Hp}(a:yu H f)(b:yu f H2):yu H H2:=λc d e=>b c d (a c d e)
theorem Same.new(h:H p=none)(o:HO):Same H (upd H p o):=λb u q=>by rw[upd_ne (zj q h)];exact q
theorem yu.upd{H:Hp}{p:Y}{o a:HO}(h:H p=some o)(c:∀xs,o≠ .tup xs):yu H (upd H p a):=λb xs e=>by rw[upd_ne (Y8 e h (λz=>c xs z.symm))];exact e
mutual
theorem Is.mono{H H':Hp}(s:Same H H'):∀{t:T}{v:V},Is H t v->Is H' t v|.non,v,h=>h|.bl b,v,h=>h|.int i,v,h=>h|.str x,v,h=>h| .tup ts,v,h=>by obtain⟨a,xs,e,ha,hl⟩:=h;exact⟨a,xs,e,s a _ ha,IsL.mono s hl⟩| .lst ts,v,h=>by obtain⟨a,xs,e,ha,hl⟩:=h;exact⟨a,xs,e,s a _ ha,IsL.mono s hl⟩| .dct,v,h=>by obtain⟨a,e,ha⟩:=h;exact⟨a,e,s a _ ha⟩
theorem IsL.mono{H H':Hp}(s:Same H H'):∀{ts:List T}{xs:List V},IsL H ts xs->IsL H' ts xs|[],xs,h=>h| t::ts,xs,h=>by obtain⟨v,vs,e,h1,h2⟩:=h;exact⟨v,vs,e,Is.mono s h1,IsL.mono s h2⟩
end
mutual
noncomputable def dQ:T->Prop|.tup ts=>qt ts|.lst _=>False|.dct=>False|_=>True
noncomputable def qt:List T->Prop|[]=>True|t::ts=>dQ t/\qt ts
end
mutual
theorem Is.tups{H H':Hp}(s:yu H H'):∀{t:T}{v:V},dQ t->Is H t v->Is H' t v
 |.non,v,_,h=>h
 |.bl b,v,_,h=>h
 |.int i,v,_,h=>h
 |.str x,v,_,h=>h
 | .tup ts,v,f,h=>by
   obtain⟨a,xs,e,ha,hl⟩:=h;have f:qt ts:=by unfold dQ at f;exact f
   exact⟨a,xs,e,s a _ ha,IsL.tups s f hl⟩
 |.lst ts,v,f,h=>by unfold dQ at f;exact f.elim
 |.dct,v,f,h=>by unfold dQ at f;exact f.elim
theorem IsL.tups{H H':Hp}(s:yu H H'):∀{ts:List T}{xs:List V},qt ts->IsL H ts xs->IsL H' ts xs
 |[],xs,_,h=>h
 | t::ts,xs,f,h=>by
   obtain⟨v,vs,e,h1,h2⟩:=h;have f:dQ t/\qt ts:=by unfold qt at f;exact f
   exact⟨v,vs,e,Is.tups s f.1 h1,IsL.tups s f.2 h2⟩
end
theorem qt.all:qt ts↔∀t∈ts,dQ t:=by induction ts with|nil=>simp[qt]|cons t ts a=>simp[qt,a]
theorem IsL.length{H:Hp}:∀{a:List T}{xs:List V},IsL H a xs->xs.length=a.length|[],xs,h=>by cases h;rfl| t::a,xs,h=>by obtain⟨v,c,rfl,_,b⟩:=h;simp[IsL.length b]
theorem IsL.get{H:Hp}:∀{a:List T}{xs:List V}{i:Nat}{t:T},IsL H a xs->a[i]?=some t->∃v,xs[i]?=some v/\Is H t v|[],_,_,_,_,e=>by simp at e| t ::a,xs,i,j,h,e=>by obtain⟨v,g,rfl,c,b⟩:=h;cases i with|zero=>simp at e;subst e;exact⟨v,J,c⟩| succ i=>obtain⟨w,f,d⟩:=IsL.get b (by simpa using e);exact⟨w,by simpa using f,d⟩
theorem IsL.get'(h:IsL H ts xs)(e:xs[i]?=some v):∃t,ts[i]?=some t/\Is H t v:=by
 have d:=h.length;have a:i<ts.length:=by have:=(ci.mp e).1;omega
 obtain⟨w,b,c⟩:=h.get (bo a);rw[e]at b;cases b;exact⟨_,bo a,c⟩
theorem IsL.append{H:Hp}:∀{b us:List T}{xs a:List V},IsL H b xs->IsL H us a->IsL H (b++us) (xs++a)|[],us,xs,a,h,k=>by cases h;exact k| t::b,us,xs,a,h,k=>by obtain⟨v,c,rfl,e,d⟩:=h;exact⟨v,c++a,J,e,IsL.append d k⟩
theorem IsL.drop{H:Hp}:∀{a:List T}{xs:List V}(n:Nat),IsL H a xs->IsL H (a.drop n) (xs.drop n)|a,xs,0,h=>h|[],xs,n+1,h=>by cases h;exact rfl| t::a,xs,n+1,h=>by obtain⟨v,c,rfl,d,b⟩:=h;exact IsL.drop n b
theorem IsL.take{H:Hp}:∀{a:List T}{xs:List V}(n:Nat),IsL H a xs->IsL H (a.take n) (xs.take n)|a,xs,0,h=>rfl|[],xs,n+1,h=>by cases h;exact rfl| t::a,xs,n+1,h=>by obtain⟨v,b,rfl,d,c⟩:=h;exact⟨v,b.take n,J,d,IsL.take n c⟩
theorem IsL.one{t:T}(h:Is H t v):IsL H [t] [v]:=⟨v,[],J,h,J⟩
theorem IsL.two{t u:T}{w:V}(h:Is H t v)(k:Is H u w):IsL H [t,u] [v,w]:=⟨v,[w],J,h,w,[],J,k,J⟩
noncomputable def nZ:T->String|.non=>"NoneType"|.bl _=>"bool"|.int _=>"int"|.str _=>"str"|.tup _=>"tuple"|.lst _=>"list"|.dct=>"dict"
theorem Is.ty{K:W.Frag}{t:T}(h:Is H t v):cQ K H v (.type (nZ t)):=by cases t with|non=>cases(h);exact .non|bl b=>cases(h);exact .bl b|int i=>cases(h);exact .int i|str x=>cases(h);exact .str x|tup e=>obtain⟨a,d,rfl,c,_⟩:=h;exact .tup c|lst e=>obtain⟨a,d,rfl,c,_⟩:=h;exact .lst c|dct=>obtain⟨a,rfl,c⟩:=h;exact .dK c
noncomputable def vM:T->Bool|.int _=>true|.bl _=>true|_=>false
noncomputable def Ca:T->Bool|.bl _=>true|_=>false
noncomputable def De:T->Bool|.tup _=>true|_=>false
noncomputable def Dd:T->Bool|.str _=>true|_=>false
theorem FF(K:W.Frag)(t:T):W.kitOne K (.type (nZ t)) (.type "int")=some (vM t):=by cases t<;>kernel_rfl
theorem Gq(K:W.Frag)(t:T):W.kitOne K (.type (nZ t)) (.type "bool")=some (Ca t):=by cases t<;>kernel_rfl
theorem BO(K:W.Frag)(t:T):W.kitOne K (.type (nZ t)) (.type "tuple")=some (De t):=by cases t<;>kernel_rfl
theorem J2(K:W.Frag)(t:T):W.kitOne K (.type (nZ t)) (.type "str")=some (Dd t):=by cases t<;>kernel_rfl
def mS:HO->Prop|.dK _=>True|.dT _=>True|_=>False
section
variable{d:Addr}{u u':HO}
theorem Inv.retag(I:Inv X pins σ H s)(e:H d=some u)(h:∀xs,u≠ .tup xs)(m:∀x,u≠ .own x)(l:∀ps,u≠ .tbl ps)(D:∀o v,X.H₀ d≠some (.frz o v))(ok:va X.prog X.w (upd H d u') s.heap d u'):Inv X pins σ (upd H d u') s:=by
 have a:∀{b},H b=none->b≠d:=λz q=>by simp_all
 refine⟨I.ok,I.os,I.bare,⟨I.base.keep,I.base.slot,λb f q n r=>?_,I.base.there,λb xs q=>?_,λb f v q=>?_,λb ps q=>?_⟩,I.loc,I.cell,?_,λx c q=>?_,λp t=>?_,λb f q=>?_,I.len⟩;have z:=I.base.free b f q n r;rw[upd_ne (a z)];exact z;have z:=I.base.tups b xs q;rw[upd_ne (Y8 z e (λw=>h xs w.symm))];exact z;have z:=I.base.frzs b f v q;have j:b≠d:=λw=>by simp_all
 rw[upd_ne j];exact z;obtain⟨g,z⟩:=I.base.tbls b ps q;exact⟨g,by rw[upd_ne (Y8 z e (λw=>l _ w.symm))];exact z⟩;rw[upd_ne (a I.free)];exact I.free;rw[upd_ne (a (I.freeC x c q))];exact I.freeC x c q;obtain⟨C,A,y⟩:=I.pin p t;exact⟨C,by rw[upd_ne (a A)];omega,y⟩;by_cases i:b=d;subst i;rw[zd]at q;simp_all;rw[upd_ne i]at q;exact(I.hok b f q).stay (λ_ _ _ z=>z) (λc z=>by rw[upd_ne (Y8 z e (λw=>m _ w.symm))];exact z) λc xs z=>by rw[upd_ne (Y8 z e (λw=>h _ w.symm))];exact z
theorem mS.no(h:mS u):(∀xs,u≠ .tup xs)/\(∀x,u≠ .own x)/\(∀ps,u≠ .tbl ps)/\∀o v,u≠ .frz o v:=by cases u<;>first|exact h.elim|exact⟨(λ_ z=>by cases z),(λ_ z=>by cases z),(λ_ z=>by cases z),λ_ _ z=>by cases z⟩
theorem Inv.nofrz(I:Inv X pins σ H s)(e:H d=some u)(h:mS u):∀o v,X.H₀ d≠some (.frz o v):=λo v q=>by have z:=I.base.frzs d o v q;rw[e]at z;cases z;exact h.no.2.2.2 _ _ J
theorem Inv.freeze(I:Inv X pins σ H s)(e:H d=some u)(h:mS u):∃o,Inv X pins σ (upd H d (.frz o u)) s:=by
 obtain⟨g,f,i,l⟩:=h.no;have ok:=I.hok d u e;have a:∃o,s.heap.get? d=some o:=by cases u<;>first|exact h.elim|(obtain⟨_,_,_,_,o,_,_,b,_⟩:=ok;exact⟨o,b⟩)
 obtain⟨o,b⟩:=a;refine⟨o,I.retag e g f i (I.nofrz e h) ⟨b,ok.stay (λ_ _ _ z=>z) (λc z=>?_) λc j z=>?_⟩⟩;rw[upd_ne (Y8 z e (λw=>f _ w.symm))];exact z;rw[upd_ne (Y8 z e (λw=>g _ w.symm))];exact z
theorem Inv.thaw(I:Inv X pins σ H s)(e:H d=some (.frz o u))(a:∀o v,X.H₀ d≠some (.frz o v)):Inv X pins σ (upd H d u) s:=by refine I.retag e (λ_ z=>by cases z) (λ_ z=>by cases z) (λ_ z=>by cases z) a ?_;obtain⟨_,ok⟩:=I.hok d _ e;refine ok.stay (λ_ _ _ z=>z) (λc z=>?_) λc b z=>?_;rw[upd_ne (Y8 z e (λw=>by cases w))];exact z;rw[upd_ne (Y8 z e (λw=>by cases w))];exact z
end
noncomputable def DC(d:Addr)(o:Obj)(u:HO)(D:Ends):Ends where
 nx:=λσ H=>H d=some (.frz o u)/\D.nx σ (upd H d u)
 rt:=λv H=>H d=some (.frz o u)/\D.rt v (upd H d u)
 bk:=λσ H=>H d=some (.frz o u)/\D.bk σ (upd H d u)
 ct:=λσ H=>H d=some (.frz o u)/\D.ct σ (upd H d u)
inductive om(ts:TS)(D:Ends)(σ:St)(H:Hp):Prop|mk:∀d u,H d=some u->mS u->(∀o,ts (DC d o u D) σ (upd H d (.frz o u)))->om ts D σ H
inductive og(te:TE)(σ:St)(H:Hp)(Q:VK):Prop|mk:∀d u,H d=some u->mS u->(∀o,te σ (upd H d (.frz o u)) λv H'=>H' d=some (.frz o u)/\Q v (upd H' d u))->og te σ H Q
section
theorem tH{l:TS}(h:PS X st l):PS X st (om l):=by intro c s n H D I p;obtain⟨d,u,e,m,q⟩:=p;obtain⟨o,t⟩:=I.freeze e m;have g:=I.nofrz e m;refine aF (h c s n _ _ t (q o)) λf w i=>?_;cases f with|next=>obtain⟨a,j,J,b,k⟩:=i;exact⟨a,_,J.thaw b g,k⟩|brk=>obtain⟨a,j,J,b,k⟩:=i;exact⟨a,_,J.thaw b g,k⟩|cont=>obtain⟨a,j,J,b,k⟩:=i;exact⟨a,_,J.thaw b g,k⟩|ret v=>obtain⟨x,a,j,J,r,b,k⟩:=i;exact⟨x,a,_,J.thaw b g,r,k⟩
theorem qD{e:Expr}(h:PE X e te):PE X e (og te):=by intro a s c H Q I g;obtain⟨d,u,e,b,q⟩:=g;obtain⟨o,j⟩:=I.freeze e b;have f:=I.nofrz e b;exact aF (h a s c _ _ j (q o)) λv l ⟨x,m,J,r,i,k⟩=>⟨x,_,J.thaw i f,r,k⟩
end
section
end
section
variable{d:Addr}{k:Nat}{Q:VK}
end
theorem Js:∀{xs:List V}{us:List Value},xs.length=us.length->(∀(j:Nat) x u,xs[j]?=some x->us[j]?=some u->ym x u)->yn xs us|[],[],_,_=>.nil|x::xs,u::us,a,h=>.cons (h 0 x u J J) (Js (by simp_all) λj y v c b=>h (j+1) y v (by simp_all) (by simp_all))|[],_::_,a,_=>by grind|_::_,[],a,_=>by grind
section
end
noncomputable def off(S:Addr->Prop)(H:Hp):Hp:=λb=>@ite _ (S b) (Classical.propDecidable _) none (H b)
theorem Jx{S:Y->Prop}{b:Y}{o:HO}:off S H b=some o↔¬S b/\H b=some o:=by unfold off;simp
theorem GK{S:Y->Prop}(s:Same H H'):Same (off S H) (off S H'):=λb o e=>by rw[Jx]at e⊢;exact⟨e.1,s _ _ e.2⟩
theorem EG{S:Y->Prop}:Same (off S H) H:=λb o e=>(Jx.mp e).2
def Sd(S:Addr->Prop)(H:Hp):Prop:=∀b,S b->H b≠none
theorem Fj{S:Y->Prop}{o:HO}(d:Sd S H)(h:H p=none):off S (upd H p o) p=some o:=Jx.mpr ⟨λz=>d p z h,zd⟩
theorem GJ(H:Hp):off (λ_=>False) H=H:=by funext b;unfold off;simp
theorem Is.off{S:Y->Prop}{H:Hp}{t:T}{v:V}(h:Is (off S H) t v):Is H t v:=h.mono EG
theorem Is.off0{t:T}(h:Is H t v):Is (L2.off (λ_=>False) H) t v:=by rw[GJ];exact h
theorem Is.nt{S:Y->Prop}(d:Sd S H)(hp:H p=none)(h:IsL (L2.off S H) ts xs):Is (L2.off S (upd H p (.tup xs))) (.tup ts) (.ref p):=⟨p,xs,J,Fj d hp,IsL.mono (GK (Same.new hp _)) h⟩
end L2
namespace HT
open PySem PyProof.Rows
open PySem.SeqAt
open PySem.AutoSeq1 (wpAny_loadPart')
open PySem.MeetsSeq PySem.MeetsSeq2 PySem.MeetsSeq3
variable{A:Around}{aC:Array Value}{s:Shared}{E Q:Value->Shared->Prop}
section
variable{prog:Program}{w:World}
theorem fO{t d:Y}{j i:I}{lo c:Option Int}(b:IsTup s.heap t aC)(hs:s.heap.IsSliceOf d j i .none)(m:IsPart j lo)(l:IsPart i c)(o:bV aC.size 0 lo=0/\bV aC.size aC.size c=aC.size) (h:Q (.ref t) s):wpAny (model prog w) A (getItem (.ref t) (.ref d)) Q E s:=by
 obtain⟨os,e,f,n⟩:=id hs;have g:s.TypeIs (.ref d) "slice":=⟨os,e,f⟩
 unfold getItem
 try with_reducible refine wpAny_holding ?_
 first|refine a4 (a9 ?_)|skip
 refine a4 (wpAny_sequenceKey b.typeIs (by rfl) ?_);refine a4 (wpAny_callSpecial?_slot b.typeIs PyProof.Rows.slot_tuple_getitem (cf PyProof.Rows.slot_tuple_getitem b.typeIs entry_tuple_getitem ?_ (args_tuple_getitem _ _)))
 show wpAny _ _ (Builtin.Tuple.tupleItemsOf (.ref t)>>=_) _ _ s;refine a4 (tupleItemsOf_ b ?_);refine a4 (wpAny_typeOf g ?_);rw[if_pos (by rfl)];refine a4 (Z6 hs m l ?_);have a:(((bV aC.size 0 lo):Int)==0 && (1:Int)==1 && (bV aC.size aC.size c-bV aC.size 0 lo)==aC.size)=true:=by simp_all
 show wpAny _ _ (if(((bV aC.size 0 lo):Int)==0 && (1)==1 && (bV aC.size aC.size c-bV aC.size 0 lo)==aC.size)=true then _ else _) _ _ s;rw[if_pos a];refine a4 ?_;unfold Builtin.Tuple.tupleIsExact;refine a4 (wpAny_typeOf b.typeIs (a9 ?_));rw[if_pos (by rfl)];exact a4 (wpAny_rule (a9 ⟨_,J,a9 h⟩))
end
end HT
namespace L2
open PySem PySem.Spec PyProof.Rows
variable{L e f:Addr}{A:Around}{vs:Array Value}{X:Cx}{env:Env}{base:Heap}{H H₀:Hp}{pins:List (Addr×Obj)}{outer:List Env}{N:List Str}{oe:Obj}{P:Program}{scope:Scope}{s s₀:Shared}{σ:St}{qual:Str}{mg:Str->Option Value}{Q:Unit->Shared->Prop}{cd:Value}{E Ex:Value->Shared->Prop}{w:World}
section
variable{S:Addr->Prop}
noncomputable def Xh{G:Type}(xs:List G)(lo U:Option Int):List G:=(xs.drop (HT.bV xs.length 0 lo)).take (HT.bV xs.length xs.length U-HT.bV xs.length 0 lo)
theorem xM{a:O T}{xs:O V}(h:IsL H a xs)(lo b:Option Int):IsL H (Xh a lo b) (jG xs lo b):=by unfold Xh jG;rw[h.length];exact IsL.take _ (IsL.drop _ h)
inductive kO(S:Addr->Prop)(x:V)(lo hi:Option Int)(H:Hp)(Q:VK):Prop|mk:∀ts,Is (off S H) (.tup ts) x->Sd S H->(∀v H',Same H H'->Is (off S H') (.tup (Xh ts lo hi)) v->Q v H')->kO S x lo hi H Q
theorem DL:nC X (kO S):=by
 intro c s D H x v F E lo g G Q I n w t o h;obtain⟨m,⟨a,b,rfl,A,l⟩,d,q⟩:=h;have f:=(Jx.mp A).2;have C:=l.length;by_cases j:HT.bV b.length 0 lo=0/\HT.bV b.length b.length g=b.length;cases n;obtain⟨i,r,u,K⟩:=I.tuple (aE.of f);have z:i.toArray.size=b.length:=by rw[cz];exact r.length.symm
 refine⟨"tuple",_,PyProof.Rows.slot_tuple_getitem.lookup,u.typeIs,?_⟩;refine HT.fO u w t o (by simp_all) ⟨.ref a,H,I,J,q _ H (Same.refl H) ?_⟩;have e:Xh m lo g=m:=by unfold Xh;rw[<-C,j.1,j.2,C,List.drop_zero,Nat.sub_zero,cr]
 rw[e];exact⟨a,b,J,A,l⟩;exact Er c s D H (.ref a) v F E lo g G Q I n w t o ⟨a,b,J,aE.of f,j,λp y=>q _ _ (Same.new y _) (Is.nt d y (xM l lo g))⟩
end
section
variable{S:Addr->Prop}{aL:Str->Bool}
theorem wm{n:Nat}(h:n<=1000):n<=sizeLine:=c9 h (by decide)
end
section
variable{M:Model}{T0:Addr}{cls a0:Value}
end
section
variable{K:W.Frag}{E:XK}
end
section
variable{K:W.Frag}{E:XK}
end
structure vA(K:W.Frag)(mg:Str->Option Value)(base:Heap)(x:Str)(C:Addr):Prop where
 cls:OwnCls x C [.type "ValueError",.type "Exception",.type "BaseException",.type "object"] "ValueError.__new__" mg base
 keep:W.keepIn K (.ref C)=true
section
variable{M:Model}{h:Heap}{g:Array GenState}{d:Drawn}{t:Nat}{os:OsState}{Q:Bool->Shared->Prop}
end
section
variable{E:XK}{s':Shared}{e:Value}{R:Shared->Prop}
end
section
end
section
variable{a C:Addr}
end
section
variable{K:W.Frag}
end
end L2
namespace PySem
open Sem (wp)
noncomputable def qn:List Str:=["__class__","__getattribute__","__getattr__","__init__"]
abbrev vE:List Value:=[.type "ValueError",.type "Exception",.type "BaseException",.type "object"]
section
variable{M:Model}{prog:Program}{w:World}{A:Around}{E:Value->Shared->Prop}{h:Heap}{g:Array GenState}{d:Drawn}{t:Nat}{os:OsState}{a:Addr}{o:Obj}{nm q:Str} {C N:Addr} {bs bm:List Value} {hdct:Bool} {sn:List Str} {sub:List Value} {ab:Bool} {col:Option Bool} {dd:Option Addr} {k0 k1 k2 k3 k5:Option Value} {oT:String} {mN:Str->Option Value}
end
section
variable{M:Model}{prog:Program}{w:World}{A:Around}{E:Value->Shared->Prop}{h:Heap}{g:Array GenState}{d:Drawn}{t:Nat}{os:OsState}{a:Addr}{o:Obj}{nm q:Str} {C N:Addr} {bs bm:List Value} {hdct:Bool} {sn:List Str} {sub:List Value} {ab:Bool} {col:Option Bool} {dd:Option Addr} {k0 k1 k2 k3 k5:Option Value} {oT:String} {mN:Str->Option Value}
end
end PySem
namespace L2
open PySem PySem.Spec PyProof.Rows
variable{it:Addr}{A:Around}{its:Array Value}{X:Cx}{H:Hp}{pins:List (Addr×Obj)}{cZ es fY:List Expr}{cap:List Nat}{own:List Str}{i:Nat}{Q:Option Value->Shared->Prop}{aD:Pos}{prog:Program}{s:Shared}{σ:St}{mg:Str->Option Value}{E:Value->Shared->Prop}{w:World}
structure uY(K:W.Frag)(C D:Addr):Prop where
 c:∃nm q N bs hdct sn sub ab col dd k0 k1 k2 k3 k5,K.lookup C=some (excClassObj nm q C N bs (.ref D::vE) hdct sn sub ab col dd k0 k1 k2 k3 k5 "ValueError.__new__")/\W.nsOkIn K N=true/\∀n∈qn,W.nsIn K N n=some none
 d:∃nm q N bs hdct sn sub ab col dd k0 k1 k2 k3 k5,K.lookup D=some (excClassObj nm q D N bs vE hdct sn sub ab col dd k0 k1 k2 k3 k5 "ValueError.__new__")/\W.nsOkIn K N=true/\∀n∈qn,W.nsIn K N n=some none
section
variable{K:W.Frag}{C D:Addr}{base:Heap}{x:Str}
end
section
variable{e cB gm tg:Expr}{t:TE}{scope:Scope}
end
mutual
noncomputable def bO:T->PyData|.non=>.none|.bl b=>.bool b|.int i=>.int i|.str x=>.str x|.tup ts=>.tuple (jk ts)|.lst ts=>.list (jk ts)|.dct=>.dict []
noncomputable def jk:List T->List PyData|[]=>[]|t::r=>bO t::jk r
end
section
mutual
theorem Zk(I:Inv X pins σ H s):∀{t:T}{v:V}{u:Value},(bO t).canLay0=true->Is H t v->ym v u->∃as,Reads s.heap u (bO t) as
 | .non,v,u,_,h,r=>by cases(show v=.non from h);cases(show u=Value.none from r);exact⟨_,by unfold bO;exact .none⟩
 | .bl b,v,u,_,h,r=>by cases(show v=.bl b from h);cases(show u=Value.bool b from r);exact⟨_,by unfold bO;exact .bool b⟩
 | .int i,v,u,_,h,r=>by
   cases(show v=.int i from h);obtain⟨t,rfl⟩:=(show∃t,u=Value.int i t from r)
   exact⟨_,by unfold bO;exact .int i t⟩
 | .str x,v,u,_,h,r=>by
   cases(show v=.str x from h);obtain⟨t,rfl⟩:=(show∃t,u=Value.str x t from r)
   exact⟨_,by unfold bO;exact .str x t⟩
 | .tup ts,v,u,l,h,r=>by obtain⟨a,xs,rfl,ha,hl⟩:=h;cases(show u=Value.ref a from r);obtain⟨its,rv,⟨o,e,c,n,d⟩,_⟩:=I.tuple (aE.of ha);obtain⟨as,ra⟩:=Y1 I (by unfold bO PyData.canLay0 at l;exact l) hl rv;exact⟨_,by unfold bO;exact .tuple e c d (by simpa using ra)⟩
 | .lst ts,v,u,l,h,r=>by obtain⟨a,xs,rfl,ha,hl⟩:=h;cases(show u=Value.ref a from r);obtain⟨its,rv,⟨o,n,e,c,_,d⟩,_⟩:=I.list (aG.of ha);obtain⟨as,ra⟩:=Y1 I (by unfold bO PyData.canLay0 at l;exact l) hl rv;exact⟨_,by unfold bO;exact .list e c d (by simpa using ra)⟩
 |.dct,v,u,l,h,r=>by unfold bO PyData.canLay0 at l;cases l
theorem Y1(I:Inv X pins σ H s):∀{ts:List T}{xs:List V}{us:List Value},PyData.canLayAll0 (jk ts)=true->IsL H ts xs->yn xs us->∃as,ReadsAll s.heap us (jk ts) as| [],xs,us,_,h,r=>by cases(show xs=[]from h);cases r;exact⟨_,by unfold jk;exact .nil⟩| t ::ts,xs,us,l,h,r=>by obtain⟨v,vs,rfl,h1,h2⟩:=h;cases r with| cons r1 r2=>unfold jk PyData.canLayAll0 at l;rw[cg]at l;obtain⟨as,ra⟩:=Zk I l.1 h1 r1;obtain⟨bs,rb⟩:=Y1 I l.2 h2 r2;exact⟨_,by unfold jk;exact .cons ra rb⟩
end
end
inductive uF(f:Bool->Bool)(x y:V)(H:Hp)(Q:VK):Prop|mk:∀t u,Is H t x->Is H u y->(bO t).canLay0=true->(bO u).canLay0=true->(bO t).depth<=20->Q (.bl (f (PyData.eqv (bO t) (bO u)))) H->uF f x y H Q
section
theorem Fv(o:X.A.units+64<cLine):cI X (compareOp .NotEq) (uF (!·)):=by intro a s m H x y v u Q I f e h;obtain⟨t,n,l,j,c,b,d,q⟩:=h;obtain⟨as,i⟩:=Zk I c l f;obtain⟨p,g⟩:=Zk I b j e;exact SeqAt.compareNe_reads i g c b (by omega) ⟨.bl _,H,I,J,q⟩
theorem zP(o:X.A.units+64<cLine):cI X (compareOp .Eq) (uF id):=by intro a s m H x y v u Q I f e h;obtain⟨t,n,l,j,c,b,d,q⟩:=h;obtain⟨as,i⟩:=Zk I c l f;obtain⟨p,g⟩:=Zk I b j e;exact SeqAt.rcAt_reads i g c b (by omega) X.prog X.w _ _ ⟨.bl _,H,I,J,q⟩
end
noncomputable def iT(ns:List Int):List T:=ns.map T.int
theorem Qf:∀ns:List Int,jk (iT ns)=ns.map PyData.int|[]=>by rfl| n::r=>by show jk (T.int n::iT r)=_;unfold jk;rw[Qf r];rfl
theorem AH:∀ns:List Int,PyData.canLayAll0 (jk (iT ns))=true|[]=>rfl| n::r=>by show PyData.canLayAll0 (jk (T.int n::iT r))=true;unfold jk bO PyData.canLayAll0;rw[AH r];rfl
theorem BU:∀ns:List Int,PyData.depthAll (jk (iT ns))=0|[]=>rfl| n::r=>by show PyData.depthAll (jk (T.int n::iT r))=0;unfold jk bO PyData.depthAll;rw[BU r];rfl
theorem Gc:∀ns c:List Int,PyData.eqvAll (jk (iT ns)) (jk (iT c))=decide (ns=c):=λns c=>by
 rw[Qf,Qf];induction ns generalizing c with|nil=>cases c<;>rfl| cons a r d=>
   cases c with|nil=>rfl| cons b q=>
     simp only[c4,PyData.eqvAll,PyData.eqv,d q]
     grind
theorem IsL.ints{H:Hp}:∀{ns:List Int}{xs:List V},IsL H (iT ns) xs↔xs=ns.map V.int|[],xs=>Iff.rfl| n::r,xs=>by constructor;rintro⟨v,c,rfl,b,a⟩;rw[IsL.ints.mp a,(b)];rfl;rintro rfl;exact⟨_,_,J,J,IsL.ints.mpr J⟩
theorem FH(ns:O Int):(bO (.tup (iT ns))).canLay0=true:=by unfold bO PyData.canLay0;exact AH ns
noncomputable def tt(ps ns:List Int):T:=.tup [.tup (iT ps),.tup (iT ns)]
section
end
section
inductive la(K:W.Frag)(o i:V)(H:Hp)(Q:VK):Prop|mk:∀p xs k v,o=.ref p->i=.int k->0<=k->aG K H p xs->xs[k.toNat]?=some v->Q v H->la K o i H Q
theorem Gj:vT X (la X.K):=by intro b s n H o i x y Q I d e h;obtain⟨p,u,k,v,rfl,rfl,m,j,l,q⟩:=h;cases(d);obtain⟨t,rfl⟩:=e;obtain⟨g,r,f,z⟩:=I.list j;obtain⟨w,c,a⟩:=r.get l;have A:=r.length;have hn:=Wk;have hk:=(ci.mp c).1;exact wpAny_getItem_list f.isList m (by omega) (by simpa using c) ⟨v,H,I,a,q⟩
end
section
def qz(h:Heap)(z G to:Addr)(U:Value):Prop:=h.get? z=some {cls:=.type "zip",data:=.fields #[U,.bool false,.bool true,.ref G,.ref to]}
def mP(h:Heap)(Z U G:Addr):Prop:=h.get? Z=some {cls:=.type "tuple",data:=.seq #[.ref U,.ref G]}
theorem Mr{t:Y}{v:I}(a:s.heap.IsTupleIter it t i)(c:s.heap.IsTuple t its)(b:its[i]?=some v)(k:∀g,g.IsTupleIter it t (i+1)->Heap.SameBut it s.heap g->Q (some v) {s with heap:=g}):wpAny (model prog w) A (Builtin.SmallTypes.nextOrEnd (.ref it)) Q E s:=by unfold Builtin.SmallTypes.nextOrEnd;exact a4 (wpAny_attempt (K5 a c b λg e d=>a9 (k g e d)))
theorem Qw{t:Y}(hh:A.handled=none)(a:s.heap.IsTupleIter it t i)(d:s.heap.IsTuple t its)(c:its[i]?=none)(k:∀g,Heap.ExtBut it s.heap g->Q none {s with heap:=g}):wpAny (model prog w) A (Builtin.SmallTypes.nextOrEnd (.ref it)) Q E s:=by unfold Builtin.SmallTypes.nextOrEnd;refine a4 (wpAny_attempt (X2 hh a d c λg x b ⟨o,e,f⟩=>?_));exact a4 (di (T:="StopIteration") (b:=true) ⟨o,e,f⟩ isSubtype_stop (a9 (k _ b)))
theorem AD{z a to:Y}{b:I}{Q:I->Shared->Prop}(hz:qz s.heap z a to b)(h:Q (.ref z) s):wpAny (model prog w) A (pyIter (.ref z)) Q E s:=
 have hT:s.TypeIs (.ref z) "zip":=⟨_,hz,J⟩
 wpAny_pyIter_slot hT PySem.F.slot_zip_iter (cf PySem.F.slot_zip_iter hT PySem.F.entry_zip_iter (show wpAny _ _ (ret (.ref z)) _ _ s from a9 ⟨_,J,"zip",_,hT,PySem.F.slot_zip_next.lookup,h⟩) (PySem.F.args_zip_iter_1 _))
theorem Iv{d}{z a to T:Y}{Q:Unit->Shared->Prop}(hz:qz s.heap z a to (rawInt T))(e:∀h',qz h' z a to .none->Heap.SameBut z s.heap h'->Q () {s with heap:=h'}):wpAny (model prog w) A (letOwnedTupleGo (.Tuple cZ d aD) (.ref z) (.ref T)) Q E s:=by unfold letOwnedTupleGo;refine a4 (wpAny_load hz ?_);refine(show wpAny _ _ (if(["enumerate","zip","dict_itemiterator","dict_reverseitemiterator","odict_iterator","itertools.zip_longest","itertools.pairwise"].contains "zip" && (#[rawInt T,.bool false,.bool true,.ref a,.ref to]:Array I)[0]?==some (rawInt T))=true then _ else _) Q E s from ?_);rw[if_pos (by simp)];refine a4 (wpAny_rule ?_);exact wpAny_setField_rec hz (by simp) λh' b c=>e h' b c
end
section
theorem CZ(a b c:I):argsOk "object.__init__" ⟨[a,b,c],[("strict",.bool true)]⟩:=by unfold argsOk;kernel_rfl
end
theorem F3:bootBuiltins "zip"=some (.type "zip"):=by decide+kernel
section
end
section
variable{a b:Addr}{xs zs:List V}{g:TG}{tc:TT}{te:TE}{k:Nat}{Q:VK}
end
section
open Classical in
end
section
variable{o e:Expr}{to:TE}{t:TA}{name:Str}{apos cpos:Pos}{id:String}{r:V->List V->Hp->VK->Prop}
end
inductive oo(f:Bool->Bool)(x y:V)(H:Hp)(Q:VK):Prop|mk:∀t u,Is H t x->Is H u y->(bO t).canLay0=true->(bO u).canLay0=true->(bO u).depth<=20->Q (.bl (f (PyData.eqv (bO t) (bO u)))) H->oo f x y H Q
section
theorem Hu(o:X.A.units+64<cLine):cI X (compareOp .Eq) (oo id):=by intro a s m H x y v u Q I f e h;obtain⟨t,n,l,j,c,b,d,q⟩:=h;obtain⟨as,i⟩:=Zk I c l f;obtain⟨p,g⟩:=Zk I b j e;exact SeqAt.rcAt_reads i g c b (by omega) X.prog X.w _ _ ⟨.bl _,H,I,J,q⟩
end
end L2
namespace L2
open PySem PySem.Spec PyProof.Rows PySem.W
variable{A:Around}{p:Array Nat}{h:Heap}{gs:List (List Int)}{g:List Int}{vs:List Value}{prog:Program}{s:Shared}{E:Value->Shared->Prop}{w:World}
noncomputable def yh(lt:Nat->Nat->Bool){G:Type}:KasT G->G|.ret a=>a|.ask i j k=>yh lt (k (lt i j))
def jr(n:Nat)(lt:Nat->Nat->Bool){G:Type}:KasT G->Prop|.ret _=>True|.ask i j k=>i<n/\j<n/\jr n lt (k (lt i j))
section
variable{n:Nat}{lt:Nat->Nat->Bool}
theorem jh{a b:Type}{f:a->KasT b}:∀t:KasT a,yh lt (t.bind f)=yh lt (f (yh lt t))|.ret _=>rfl|.ask i j k=>jh (k (lt i j))
theorem j6{a b:Type}{f:a->KasT b}:∀{t:KasT a},jr n lt t->jr n lt (f (yh lt t))->jr n lt (t.bind f)|.ret _,_,h=>h|.ask i j k,h,g=>⟨h.1,h.2.1,j6 h.2.2 g⟩
theorem AE{b:Type}{a:Nat->Nat->(Bool->Shared->Prop)->Shared->Prop}{Q:b->Shared->Prop}{s:Shared}(c:∀i j,i<n->j<n->∀C:Bool->Shared->Prop,C (lt i j) s->a i j C s):∀{t:KasT b},jr n lt t->Q (yh lt t) s->t.kasWp a Q s|.ret _,_,q=>q|.ask i j k,h,q=>c i j h.1 h.2.1 _ (AE c h.2.2 q)
def vy(n:Nat)(p:Array Nat):Prop:=p.toList.Perm (List.range n)
theorem vy.bd(h:vy n p)(h0:0<n)(k:Nat):p.getD k 0<n:=by
 by_cases hk:k<p.size;have e:p.getD k 0=p[k]:=by simp[Array.getD,hk]
 rw[e];have a:p[k]∈p.toList:=by simp
 exact dj.mp (h.mem_iff.mp a);have e:p.getD k 0=0:=by simp[Array.getD,hk]
 rw[e];exact h0
theorem vy.rev(h:vy n p)(i j:Nat):vy n (kas_rev p i j):=(mirror_perm p i j _).toList.trans h
theorem vy.bub(h:vy n p)(i j:Nat):vy n (bubble p i j):=(bubble_perm p i j).toList.trans h
theorem sk(h0:0<n){p:Array Nat}(h:vy n p):∀f m,jr n lt (kas_asc p f m)|0,_=>trivial| f+1,m=>by refine⟨h.bd h0 _,h.bd h0 _,?_⟩;dsimp only;split;trivial;exact sk h0 h f (m+1)
theorem J8(h0:0<n):∀f {p:Array Nat} m q,vy n p->jr n lt (kas_desc f p m q)/\vy n (yh lt (kas_desc f p m q)).1|0,_,_,_,h=>⟨trivial,h⟩| f+1,p,m,q,h=>by unfold kas_desc;show(_/\_/\jr n lt (ite _ _ _))/\vy n (yh lt (ite _ _ _:KasT (Array Nat×Nat×Nat))).1;split;split;obtain⟨a,b⟩:=J8 h0 f (m+1) 0 (h.rev (m-(q+1)) m);exact⟨⟨h.bd h0 _,h.bd h0 _,a⟩,b⟩;obtain⟨a,b⟩:=J8 h0 f (m+1) 0 h;exact⟨⟨h.bd h0 _,h.bd h0 _,a⟩,b⟩;show(_/\_/\(_/\_/\jr n lt (ite _ _ _)))/\vy n (yh lt (ite _ _ _:KasT (Array Nat×Nat×Nat))).1;split;exact⟨⟨h.bd h0 _,h.bd h0 _,h.bd h0 _,h.bd h0 _,trivial⟩,h⟩;obtain⟨a,b⟩:=J8 h0 f (m+1) (q+1) h;exact⟨⟨h.bd h0 _,h.bd h0 _,h.bd h0 _,h.bd h0 _,a⟩,b⟩
theorem A7(h0:0<n)(h:vy n p)(m r:Nat):jr n lt (kas_tail3 m r p)/\vy n (yh lt (kas_tail3 m r p)).2:=by unfold kas_tail3;refine⟨j6 (sk h0 (h.rev 0 m) _ _) trivial,?_⟩;rw[jh];exact h.rev 0 m
theorem Ji(h0:0<n)(h:vy n p)(m r:Nat):jr n lt (kas_descPart m r p)/\vy n (yh lt (kas_descPart m r p)).2:=by
 unfold kas_descPart;obtain⟨a,b⟩:=J8 h0 (r-(m+1)) (m+1) 0 h;generalize kas_desc (r-(m+1)) p (m+1) 0=t at a b;have c:jr n lt (if(yh lt t).2.2>0 then kas_tail3 (yh lt t).2.1 r (kas_rev (yh lt t).1 ((yh lt t).2.1-((yh lt t).2.2+1)) (yh lt t).2.1)else kas_tail3 (yh lt t).2.1 r (yh lt t).1)/\
   vy n (yh lt (if(yh lt t).2.2>0 then kas_tail3 (yh lt t).2.1 r (kas_rev (yh lt t).1 ((yh lt t).2.1-((yh lt t).2.2+1)) (yh lt t).2.1)else kas_tail3 (yh lt t).2.1 r (yh lt t).1)).2:=by split;exact A7 h0 (b.rev _ _) _ _;exact A7 h0 b _ _
 refine⟨j6 a c.1,?_⟩;rw[jh];exact c.2
theorem Gv(h0:0<n)(h:vy n p)(r:Nat):jr n lt (kas_count r p)/\vy n (yh lt (kas_count r p)).2:=by
 unfold kas_count;have a:=sk (lt:=lt) h0 h (r-1) 1;generalize kas_asc p (r-1) 1=t at a;generalize d:yh lt t=m;have b:jr n lt (if(m==r)=true then KasT.ret (m,p)else if m>1 then KasT.ask (p.getD 0 0) (p.getD (m-1) 0) λc=>if c=true then KasT.ret (m,p)else kas_descPart m r (kas_rev p 0 m)else kas_descPart m r p)/\
   vy n (yh lt (if(m==r)=true then KasT.ret (m,p)else if m>1 then KasT.ask (p.getD 0 0) (p.getD (m-1) 0) λc=>if c=true then KasT.ret (m,p)else kas_descPart m r (kas_rev p 0 m)else kas_descPart m r p)).2:=by split;exact⟨trivial,h⟩;split;show(_/\_/\jr n lt (ite _ _ _))/\vy n (yh lt (ite _ _ _:KasT (Nat×Array Nat))).2;split;exact⟨⟨h.bd h0 _,h.bd h0 _,trivial⟩,h⟩;obtain⟨x,y⟩:=Ji h0 (h.rev 0 m) m r;exact⟨⟨h.bd h0 _,h.bd h0 _,x⟩,y⟩;exact Ji h0 h m r
 subst d;refine⟨j6 a b.1,?_⟩;rw[jh];exact b.2
theorem K0(h0:0<n){p:Array Nat}(h:vy n p)(k:Nat):∀f l r,jr n lt (kas_place p k f l r)|0,_,_=>trivial| f+1,l,r=>by unfold kas_place;split;trivial;refine⟨h.bd h0 _,h.bd h0 _,?_⟩;dsimp only;split;exact K0 h0 h k f _ _;exact K0 h0 h k f _ _
theorem wV(h0:0<n):∀f {p:Array Nat} k,vy n p->jr n lt (kas_bin f p k)/\vy n (yh lt (kas_bin f p k))|0,_,_,h=>⟨trivial,h⟩| f+1,p,k,h=>by unfold kas_bin;obtain⟨a,b⟩:=wV h0 f (k+1) (h.bub k (k-yh lt (kas_place p k k 0 k)));refine⟨j6 (K0 h0 h k k 0 k) a,?_⟩;rw[jh];exact b
theorem ue(h0:0<n):jr n lt (kas_sort n)/\vy n (yh lt (kas_sort n)):=by
 unfold kas_sort;have d:vy n (List.toArray (List.range n)):=List.Perm.refl _;obtain⟨a,b⟩:=Gv h0 d n;generalize kas_count n (List.toArray (List.range n))=t at a b;have c:jr n lt (if(yh lt t).1<n then kas_bin (n-max (yh lt t).1 1) (yh lt t).2 (max (yh lt t).1 1)else KasT.ret (yh lt t).2)/\
   vy n (yh lt (if(yh lt t).1<n then kas_bin (n-max (yh lt t).1 1) (yh lt t).2 (max (yh lt t).1 1)else KasT.ret (yh lt t).2)):=by split;exact wV h0 _ _ b;exact⟨trivial,b⟩
 refine⟨j6 a c.1,?_⟩;rw[jh];exact c.2
end
structure pj(R:Around->Prop)(P:Program)(w:World)(h:Heap)(vs:List Value)(κ:SortKind)(lt:Nat->Nat->Bool):Prop where
 kind:∀(A:Around),R A->∀(s:Shared)(E:Value->Shared->Prop)(Q:SortKind->Shared->Prop),(∀b o,h.get? b=some o->s.heap.get? b=some o)->Q κ s->wpAny (model P w) A (keyKind' vs.toArray) Q E s
 ask:∀i j,i<vs.length->j<vs.length->∀(A:Around),R A->∀(s:Shared)(E:Value->Shared->Prop)(Q:Bool->Shared->Prop),(∀b o,h.get? b=some o->s.heap.get? b=some o)->Q (lt i j) s->wpAny (model P w) A (keyLt' κ (vs.getD i Value.none) (vs.getD j Value.none)) Q E s
theorem Zm{a:Type}(vs:O a)(d:a):(List.range vs.length).map (λi=>vs.getD i d)=vs:=by refine List.ext_getElem (by simp) λi c b=>?_;have e:=bo b;simp[e]
section
variable{h0:Heap}{κ:SortKind}{lt:Nat->Nat->Bool}
noncomputable def jl(lt:Nat->Nat->Bool)(vs:List Value):List Value:=if vs.length<2 then vs else(yh lt (kas_sort vs.length)).toList.map λi=>vs.getD i Value.none
theorem Mh:(jl lt vs).Perm vs:=by
 unfold jl;split
 . exact List.Perm.refl _
 . rename_i h
   have p:=(ue (n:=vs.length) (lt:=lt) (by omega)).2;exact(List.Perm.map (λi=>vs.getD i Value.none) p).trans (List.Perm.of_eq (Zm vs Value.none))
theorem Mf{R:Around->Prop}(G:R A){a:Y}{n:Nat}{P:PySem.Fin->Shared->Prop}(t:s.heap.get? a=some (seqObj "list" vs.toArray n))(v:vs.length<64)(O:2<=vs.length->pj R prog w h0 vs κ lt)(hk:∀b o,h0.get? b=some o->b≠a/\s.heap.get? b=some o) (h:P (.done (.ret .none)) {s with heap:=sortedHeap s.heap a vs (jl lt vs).toArray}):
  wpAny (model prog w) A (Builtin.«list.sort» ⟨[.ref a],[]⟩) P E s:=by
 rw[list_sort_plain];refine a4 (listItems_at t J (a4 (listUpdate_at t J ?_ (by rw[cz,sizeLine_eq];omega) (be _))));have r:=get?_update_seq t (λ_=>(#[]));generalize (if(#[]).size==vs.toArray.size then n else n+1)=z at r;refine a4 (seqEpoch_at r J (a4 (wpAny_newTuple (a4 (wpAny_newList (wpAny_holding ?_) (be _))) (by show vs.length<=_;rw[sizeLine_eq];omega))));have q:(((s.heap.update a (Obj.mapSeq λ_=>(#[]))).push (seqObj "tuple" vs.toArray 0)).push (seqObj "list" #[] 0)).get? a=some (seqObj "list" #[] z):=aj _ (aj _ r);have D:∀b o,h0.get? b=some o->(((s.heap.update a (Obj.mapSeq λ_=>(#[]))).push (seqObj "tuple" vs.toArray 0)).push (seqObj "list" #[] 0)).get? b=some o:=λb o e=>by obtain⟨M,z⟩:=hk b o e;exact aj _ (aj _ (by rw[Heap.get?_update_ne _ _ _ _ M];exact z))
 dsimp only;by_cases hn:vs.length<2
 . have d:vs.toArray.size<2:=by rw[cz];exact hn
   have y:jl lt vs=vs:=by unfold jl;rw[if_pos hn]
   rw[if_pos d,if_pos d];refine a4 (a9 ?_);rw[StateT.run_pure];refine a4 (a9 ?_);have f:(arrOf (SortSt.mk' general' (vs.toArray.zip vs.toArray) #[] 7 none)).map (·.2)=vs.toArray:=by show(vs.toArray.zip vs.toArray).map (·.2)=vs.toArray;refine Array.ext (by simp) λi h1 K=>by simp
   rw[f];refine a4 (seqEpoch_at q J (a4 (listUpdate_at q J ?_ (be _) (by rw[cz,sizeLine_eq];omega))));simp only[bne_self_eq_false,Bool.false_eq_true,if_false];rw[y]at h;exact a9 h
 . have d:¬vs.toArray.size<2:=by rw[cz];exact hn
   have O:=O (by omega);have y:jl lt vs=(yh lt (kas_sort vs.length)).toList.map λi=>vs.getD i Value.none:=by unfold jl;rw[if_neg hn]
   obtain⟨L,Z⟩:=ue (n:=vs.length) (by omega);rw[if_neg d,if_neg d];refine a4 (O.kind _ G _ _ _ D ?_);generalize F:({s with heap:=(((s.heap.update a (Obj.mapSeq λ_=>(#[]))).push (seqObj "tuple" vs.toArray 0)).push (seqObj "list" #[] 0))}:Shared)=S at *;have m:S.heap=(((s.heap.update a (Obj.mapSeq λ_=>(#[]))).push (seqObj "tuple" vs.toArray 0)).push (seqObj "list" #[] 0)):=by rw[<-F]
   have run:=kat_run (A:=A) (E:=E) (G:=λp g=>g=S/\p=yh lt (kas_sort vs.length))
    (Q:=λc g=>g=S/\failedOf c=none/\arrOf c=(yh lt (kas_sort vs.length)).map (kas_item (vs.toArray.zip vs.toArray))) J (by omega) v
    (λp c g _ K X H=>⟨H.1,X,by rw[<-H.2];exact K⟩)
    (AE (λi j Q N C W=>O.ask i j Q N _ G _ _ _ (by rw[m];exact D) W) L ⟨J,J⟩)
   refine a4 (dc run ?_ λ_ _ x=>x);rintro⟨⟨⟩,c⟩ g ⟨rfl,U,u⟩;have f:(arrOf c).map (·.2)=(jl lt vs).toArray:=by rw[y];exact kat_snds J u
   have l:(jl lt vs).length=vs.length:=Mh.length_eq;rw[f];rw[<-m]at q;refine a4 (seqEpoch_at q J (a4 (listUpdate_at q J ?_ (be _) (by rw[cz,l,sizeLine_eq];omega))));rw[U];simp only[bne_self_eq_false,Bool.false_eq_true,if_false];rw[<-F];exact a9 h
end
noncomputable def tI(g:List Int):T:=.tup (iT g)
noncomputable def nH(fin:Bool):List Int->List Int->Bool|p::r,q::t=>if(p==q)=true then nH fin r t else decide (p<q)|_,_=>fin
def lj(h:Heap)(v:Value)(g:List Int):Prop:=∃a o n,∃us:List Value,v=.ref a/\h.get? a=some o/\o.cls=.type "tuple"/\o.data=.seq us.toArray n/\yn (g.map V.int) us
theorem G9{g d:Type}{f:g->d}{j:List d}{l:List d}(p:j.Perm l):∀{xs:List g},l=xs.map f->∃a:List g,j=a.map f/\a.Perm xs:=by
 induction p with
 | nil=>simp
 | cons u p r=>
   intro xs e;cases xs with
   |nil=>cases e
   | cons x xs=>injection e with c b;obtain⟨a,z,q⟩:=r b;exact⟨x::a,by simp_all,q.cons x⟩
 | swap u v l=>
   intro xs e
   match xs,e with
   | x::y::xs,e=>injection e with c b;injection b with t s;exact⟨y::x::xs,by rw[c,t,s];rfl,List.Perm.swap _ _ _⟩
 | trans p q i h=>intro xs e;obtain⟨w,c,o⟩:=h e;obtain⟨m,b,n⟩:=i c;exact⟨m,b,n.trans o⟩
section
theorem AK{b fin:Bool}{Q:Bool->Shared->Prop}:∀{g g':List Int}{us a:List Value}(i:Nat),yn (g.map V.int) us->yn (g'.map V.int) a->Q (nH fin g g') s->KatLex prog w A b fin Q (us.zip a) i s
 |[],_,_,_,i,.nil,_,q=>q
 |_::_,[],_,_,i,.cons _ _,.nil,q=>q
 | p ::r,d::t,_,_,i,.cons j h,.cons f e,q=>by
   obtain⟨x,rfl⟩:=j;obtain⟨y,rfl⟩:=f;refine kat_cons (wpAny_eqBool_int ?_);have q:Q (if(p==d)=true then nH fin r t else decide (p<d)) s:=q;by_cases c:(p==d)=true
   . rw[if_pos c]at q;rw[c];exact kat_yes (AK (i+1) h e q)
   . rw[if_neg c]at q;rw[Bool.eq_false_iff.mpr c];refine kat_no ?_;cases l:(b && i==0)with
     |true=>exact oneLt_int q
     |false=>exact kat_one _ _ (PyProof.Rows.lt_int q)
theorem lj.keep{h':Heap}{v:I}(t:lj h v g)(k:∀b o,h.get? b=some o->h'.get? b=some o):lj h' v g:=by obtain⟨a,o,n,c,e,d,r⟩:=t;exact⟨a,o,n,c,e,k _ _ d,r⟩
theorem B1{h:Heap}:∀{d:List (List Int)}{vs:List Value},Paired (λg v=>lj h v g) d vs->(∀g∈d,g≠[])->∃fs,KatTups h vs fs/\fs.length=vs.length/\∀f∈fs,∃i t,f=Value.int i t
 |_,_,.nil,_=>⟨[],trivial,J,λf c=>by grind⟩
 | g ::d,v::vs,.cons x w,b=>by
   obtain⟨fs,k,l,A⟩:=B1 w λy p=>b y (bq _ p);obtain⟨a,o,n,z,rfl,m,s,q,j⟩:=x;cases g with
   |nil=>simp_all
   | cons i g=>
     cases j with
     | cons r t=>
       rename_i u e
       refine⟨u::fs,KatTups.cons m s q (by simp) k,by grind,λf c=>?_⟩;rcases ag.mp c with rfl|c
       . obtain⟨t,rfl⟩:=r;simp
       simp_all
theorem JQ (P:Paired (λg v=>lj h v g) gs vs) (d:∀g∈gs,g≠[]) (L:2<=vs.length):pj (λ_=>True) prog w h vs (tuples' true) (λi j=>nH (decide ((gs.getD i []).length<(gs.getD j []).length)) (gs.getD i []) (gs.getD j [])):=by
 have m:∀i,i<vs.length->lj h (vs.getD i Value.none) (gs.getD i []):=by
  clear d L;induction P with
  |nil=>simp
  | cons r t K=>grind
 constructor
 . intro A _ s E Q k q;obtain⟨b,c,l,x⟩:=B1 P d;have y:KatTups s.heap vs b:=by
    clear l x m q L d P
    revert b
    induction vs with
    | nil=>intro b c;cases b with
      |nil=>trivial
      |cons=>exact c.elim
    | cons v vs K=>intro b c;cases b with
      |nil=>exact c.elim
      | cons f b=>obtain⟨⟨a,o,M,n,e,C,r⟩,c⟩:=c;exact⟨⟨a,o,M,n,e,k _ _ C,r⟩,K b c⟩
   refine kat_kind (T:=.type "int") y (by omega) (λv u=>?_) (by rfl) q;obtain⟨i,t,rfl⟩:=x v u;exact Looks.now
 . intro i j x R A _ s E Q k q;obtain⟨a,o,n,X,W,C,hc,S,u⟩:=(m i x).keep k;obtain⟨a',Z,n',N,F,z,U,D,p⟩:=(m j R).keep k;rw[W,F];have H:=u.length;have G:=p.length;rw[aa]at H G;refine kat_lt C S z D ?_;rw[cz,cz,<-H,<-G];exact AK 0 u p q
end
section
variable{X:Cx}
theorem IsL.tupI{b:List (Addr×Obj)}{l:St}{H:Hp}{s:Shared}(I:Inv X b l H s):∀{i:List (List Int)}{xs:List V}{us:List Value},IsL H (i.map tI) xs->yn xs us->Paired (λg v=>lj s.heap v g) i us| [],xs,us,h,r=>by cases(h);cases r;exact .nil| g ::i,xs,us,h,r=>by obtain⟨v,y,rfl,w,u⟩:=h;cases r with| cons p m=>refine .cons ?_ (IsL.tupI I u m);obtain⟨a,x,rfl,t,q⟩:=w;cases(p);obtain⟨f,j,⟨o,e,c,n,d⟩,_⟩:=I.tuple (aE.of t);rw[IsL.ints.mp q]at j;exact⟨a,o,n,f,J,e,c,d,j⟩
end
end L2
namespace L2
open PySem PySem.Spec PyProof.Rows
variable{A:Around}{X:Cx}{es:List Expr}{aD:Pos}{prog:Program}{s:Shared}{E:Value->Shared->Prop}{w:World}
section
open Classical in
end
theorem xU(g:O Int):(bO (tI g)).canLay0=true:=FH g
theorem Gz(g:O Int):(bO (tI g)).depth<=20:=by unfold tI bO PyData.depth;rw[BU];decide
theorem DT(g g':O Int):PyData.eqv (bO (tI g)) (bO (tI g'))=decide (g=g'):=by unfold tI bO PyData.eqv;exact Gc g g'
section
end
section
end
section
end
section
end
inductive kQ(x:V)(lo hi:Option Int)(H:Hp)(Q:VK):Prop|mk:∀ts,Is H (.lst ts) x->(∀p H',Same H H'->H p=none->Is H' (.lst (Xh ts lo hi)) (.ref p)->Q (.ref p) H')->kQ x lo hi H Q
def Dv(t:TA):TE:=λσ H Q=>t σ H λxs H1=>xs.length<=1000/\∀p H',Same H1 H'->H1 p=none->H' p=some (.lst xs)->Q (.ref p) H'
def DA(t:TA):TE:=λσ H Q=>t σ H λxs H1=>xs.length<=1000/\∀p H',Same H1 H'->H1 p=none->H' p=some (.tup xs)->Q (.ref p) H'
section
theorem wQ:nC X kQ:=by intro b s e H x v i g lo d j Q I l o n m h;obtain⟨u,⟨a,f,rfl,t,r⟩,q⟩:=h;exact Jt b s e H (.ref a) v i g lo d j Q I l o n m ⟨a,f,J,aG.of t,λp c=>q p _ (Same.new c _) c ⟨p,_,J,zd,(xM r lo d).mono (Same.new c _)⟩⟩
theorem w9{t:TA}(h:PA X es t):PE X (.List es aD) (Dv t):=by intro a s g H Q I l;refine wpAny_List_spliced (aF (h aD a s g H _ I l) λj c ⟨i,m,f,r,z,q⟩=>⟨by rw[<-r.length];exact wm z,?_⟩);have d:=f.hok.fresh (ae _);exact⟨.ref c.heap.objs.size,upd m c.heap.objs.size (.lst i),f.laid (λb u e=>aj _ e) (ae _) ⟨wm z,j,0,r,bf _ J⟩,J,q _ _ (Same.new d _) d zd⟩
theorem xi{t:TA}{j}(h:PA X es t):PE X (.Tuple es j aD) (DA t):=by intro a s g H Q I m;refine wpAny_Tuple_spliced (aF (h aD a s g H _ I m) λl c ⟨i,n,f,r,z,q⟩=>⟨by rw[<-r.length];exact wm z,?_⟩);have d:=f.hok.fresh (ae _);exact⟨.ref c.heap.objs.size,upd n c.heap.objs.size (.tup i),f.laid (λb u e=>aj _ e) (ae _) ⟨wm z,l,r,IsTup.new _ _,gp.push⟩,J,q _ _ (Same.new d _) d zd⟩
end
end L2
namespace L2
open PySem PySem.Spec PyProof.Rows PySem.W
structure Ord(n:Nat)(lt:Nat->Nat->Bool):Prop where
 irr:∀i,lt i i=false
 tr:∀i j k,lt i j=true->lt j k=true->lt i k=true
 tot:∀i j,i<n->j<n->i≠j->lt i j=true\/lt j i=true
section
variable{n:Nat}{lt:Nat->Nat->Bool}
end
section
variable{X:Cx}
theorem Lw{b a γ:Type}{R:b->a->Prop}{xs:List b}{us:List a}(h:Paired R xs us){dx:b}{g:a}:∀(l:List Nat),(∀i∈l,i<us.length)->Paired R (l.map λi=>xs.getD i dx) (l.map λi=>us.getD i g):=by
 have e:∀i,i<us.length->R (xs.getD i dx) (us.getD i g):=by induction h with|nil=>intro i d;simp at d| cons r t c=>intro i d;cases i with|zero=>exact r|succ i=>exact c i (by simpa using d)
 intro l;induction l with|nil=>intro _;exact .nil|cons i l c=>intro f;exact .cons (e i (f i bp)) (c λj m=>f j (bq _ m))
theorem zG{H:Hp}{a:List T}{xs:List V}(h:IsL H a xs){dt:T}{dx:V}:∀(l:List Nat),(∀i∈l,i<xs.length)->IsL H (l.map λi=>a.getD i dt) (l.map λi=>xs.getD i dx)|[],_=>rfl| i::l,c=>by have g:=c i bp;have b:=h.length;obtain⟨v,f,e⟩:=h.get (i:=i) (t:=a.getD i dt) (by rw[c7,bo (by omega)];rfl);refine⟨_,_,J,?_,zG h l λj d=>c j (bq _ d)⟩;show Is H (a.getD i dt) (xs.getD i dx);rw[c7 (l:=xs),f];exact e
end
end L2
namespace L2
open PySem PySem.Spec PyProof.Rows
section
variable{X:Cx}
end
end L2
namespace L2
open PySem PySem.Spec PyProof.Rows PySem.W
variable{A:Around}{es:Array DictEntry}{h:Heap}{H:Hp}{ks:List (List Int)}{Q:Option Value->Shared->Prop}{s:Shared}{E:Value->Shared->Prop}
def qj(h:Heap)(d:Addr)(es:Array DictEntry)(ep:Nat):Prop:=∃o,h.get? d=some o/\o.ExactDict/\o.data=.dict es ep
section
variable{prog:Program}{w:World}{d it:Addr}{ep i:Nat}
theorem qj.ty(x:qj s.heap d es ep):s.TypeIs (.ref d) "dict":=let⟨o,a,b,_⟩:=x;⟨o,a,b.1⟩
theorem qj.at{h':Heap}(x:qj h d es ep)(k:∀o,h.get? d=some o->h'.get? d=some o):qj h' d es ep:=let⟨o,a,r⟩:=x;⟨o,k o a,r⟩
theorem qj.lt(x:qj h d es ep):d<h.objs.size:=let⟨_,a,_⟩:=x;aq a
theorem Aw{Q:I->Shared->Prop}(c:(d==sysModules)=false)(x:qj s.heap d es ep)(e:Q (.ref s.heap.objs.size) {s with heap:=s.heap.push {cls:=.type "dict_keyiterator",data:=.fields #[.ref d,.int 0 0,.int es.size 0,.int ep 0]}}):wpAny (model prog w) A (pyIter (.ref d)) Q E s:=by have hT:=x.ty;obtain⟨o,b,f,a⟩:=id x;refine wpAny_pyIter_slot hT F.slot_dict_iter (cf F.slot_dict_iter hT F.entry_dict_iter ?_ (F.args_dict_iter_1 _));unfold Builtin.«dict.__iter__»;refine a4 ?_;unfold Builtin.Dict.dictSlotNone;refine a4 (wpAny_notOrdered_dict hT (a9 ?_));show wpAny _ _ (Builtin.Dict.showsAll d>>=_) _ _ s;unfold Builtin.Dict.showsAll;rw[if_neg (by rw[c];exact br)];refine a4 (a9 (a4 (wpAny_dictEntries b a (a4 (wpAny_dictEpoch b a ?_)))));refine a4 (cx (a9 ⟨_,J,"dict_keyiterator",_,⟨_,bf _ J,J⟩,F.slot_dict_keyiterator_next.lookup,?_⟩));simpa[rawInt]using e
theorem Ax(a:s.heap.IsKeyIter it d i es.size ep)(x:qj s.heap d es ep)(h:i<es.size)(m:∀h',h'.IsKeyIter it d (i+1) es.size ep->Heap.SameBut it s.heap h'->Q (some es[i].key) {s with heap:=h'}):wpAny (model prog w) A (pyNext (.ref it)) Q E s:=by
 obtain⟨n,f,l,e⟩:=id a;obtain⟨o,b,j,c⟩:=id x;unfold pyNext;refine a4 (wpAny_attempt (wpAny_callSpecial?_slot a.typeIs F.slot_dict_keyiterator_next (cf F.slot_dict_keyiterator_next a.typeIs F.entry_dict_keyiterator_next (a4 (a9 (a4 (a4 ?_)))) (F.args_dict_keyiterator_next_1 _))))
 first|refine a4 (wpAny_typeNameOfWhole_keyiter a.typeIs (a9 ?_))|refine a4 (wpAny_typeNameOf_keyiter a.typeIs (a9 ?_))
 refine a4 (wpAny_fieldsOf f e ?_);simp only[show Builtin.Dict_items.ownsTuple "dict_keyiterator"=false from by decide,Bool.false_eq_true,if_false];show wpAny _ _ (if(Value.ref d==Value.none)=true then _ else _) _ _ s;rw[if_neg (show¬((Value.ref d==Value.none)=true)from br)];refine a4 (a9 (a4 (wpAny_dictEntries b c ?_)));rw[if_neg (by simp)];refine a4 (a9 (a4 (wpAny_dictEpoch b c ?_)));rw[if_neg (by simp)];refine a9 ?_;simp only[(by omega),if_false,d9,eh h];refine a4 ?_;first|refine a4 (wpAny_typeNameOfWhole_keyiter a.typeIs (a9 ?_))|refine a4 (wpAny_typeNameOf_keyiter a.typeIs (a9 ?_))
 refine a4 (wpAny_isOneOf_keyiter a.typeIs ?_);show wpAny _ _ (setField (.ref it) 1 (rawInt (i+1))>>=_) _ _ s;refine a4 (wpAny_setField f e (by simp) ?_);have g:(s.heap.update it (Obj.mapFields (·.setIfInBounds 1 (rawInt (i+1))))).IsKeyIter it d (i+1) es.size ep:=
  ⟨_,Heap.get?_update_self _ f (Obj.isFreed_of_fields (Obj.data_mapFields e _)),(Obj.cls_mapFields ..).trans l,by rw[Obj.data_mapFields e];simp[rawInt]⟩
 refine a4 (wpAny_holding (a4 (wpAny_isOneOf_keyiter g.typeIs ?_)));exact a9 (a9 ⟨_,J,a9 (m _ g (Heap.SameBut.update ..))⟩)
theorem yV(hh:A.handled=none)(a:s.heap.IsKeyIter it d i es.size ep)(x:qj s.heap d es ep)(g:es.size<=i)(j:∀h',Heap.ExtBut it s.heap h'->Q none {s with heap:=h'}):wpAny (model prog w) A (pyNext (.ref it)) Q E s:=by
 obtain⟨l,e,n,f⟩:=id a;obtain⟨m,b,h,c⟩:=id x;unfold pyNext;refine a4 (wpAny_attempt (wpAny_callSpecial?_slot a.typeIs F.slot_dict_keyiterator_next (cf F.slot_dict_keyiterator_next a.typeIs F.entry_dict_keyiterator_next (a4 (a9 (a4 (a4 ?_)))) (F.args_dict_keyiterator_next_1 _))))
 first|refine a4 (wpAny_typeNameOfWhole_keyiter a.typeIs (a9 ?_))|refine a4 (wpAny_typeNameOf_keyiter a.typeIs (a9 ?_))
 refine a4 (wpAny_fieldsOf e f ?_);simp only[show Builtin.Dict_items.ownsTuple "dict_keyiterator"=false from by decide,Bool.false_eq_true,if_false];show wpAny _ _ (if(Value.ref d==Value.none)=true then _ else _) _ _ s;rw[if_neg (show¬((Value.ref d==Value.none)=true)from br)];refine a4 (a9 (a4 (wpAny_dictEntries b c ?_)));rw[if_neg (by simp)];refine a4 (a9 (a4 (wpAny_dictEpoch b c ?_)));rw[if_neg (by simp)];refine a9 ?_;simp only[(by omega),if_false,d9,Array.getElem?_eq_none g];refine a4 ?_;first|refine a4 (wpAny_typeNameOfWhole_keyiter a.typeIs (a9 ?_))|refine a4 (wpAny_typeNameOf_keyiter a.typeIs (a9 ?_))
 show wpAny _ _ (setField (.ref it) 0 .none>>=_) _ _ s;refine a4 (wpAny_setField e f (by simp) ?_);refine a4 ?_;simp only[newExc,newTuple];refine a4 (cx (a4 (wpAny_of_eq (by first|rfl|(simp only[firstArgMember];rfl)) (cx ?_ (by size_fits)))) (by size_fits));simp only[raiseNew];refine a4 (wpAny_handled ?_);rw[(hh)];refine a4 (a9 (wpAny_throw ?_));refine a4 (di ⟨_,bf _ J,J⟩ isSubtype_stop ?_);exact a9 (j _ (((Heap.SameBut.update ..).extBut.push _).push _))
theorem Ie(hh:A.handled=none)(I:Y)(j:d≠I):Walks prog w A I [I,d] [I] es.size (λi v=>∃e,es[i]?=some e/\v=e.key) (λi h=>h.IsKeyIter I d i es.size ep/\qj h d es ep) where
 sub:=λb a=>by simp at a;simp[a]
 frame:=λ_ _ _ st hk=>⟨st.1.at λo e=>hk I (by simp) o e,st.2.at λo e=>hk d (by simp) o e⟩
 item:=λi s Q E n st g=>Ax st.1 st.2 n λm f c=>g _ m s.toks ⟨_,eh n,J⟩ ⟨f,st.2.at λo e=>c.extBut d o j e⟩ λb o a e=>c.extBut b o (λh=>a (by simp[h])) e
 done:=λs Q E st g=>yV hh st.1 st.2 (ae _) λm l=>g m s.toks λb o a e=>l b o (λh=>a (by simp[h])) e
 self:=λ_ _ _ _ st g=>wpAny_pyIter_keyiter st.1 g
theorem yW(lo:(d==sysModules)=false):KdlSrc prog w "dict" d d es.size (λi v=>∃e,es[i]?=some e/\v=e.key) (λh=>qj h d es ep) where
 type:=λ_ x=>x.ty
 there:=λ_ x=>⟨x.lt,x.lt⟩
 keep:=λ_ _ x hk=>x.at λo e=>hk d (.inl J) o e
 notList:=by decide
 notTuple:=by decide
 hint:=λ_ _ _ _ x a=>kdl_hint_dict x.ty a
 iter:=λ_ _ b x=>⟨_,_,(λ_ _ a=>Aw lo x a),Ie b _ (az x.lt),⟨⟨_,bf _ J,J,J⟩,x.at λo e=>aj _ e⟩⟩
end
noncomputable def kI(g:List Int):List aJ:=g.map Sum.inl
theorem lx(g:O Int):(kI g).map kV=g.map V.int:=by unfold kI;rw[bn];rfl
theorem aR{g g':List Int}(h:kI g=kI g'):g=g':=by unfold kI at h;induction g generalizing g' with|nil=>simp_all| cons a g c=>cases g' with|nil=>cases h| cons b g'=>grind
inductive pB(H:Hp)(d:Addr)(ks:List (List Int)):Prop|mk:∀kvs:List (List aJ×V),H d=some (.dT kvs)->kvs.map (·.1)=ks.map kI->pB H d ks
theorem pB.len{d:Y}{kvs:O (O aJ×V)}(e:H d=some (.dT kvs))(k:kvs.map (·.1)=ks.map kI):kvs.length=ks.length:=by
 have:=congrArg List.length k
 grind
theorem wG{kvs:List (List aJ×V)}{xs:List (List aJ×Addr×Value)}(b:KT H kvs xs):∀{a:List (List Int)},kvs.map (·.1)=a.map kI->IsL H (a.map tI) (xs.map λx=>V.ref x.2.1):=by
 induction b with
 | nil=>
   intro a k;cases a with
   |nil=>rfl
   |cons=>cases k
 | @cons p x i h f t e=>
   intro a k;cases a with
   |nil=>cases k
   | cons g a=>injection k with c d;refine⟨_,_,J,⟨x.2.1,_,J,f.2.1,?_⟩,e d⟩;have c:p.1=kI g:=c;rw[c,lx];exact IsL.ints.mpr J
section
variable{X:Cx}
inductive ii(xs:List V)(H:Hp)(Q:VK):Prop|mk:∀d ks,xs=[.ref d]->pB H d ks->(∀ys p H',Same H H'->H p=none->H' p=some (.lst ys)->IsL H' (ks.map tI) ys->Q (.ref p) H')->ii xs H Q
theorem BS(K:X.calm=true):jj X (.type "list") ii:=by
 intro p s P H c S Q I r h;obtain⟨d,W,rfl,⟨y,e,k⟩,q⟩:=h;obtain⟨u,rfl,w⟩:=ql r;cases(w);obtain⟨z,G,c,f,⟨o,es,ep,D,l,g,t,_,_⟩⟩:=rM I.hok e;have A:=Paired.length f;have F:=size_of_entries t;refine kdl_call (yW G) (I.ok.hd K) ⟨o,D,l,g⟩ (by omega) λh' U b N hk Z a=>?_;have C:yn (c.map λx=>V.ref x.2.1) b.toList:=Js (by have i:=a.1;simp_all) λj x v m e2=>by obtain⟨en,i,L⟩:=a.2 j v (by simp_all);rw[entry_at t j]at i;rw[au]at m;cases M:c[j]? with|none=>simp_all| some R=>rw[M]at m i;cases m;cases i;rw[L];rfl
 have E:=wG f k;have hn:=I.hok.fresh (ae s.heap.objs.size);have n:=Same.new hn (.lst (c.map λx=>V.ref x.2.1));exact⟨.ref s.heap.objs.size,_,I.laid (o:=.lst (c.map λx=>V.ref x.2.1)) hk (ae _) ⟨by simp_all,b.toList,N,C,by omega⟩,J,q _ _ _ n hn zd (E.mono n)⟩
end
end L2
namespace L2
open PySem PySem.Spec PyProof.Rows
variable{a:Addr}{A:Around}{sl:Array (Option Value)}{its xs:Array Value}{X:Cx}{Q:Option Value->Shared->Prop}{prog:Program}{R:Result->Shared->Prop}{s:Shared}{E:Value->Shared->Prop}{w:World}
theorem KF:typeLookup (.type "list") "keys"=pure none:=am_miss_of_fast (by rfl)
section
set_option maxRecDepth 8000 in
theorem L5{k:Nat}{u:Tok}{Q:Value->Shared->Prop}(hx:s.heap.get? a=some {cls:=.type "list",dict:=none,data:=.seq xs k,slots:=sl})(hA:A.handled=none)
  (h:∀h' tk e,Heap.NewExcOf s.heap h' e "AttributeError"->E (.ref e) {s with heap:=h',toks:=tk}):wpAny (model prog w) A (getAttrBy (.ref a) (.str "keys" u) false) Q E s:=by
 obtain⟨hp,g,d,tk,os⟩:=s;have hT:∀tk',(⟨hp,g,d,tk',os⟩:Shared).TypeIs (.ref a) "list":=λ_=>⟨_,hx,rfl⟩
 have f1:=sub_AttributeError;have f3:=PySem.F.slot_list_getattribute.lookup;have f4:=PySem.F.slot_list_getattribute.bind (.ref a);have f5:=am_list_getattr_none;unfold getAttrBy
 repeat(any_goals (first|assumption|exact hT _|((with_reducible show wpAny _ _ (call (Value.builtin "list.__getattribute__") _ _) _ _ _);refine call_meets PySem.F.slot_list_getattribute (hT _) am_entry_list_getattribute (PySem.F.args_list_getattribute_2 _ _) (meets_getattribute_miss_list a xs k sl "keys" _ KF (by decide+kernel) (by size_fits)) ⟨hx,hA,λh' tk' e hx'=>?_⟩)|wp_step))
 obtain⟨t',u',he⟩:=hx'.there;show wpAny _ _ (getattributeRaised _ _ _ _ _ _ _) _ _ _;unfold getattributeRaised
 repeat(any_goals (first|assumption|wp_step))
 exact h _ _ _ hx'.of
theorem B2{k:Nat}(d:s.heap.get? a=some {cls:=.type "list",dict:=none,data:=.seq xs k,slots:=sl})(i:A.handled=none)
  (h:∀h' tk,(∀b o,s.heap.get? b=some o->h'.get? b=some o)->Q none {s with heap:=h',toks:=tk}):wpAny (model prog w) A (getAttr? (.ref a) "keys") Q E s:=by unfold getAttr? getAttrBy?;refine a4 (wpAny_mkText ?_);refine a4 (wpAny_attempt (L5 d i λh' tk e x=>?_));obtain⟨c,r,f,g,_⟩:=x.there;refine a4 (di ⟨_,f,g⟩ sub_AttributeError ?_);exact a9 (h _ _ x.keeps)
end
abbrev Jp:=List aJ×Addr×Value
noncomputable def xO(xs rows:List Jp):List Jp:=rows.foldl (λG r=>storedH G r.1 r.2.1 r.2.2) xs
theorem L4(xs:O Jp)(k:O aJ)(a:Y)(v:I):(storedH xs k a v).length<=xs.length+1:=by
 unfold storedH
 grind
section
def pU(prog:Program)(w:World)(h:Heap)(d G:Addr)(v:Value)(r:Jp):Prop:=∃b,v=.ref b/\b≠d/\b≠G/\r.2.1≠d/\r.2.1≠G/\h.IsTuple b #[.ref r.2.1,r.2.2]/\(tupleKind (zy prog w)).is h r.1 r.2.1
theorem pU.keep{h h':Heap}{d a:Y}{v:I}{r:Jp}(p:pU prog w h d a v r)(k:∀c o,c≠d->c≠a->h.get? c=some o->h'.get? c=some o):pU prog w h' d a v r:=by obtain⟨b,e,l,j,i,g,⟨o,t,x,n,u⟩,⟨s,y,m,f,q⟩⟩:=p;exact⟨b,e,l,j,i,g,⟨o,k _ _ l j t,x,n,u⟩,⟨s,y,m,k _ _ i g f,q⟩⟩
theorem Id{d p t:Addr}{rows:List Jp}(hu:A.units+1<cLine)(hh:A.handled=none)(C:d≠p)(af:t≠p)(Z:t≠d)(hl:its.size=rows.length)(ah:rows.length<=sizeLine):
  ∀ (k i:Nat) (s:Shared) (xs:List Jp),rows.length-i=k->i<=rows.length->xs.length<=i->s.heap.IsListIter p t i->s.heap.IsList t its->s.heap.DictOfH (tupleKind (zy prog w)) d xs->
    (∀(j:Nat) v r,its[j]?=some v->rows[j]?=some r->pU prog w s.heap d p v r)->
    (∀h' tk,h'.DictOfH (tupleKind (zy prog w)) d (xO xs (rows.drop i))->(∀b o,b≠d->b≠p->s.heap.get? b=some o->h'.get? b=some o)->R (.ok (.ret .none)) {s with heap:=h',toks:=tk})->
    codeAny (model prog w) A (.builtin "dict.update.loop" ⟨[.ref d,.ref p,rawInt i,.none],[]⟩) R s:=by
 intro k;induction k with| zero=>
   intro i s xs hk hi hz f P hd U hR;have e:i=rows.length:=by omega
   refine codeAny_builtin Ya ?_;rw[Around.under_plainId qe _];refine a4 (wpAny_pyNext_list_end (hh) f P (Array.getElem?_eq_none (by omega)) λh' eb=>?_);refine a4 (a9 (a9 ?_));refine hR h' s.toks ?_ λb o H l z=>eb b o l z;rw[e,List.drop_length];obtain⟨o,es,ep,X,hc,E,he,D,y⟩:=hd;refine⟨o,es,ep,eb d o C X,hc,E,he,λx G=>?_,y⟩;obtain⟨Q,aC,m,a,n⟩:=D x G;refine⟨Q,aC,m,eb _ _ (λz=>?_) a,n⟩;obtain⟨oi,u,F,_⟩:=f;rw[z,u]at a;cases a;rw[F]at n;exact absurd n.1 (by decide)| succ k ih=>
   intro i s xs hk hi hz f P hd U hR;have h:i<rows.length:=by omega
   have G:its[i]?=some its[i]:=eh (by omega);have hr:=bo h;have P0:=U i _ _ G hr;refine codeAny_builtin Ya ?_;rw[Around.under_plainId qe _];refine a4 (wpAny_pyNext_list_item f P G λg M K=>?_);have kg:∀c o,c≠d->c≠p->s.heap.get? c=some o->g.get? c=some o:=λc o _ l z=>K.extBut c o l z;obtain⟨b,hb,a5,a3,aS,aK,N,L⟩:=P0.keep kg;have ay:g.DictOfH (tupleKind (zy prog w)) d xs:=by obtain⟨o,es,ep,X,hc,E,he,D,y⟩:=hd;refine⟨o,es,ep,K.extBut d o C X,hc,E,he,λx G=>?_,y⟩;obtain⟨Q,aC,m,a,n⟩:=D x G;refine⟨Q,aC,m,K.extBut _ _ (λz=>?_) a,n⟩;obtain⟨oi,u,F,_⟩:=f;rw[z,u]at a;cases a;rw[F]at n;exact absurd n.1 (by decide)
   rw[hb];refine a4 (wpAny_holding (a4 (wpAny_tryCatch ?_)));unfold Builtin.Dict.pairItems;refine a4 (wpAny_typeOf (Heap.IsTuple.typeIs N) ?_);rw[if_pos (by rfl)];obtain⟨ob,W,_,nb,av⟩:=N;refine a4 (wpAny_seqItems W av (a9 ?_));refine wpAny_holding (wpAny_dictSet_heap (tupleKind_room_in1 hu) L ay (λg2 aw q=>?_) (c9 (Nat.le_of_lt (ef hz h)) ah));refine a9 ⟨plainId_quiet qe _,?_⟩;have e1:rawInt (i+1)=rawInt ((i+1:Nat)):=by simp
   have keep:=λc o H l z=>q.extBut c o H (K.extBut c o l z);rw[e1];have lz:=L4 xs rows[i].1 rows[i].2.1 rows[i].2.2;refine ih (i+1) _ _ (by omega) h (by omega) (M.extBut q.extBut (ai C)) (P.extBut K.extBut af |>.extBut q.extBut Z) aw (λj v r hv S=>(U j v r hv S).keep keep) λh' tk hD ap=>?_;refine hR h' tk ?_ λc o H l z=>ap c o H l (keep c o H l z);have e2:=List.drop_eq_getElem_cons h;rw[e2];exact hD
end
inductive dP(H:Hp)(b:Addr)(r:List Int×V):Prop|mk:∀kb,H b=some (.tup [.ref kb,r.2])->H kb=some (.tup (r.1.map V.int))->dP H b r
theorem wP{X:Cx}{c:List (Addr×Obj)}{i:St}{H:Hp}{s:Shared}(I:Inv X c i H s):∀{d:List Addr}{rows:List (List Int×V)},Paired (dP H) d rows->∃a:List Jp,a.length=d.length/\Paired (λ(r:List Int×V) (q:Jp)=>kI r.1=q.1/\H q.2.1=some (.tup (q.1.map kV))/\ym r.2 q.2.2) rows a/\
  ∀(j:Nat) b q,d[j]?=some b->a[j]?=some q->s.heap.IsTuple b #[.ref q.2.1,q.2.2]/\(tupleKind (zy X.prog X.w)).is s.heap q.1 q.2.1
 |_,_,.nil=>⟨[],J,.nil,λj b q e=>by simp⟩
 | b ::d,r::rows,.cons h t=>by
   obtain⟨a,C,y,A⟩:=wP I t;obtain⟨v,e,hk⟩:=h;obtain⟨_,w,m,x,_⟩:=(I.hok b _ e)
   cases m with
   | @cons _ z _ _ u p=>
     cases p with
     | @cons _ l _ _ o n=>
       cases n;cases(u);rw[<-lx]at hk;refine⟨(kI r.1,v,l)::a,by grind,.cons ⟨J,hk,o⟩ y,λj D q g f=>?_⟩;cases j with
       | zero=>simp at g f;subst g f;exact⟨x,Yn I.hok hk⟩
       |succ j=>grind
section
end
section
end
end L2
namespace L2
open PySem PySem.Spec PyProof.Rows PySem.W
variable{A:Around}{Q:Bool->Shared->Prop}{s:Shared}{E:Value->Shared->Prop}
section
variable{prog:Program}{w:World}{K:Type}[DecidableEq K](knd:KeyKind prog w K)
variable{knd}
theorem IT{n:Nat}{f:O K}{a:Y}(hk:IsTupleKey knd s.heap f a)(h:Q true s):wpAny (model prog w) A (eqIsQuiet (n+1) (.ref a)) Q E s:=by have hT:=hk.typeIs;obtain⟨o,q,m,g,_,j,i⟩:=hk;unfold eqIsQuiet;refine a4 (wpAny_specialOf hT F.slot_tuple_eq.lookup ?_);refine a4 (di hT isSubtype_tuple_tuple ?_);simp only[Bool.not_true,Bool.false_eq_true,if_false];refine a4 (wpAny_seqItems g j ?_);refine a4 ?_;rw[<-Array.forIn_toList];refine wpAny_forIn_list _ (λZc r c=>r.1=none/\c=s/\∀v∈Zc,carriedByValue v=true) _ ?_ ?_ _ _ ⟨J,J,i.byValue⟩;rintro v Zc r c ⟨e,rfl,b⟩;rw[eqIsQuiet_byValue _ (b v bp)];refine a4 (a9 ?_);simp only[Bool.not_true,Bool.false_eq_true,if_false];exact a9 ⟨J,J,λu d=>b u (bq _ d)⟩;rintro⟨p,l⟩ c ⟨e,rfl,_⟩;simp only at e;subst e;exact a9 h
end
noncomputable def tN(k:List (List Int)):T:=.tup (k.map tI)
abbrev CA:=List (List Int)
variable{kvs:List (CA×V)}{P:Program}
theorem uA:∀(a:List Int),qt (a.map T.int)|[]=>trivial|c::a=>⟨trivial,uA a⟩
section
variable{w:World}{H H':Hp}{d:Addr}
end
section
variable{X:Cx}{o i e aY:Expr}{aD cN cY:Pos}{td ty tv:TE}
end
end L2
namespace L2
open PySem PySem.Spec PyProof.Rows
variable{a b it t1 t2:Addr}{A:Around}{a1 a2 its:Array Value}{X:Cx}{e:Expr}{h:Heap}{H:Hp}{pins:List (Addr×Obj)}{kvs:List (Str×V)}{cZ es:List Expr}{cap:List Nat}{xs zs:List V}{i:Nat}{Q:Option Value->Shared->Prop}{aD:Pos}{P prog:Program}{R:Result->Shared->Prop}{s:Shared}{σ:St}{te:TE}{g:TG}{tc:TT}{E:Value->Shared->Prop}{w:World}
def ll(h h':Heap):Prop:=∀c o,o.cls=.type "tuple"->h.get? c=some o->h'.get? c=some o
section
variable{h':Heap}
end
section
end
inductive kG(i:Nat)(σ:St)(H:Hp)(Q:VK):Prop|mk:∀v,σ[i]?=some (some v)->Q v H->kG i σ H Q
theorem aN(i:Nat){x:Str}(g:X.N[i]?=some x:=by rfl)(d:autoParam (nz X.env.scope x) Cm._auto_1)(f:(x==("__debug__":Str))=false:=by decide)
 (b:(x==("__classdict__":Str))=false:=by decide):PE X (.Name x aD) (kG i):=λa s c H Q I ⟨_,e,q⟩=>pv i g d f b a s c H Q I (wH e q)
section
theorem Mq{t:Y}{v:I}(a:s.heap.IsListIter it t i)(c:s.heap.IsList t its)(b:its[i]?=some v)(k:∀g,g.IsListIter it t (i+1)->Heap.SameBut it s.heap g->Q (some v) {s with heap:=g}):wpAny (model prog w) A (Builtin.SmallTypes.nextOrEnd (.ref it)) Q E s:=by unfold Builtin.SmallTypes.nextOrEnd;exact a4 (wpAny_attempt (wpAny_nextOf_list_item a c b λg e d=>a9 (k g e d)))
theorem Qx{t:Y}(hh:A.handled=none)(a:s.heap.IsListIter it t i)(d:s.heap.IsList t its)(c:its[i]?=none)(k:∀g,Heap.ExtBut it s.heap g->Q none {s with heap:=g}):wpAny (model prog w) A (Builtin.SmallTypes.nextOrEnd (.ref it)) Q E s:=by unfold Builtin.SmallTypes.nextOrEnd;refine a4 (wpAny_attempt (wpAny_nextOf_list_end hh a d c λg x b ⟨o,e,f⟩=>?_));exact a4 (di (T:="StopIteration") (b:=true) ⟨o,e,f⟩ isSubtype_stop (a9 (k _ b)))
theorem JG{z v to h f:Y}{v1 v2 a b:I}(hz:qz s.heap z v to .none)(aw:mP s.heap v h f)(bb:s.heap.get? to=some {cls:=.type "tuple",data:=.seq #[a,b]})
  (bd:s.heap.IsTupleIter h t1 i) (bc:s.heap.IsListIter f t2 i)
  (h1:s.heap.IsTuple t1 a1) (h2:s.heap.IsList t2 a2) (e1:a1[i]?=some v1) (e2:a2[i]?=some v2) (nd:[z,v,to,h,f].Nodup) (nt:t1 ∉ [z,to,h,f]/\t2 ∉ [z,to,h,f])
  (k:∀g,qz g z v to (rawInt s.heap.objs.size)->mP g v h f->g.get? to=some {cls:=.type "tuple",data:=.seq #[v1,v2]}->g.IsTupleIter h t1 (i+1)->g.IsListIter f t2 (i+1)-> g.get? s.heap.objs.size=some {cls:=.type "tuple",data:=.seq #[v1,v2]}->g.objs.size=s.heap.objs.size+1->(∀c o,c≠z->c≠to->c≠h->c≠f->s.heap.get? c=some o->g.get? c=some o)->Q (some (.ref s.heap.objs.size)) {s with heap:=g}):
  wpAny (model prog w) A (pyNext (.ref z)) Q E s:=by
 have hT:s.TypeIs (.ref z) "zip":=⟨_,hz,J⟩
 simp only[bz,ag,c5,or_false,not_or,not_false_eq_true,List.nodup_nil,and_true]at nd;simp only[ag,c5,or_false,not_or]at nt;obtain⟨⟨n1,n2,n3,n4⟩,⟨n5,n6,n7⟩,⟨n8,n9⟩,af⟩:=nd;obtain⟨⟨m1,m2,m3,m4⟩,m5,m6,m7,m8⟩:=nt;unfold pyNext;refine a4 (wpAny_attempt (wpAny_callSpecial?_slot (name:=Str.ofString "__next__") hT PySem.F.slot_zip_next (cf PySem.F.slot_zip_next hT PySem.F.entry_zip_next ?_ (PySem.F.args_zip_next_1 _))));obtain⟨H,K,d,G,os⟩:=s;show wpAny _ _ (field (.ref z) 2>>=_) _ _ _;refine a4 (wpAny_field hz J (x:=.bool true) J ?_);show wpAny _ _ (field (.ref z) 3>>=_) _ _ _;refine a4 (wpAny_field hz J (x:=.ref v) J ?_);refine a4 (wpAny_seqItems aw J ?_);dsimp only;refine a4 ?_;unfold Builtin.SmallTypes.ownedTupleIsFree;refine a4 (wpAny_field hz J (x:=.none) J (a9 ?_));simp only[if_true];refine a4 (wpAny_rule (a4 (wpAny_field hz J (x:=.ref to) J ?_)));dsimp only;refine a4 (wpAny_setField_rec hz (by simp) λL U j=>?_);replace j:Heap.SameBut z H L:=j;replace U:qz L z v to .ellipsis:=U;refine a4 ?_;have av:L.get? to=some {cls:=.type "tuple",data:=.seq #[a,b]}:=j.extBut _ _ (ai n2) bb;have a7:L.IsTupleIter h t1 i:=bd.extBut j.extBut (ai n3);have a3:L.IsListIter f t2 i:=bc.extBut j.extBut (ai n4);have bi:L.IsTuple t1 a1:=h1.extBut j.extBut m1;have bh:L.IsList t2 a2:=h2.extBut j.extBut m5;rw[show([Value.ref h,Value.ref f]:O I).zipIdx=[(Value.ref h,0),(Value.ref f,1)]from rfl,List.forIn_cons];refine a4 (a4 (wpAny_onRaise ?_));show wpAny _ _ (Builtin.SmallTypes.nextOrEnd (.ref h)) _ _ ⟨L,K,d,G,os⟩;refine Mr a7 bi e1 λg2 a6 m=>?_;replace m:Heap.SameBut h L g2:=m;dsimp only;have N:g2.get? to=some {cls:=.type "tuple",data:=.seq #[a,b]}:=m.extBut _ _ n8 av;refine a4 (wpAny_seqItems (s:=⟨g2,K,d,G,os⟩) N J ?_);dsimp only;refine a4 (wpAny_updateSeq_pair (s:=⟨g2,K,d,G,os⟩) N λW C l=>?_);replace l:Heap.SameBut to g2 W:=l;replace C:W.get? to=some {cls:=.type "tuple",data:=.seq #[v1,b]}:=C;refine a4 (wpAny_letGo (a9 ?_));dsimp only;rw[List.forIn_cons];refine a4 (a4 (wpAny_onRaise ?_));show wpAny _ _ (Builtin.SmallTypes.nextOrEnd (.ref f)) _ _ ⟨W,K,d,G,os⟩;have aS:W.IsListIter f t2 i:=(a3.extBut m.extBut (ai af)).extBut l.extBut (ai n9);have bg:W.IsList t2 a2:=(bh.extBut m.extBut m7).extBut l.extBut m6;refine Mq aS bg e2 λg4 aK t=>?_;replace t:Heap.SameBut f W g4:=t;dsimp only;have M:g4.get? to=some {cls:=.type "tuple",data:=.seq #[v1,b]}:=t.extBut _ _ n9 C;refine a4 (wpAny_seqItems (s:=⟨g4,K,d,G,os⟩) M J ?_);dsimp only;refine a4 (wpAny_updateSeq_pair (s:=⟨g4,K,d,G,os⟩) M λn u p=>?_);replace p:Heap.SameBut to g4 n:=p;replace u:n.get? to=some {cls:=.type "tuple",data:=.seq #[v1,v2]}:=u;refine a4 (wpAny_letGo (a9 ?_));dsimp only;rw[List.forIn_nil];refine a9 ?_;dsimp only;refine a4 (wpAny_seqItems (s:=⟨n,K,d,G,os⟩) u J ?_);dsimp only;refine a4 (wpAny_newTuple (s:=⟨n,K,d,G,os⟩) ?_);have ba:qz n z v to .ellipsis:=p.extBut _ _ n2 (t.extBut _ _ n4 (l.extBut _ _ n2 (m.extBut _ _ n3 U)));have P:n.objs.size=H.objs.size:=by rw[p.1,t.1,l.1,m.1,j.1]
 have y:∀c o,c≠z->c≠to->c≠h->c≠f->H.get? c=some o->n.get? c=some o:=λc o q1 q2 q3 q4 e=>p.extBut c o q2 (t.extBut c o q4 (l.extBut c o q2 (m.extBut c o q3 (j.extBut c o q1 e))));have a5:n.IsTupleIter h t1 (i+1):=((a6.extBut l.extBut (ai n8)).extBut t.extBut af).extBut p.extBut (ai n8);have ay:n.IsListIter f t2 (i+1):=aK.extBut p.extBut (ai n9);have ah:z<H.objs.size:=aq hz;dsimp only;rw[P];have ap:qz (n.push {cls:=.type "tuple",data:=.seq [v1,v2].toArray}) z v to .ellipsis:=aj _ ba;have a8:(n.push {cls:=.type "tuple",data:=.seq [v1,v2].toArray}).get? H.objs.size=some {cls:=.type "tuple",data:=.seq #[v1,v2]}:=by rw[<-P];exact bf _ J
 have x:∀c o,n.get? c=some o->(n.push {cls:=.type "tuple",data:=.seq [v1,v2].toArray}).get? c=some o:=λc o e=>aj _ e;have Z:(n.push {cls:=.type "tuple",data:=.seq [v1,v2].toArray}).objs.size=H.objs.size+1:=by rw[dm,P]
 show wpAny _ _ (Builtin.SmallTypes.ownedTupleHandOut (.ref z) (.ref H.objs.size)>>=_) _ _ ⟨n.push {cls:=.type "tuple",data:=.seq [v1,v2].toArray},K,d,G,os⟩;generalize n.push {cls:=.type "tuple",data:=.seq [v1,v2].toArray}=g6 at ap a8 x Z⊢;refine a4 ?_;unfold Builtin.SmallTypes.ownedTupleHandOut;refine a4 (wpAny_setField_rec ap (by simp) λg7 S F=>?_);replace F:Heap.SameBut z g6 g7:=F;replace S:qz g7 z v to (rawInt H.objs.size):=S;refine wpAny_setField_rec S (by simp) λg8 R D=>?_;replace D:Heap.SameBut z g7 g8:=D;replace R:qz g8 z v to (rawInt H.objs.size):=R;have X:∀c o,c≠z->n.get? c=some o->g8.get? c=some o:=λc o q e=>D.extBut c o q (F.extBut c o q (x c o e));refine a9 ⟨_,J,a9 (k g8 R ?_ (X _ _ (ai n2) u) ?_ ?_ ?_ ?_ λc o q1 q2 q3 q4 e=>X c o q1 (y c o q1 q2 q3 q4 e))⟩;exact X _ _ (ai n1) (y _ _ (ai n1) n5 n6 n7 aw);obtain⟨o,e,r⟩:=a5;exact⟨o,X _ _ (ai n3) e,r⟩;obtain⟨o,e,r⟩:=ay;exact⟨o,X _ _ (ai n4) e,r⟩;exact D.extBut _ _ (df ah) (F.extBut _ _ (df ah) a8);rw[D.1,F.1,Z]
theorem ID{z t to h f:Y}{a b:I}(hh:A.handled=none)(hz:qz s.heap z t to .none)(L:mP s.heap t h f)(ah:s.heap.get? to=some {cls:=.type "tuple",data:=.seq #[a,b]})
  (N:s.heap.IsTupleIter h t1 i) (M:s.heap.IsListIter f t2 i)
  (h1:s.heap.IsTuple t1 a1) (h2:s.heap.IsList t2 a2) (e1:a1[i]?=none) (e2:a2[i]?=none) (X:[z,t,to,h,f].Nodup) (W:t1 ∉ [z,to,h,f]/\t2 ∉ [z,to,h,f])
  (k:∀g,(∀c o,c≠z->c≠h->c≠f->s.heap.get? c=some o->g.get? c=some o)->Q none {s with heap:=g}):
  wpAny (model prog w) A (pyNext (.ref z)) Q E s:=by
 have hT:s.TypeIs (.ref z) "zip":=⟨_,hz,J⟩
 simp only[bz,ag,c5,or_false,not_or,not_false_eq_true,List.nodup_nil,and_true]at X;simp only[ag,c5,or_false,not_or]at W;obtain⟨⟨n1,n2,n3,Z⟩,⟨n5,n6,n7⟩,⟨n8,n9⟩,H⟩:=X;obtain⟨⟨m1,m2,m3,m4⟩,m5,m6,m7,m8⟩:=W;unfold pyNext;refine a4 (wpAny_attempt (wpAny_callSpecial?_slot (name:=Str.ofString "__next__") hT PySem.F.slot_zip_next (cf PySem.F.slot_zip_next hT PySem.F.entry_zip_next ?_ (PySem.F.args_zip_next_1 _))));obtain⟨hp,gs,d,U,os⟩:=s;show wpAny _ _ (field (.ref z) 2>>=_) _ _ _;refine a4 (wpAny_field hz J (x:=.bool true) J ?_);show wpAny _ _ (field (.ref z) 3>>=_) _ _ _;refine a4 (wpAny_field hz J (x:=.ref t) J ?_);refine a4 (wpAny_seqItems L J ?_);dsimp only;refine a4 ?_;unfold Builtin.SmallTypes.ownedTupleIsFree;refine a4 (wpAny_field hz J (x:=.none) J (a9 ?_));simp only[if_true];refine a4 (wpAny_rule (a4 (wpAny_field hz J (x:=.ref to) J ?_)));dsimp only;refine a4 (wpAny_setField_rec hz (by simp) λn q j=>?_);replace j:Heap.SameBut z hp n:=j;replace q:qz n z t to .ellipsis:=q;refine a4 ?_;have x:n.IsTupleIter h t1 i:=N.extBut j.extBut (ai n3);have v:n.IsListIter f t2 i:=M.extBut j.extBut (ai Z);have S:n.IsTuple t1 a1:=h1.extBut j.extBut m1;have R:n.IsList t2 a2:=h2.extBut j.extBut m5;rw[show([Value.ref h,Value.ref f]:O I).zipIdx=[(Value.ref h,0),(Value.ref f,1)]from rfl,List.forIn_cons];refine a4 (a4 (wpAny_onRaise ?_));show wpAny _ _ (Builtin.SmallTypes.nextOrEnd (.ref h)) _ _ ⟨n,gs,d,U,os⟩;refine Qw hh x S e1 λD l=>?_;replace l:Heap.ExtBut h n D:=l;dsimp only;have K:qz D z t to .ellipsis:=l _ _ n3 q;refine a4 (wpAny_setField_rec (s:=⟨D,gs,d,U,os⟩) K (by simp) λC af m=>?_);replace m:Heap.SameBut z D C:=m;have u:C.IsListIter f t2 i:=(v.extBut l (ai H)).extBut m.extBut (ai Z);have P:C.IsList t2 a2:=(R.extBut l m7).extBut m.extBut m5;refine a4 ?_;show wpAny _ _ (forIn [(Value.ref f,1)] PUnit.unit _>>=_) _ _ _;refine a4 ?_;rw[List.forIn_cons];refine a4 ?_;dsimp only;refine a4 (Qx hh u P e2 λg4 r=>?_);replace r:Heap.ExtBut f C g4:=r;simp only[Option.isSome_none,Bool.false_eq_true,if_false];refine a9 ?_;dsimp only;rw[List.forIn_nil];refine a9 (a4 (wpAny_rule ?_));have p:∀c o,c≠z->c≠h->c≠f->hp.get? c=some o->g4.get? c=some o:=λc o y G F e=>r c o F (m.extBut c o y (l c o G (j.extBut c o y e)));unfold Builtin.SmallTypes.stopIteration;show wpAny _ _ (newExc (.type "StopIteration") []>>=_) _ _ _;refine a4 ?_;simp only[newExc,newTuple];refine a4 (cx ?_ (by size_fits));refine a4 (m:=firstArgMember _ _) (wpAny_of_eq (a:=Value.none) (by first|rfl|(simp only[firstArgMember];rfl)) ?_);refine cx ?_ (by size_fits);simp only[raiseNew];refine a4 (wpAny_handled ?_);first|rw[show A.in1.handled=none from hh]|rw[hh]
 refine a4 (a9 (wpAny_throw ?_));exact a4 (di (T:="StopIteration") (b:=true) ⟨_,bf _ J,J⟩ isSubtype_stop (a9 (k _ λc o y G F e=>aj _ (aj _ (p c o y G F e)))))
end
theorem rP(b:bZ P w H h)(e:H a=some (.lst xs)):∃its:O I,yn xs its/\h.IsList a its.toArray:=by
 obtain⟨_,its,n,r,t⟩:=(show va P w H h a (.lst xs)from b a _ e)
 exact⟨its,r,_,t,J,n,J⟩
noncomputable def fS(h:Heap)(U G:Addr):Heap:=((((h.push {cls:=.type "tuple_iterator",data:=.fields #[.ref U,.int 0 0]}).push {cls:=.type "list_iterator",data:=.fields #[.ref G,.int 0 0]}).push {cls:=.type "tuple",data:=.seq #[.ref h.objs.size,.ref (h.objs.size+1)]}).push {cls:=.type "tuple",data:=.seq #[.none,.none]}).push {cls:=.type "zip",data:=.fields #[.none,.bool false,.bool true,.ref (h.objs.size+2),.ref (h.objs.size+3)]}
theorem EF(h:Heap)(i d:Y):qz (fS h i d) (h.objs.size+4) (h.objs.size+2) (h.objs.size+3) .none/\mP (fS h i d) (h.objs.size+2) h.objs.size (h.objs.size+1)/\(fS h i d).get? (h.objs.size+3)=some {cls:=.type "tuple",data:=.seq #[.none,.none]}/\
  (fS h i d).IsTupleIter h.objs.size i 0/\(fS h i d).IsListIter (h.objs.size+1) d 0/\(fS h i d).objs.size=h.objs.size+5/\∀c o,h.get? c=some o->(fS h i d).get? c=some o:=by
 have b:∀(g:Heap)(o:Obj)(n:Nat),g.objs.size=n->o.isFreed=false->(g.push o).get? n=some o:=λg o n e f=>by rw[<-e];exact bf _ f
 have a:∀(g:Heap)(o:Obj)(n:Nat),g.objs.size=n->(g.push o).objs.size=n+1:=λg o n e=>by rw[dm,e]
 refine⟨?_,?_,?_,?_,?_,?_,λc o e=>?_⟩;exact b _ _ _ (a _ _ _ (a _ _ _ (a _ _ _ (a _ _ _ J)))) J;exact aj _ (aj _ (b _ _ _ (a _ _ _ (a _ _ _ J)) J));exact aj _ (b _ _ _ (a _ _ _ (a _ _ _ (a _ _ _ J))) J);exact⟨_,aj _ (aj _ (aj _ (aj _ (b _ _ _ J J)))),J,J⟩;exact⟨_,aj _ (aj _ (aj _ (b _ _ _ (a _ _ _ J) J))),J,J⟩;exact a _ _ _ (a _ _ _ (a _ _ _ (a _ _ _ (a _ _ _ J))));exact aj _ (aj _ (aj _ (aj _ (aj _ e))))
section
theorem GF(a b:Y)(r q:Array I)(n m:Nat)(x v:Option Y)(u t:Array (Option I)):Meets (Builtin.«zip.__new__» ⟨[.type "zip",.ref a,.ref b],[("strict",.bool true)]⟩) (λ_ R s=>s.heap.get? a=some {cls:=.type "tuple",dict:=x,data:=.seq r n,slots:=u}/\s.heap.get? b=some {cls:=.type "list",dict:=v,data:=.seq q m,slots:=t}/\ R (.ok (.ret (.ref (s.heap.objs.size+4)))) {s with heap:=fS s.heap a b}):=
 .of_wp λl w A R s h=>by
  obtain⟨p,g,d,j,os⟩:=s;obtain⟨e,c,h⟩:=h;have o:=sub_zip;have i:Heap.IsTuple (Shared.heap ⟨p,g,d,j,os⟩) a r:=⟨_,e,J,n,J⟩
  have f:Heap.IsList (Shared.heap ⟨p.push {cls:=.type "tuple_iterator",data:=.fields #[.ref a,.int 0 0]},g,d,j,os⟩) b q:=⟨_,aj _ c,J,m,J⟩
  wp_walk using wpAny_pyIter_tuple i,wpAny_pyIter_list f
  refine⟨_,J,?_⟩;simp only[fS,dm,Nat.add_assoc,Nat.reduceAdd]at h⊢;exact h
theorem JZ{Q:Value->Shared->Prop}(h1:s.heap.IsTuple t1 a1)(Z:s.heap.IsList t2 a2)(k:∀g,qz g (s.heap.objs.size+4) (s.heap.objs.size+2) (s.heap.objs.size+3) .none->mP g (s.heap.objs.size+2) s.heap.objs.size (s.heap.objs.size+1)->g.get? (s.heap.objs.size+3)=some {cls:=.type "tuple",data:=.seq #[.none,.none]}-> g.IsTupleIter s.heap.objs.size t1 0->g.IsListIter (s.heap.objs.size+1) t2 0->g.objs.size=s.heap.objs.size+5->(∀c o,s.heap.get? c=some o->g.get? c=some o)->Q (.ref (s.heap.objs.size+4)) {s with heap:=g}):
  wpAny (model prog w) A (call (.type "zip") [.ref t1,.ref t2] [("strict",.bool true)]) Q E s:=by
 have f:=PySem.F.called_zip;obtain⟨c,tl,M⟩:=f.mro;have v:=f.made;have L:=f.sub;have W:checkTypeCall "zip" ⟨[.ref t1,.ref t2],[("strict",.bool true)]⟩=pure ():=by kernel_rfl
 have z:checkBuiltinCall "zip.__new__" ⟨[.type "zip",.ref t1,.ref t2],[("strict",.bool true)]⟩=pure ():=by kernel_rfl
 obtain⟨⟨c1,G,D,t⟩,y,m,K,j⟩:=h1;obtain⟨⟨c2,F,C,q⟩,x,l,H,i⟩:=Z;replace m:c1=.type "tuple":=m;replace l:c2=.type "list":=l;replace j:D=.seq a1 K:=j;replace i:C=.seq a2 H:=i;subst m l j i;refine wpAny_call (codeAny_of_tree ?_);show wpAny _ _ (callAny (.type "zip") _) _ _ _;refine a9 ⟨Code.quiet_builtin _ (by decide+kernel),codeAny_builtin PySem.F.entry_type_call ?_⟩;rw[Around.under_plain (weight_type_call_type "zip" _ _) (units_type_call_type "zip" _ _)];have R:=f.notType;have P:=f.canCreate
 repeat any_goals first|assumption|wp_step
 refine codeAny_mono (codeAny_call_builtin f.plain PySem.F.entry_zip_new (wpAny_of_eq z (GF t1 t2 a1 a2 K H G F t q prog w A.in1 (wants (λh d=>h=.ref (s.heap.objs.size+4)/\d={s with heap:=fS s.heap t1 t2}) E) s ⟨y,x,⟨J,J⟩⟩))) λr d u=>?_;cases r with
 |error e=>exact u
 | ok fl =>
   cases fl with
   | ret h=>
     obtain⟨rfl,rfl⟩:=(show h=.ref (s.heap.objs.size+4)/\d={s with heap:=fS s.heap t1 t2}from u)
     obtain⟨N,f2,f3,f4,f5,f6,f7⟩:=EF s.heap t1 t2;have hT:(⟨fS s.heap t1 t2,s.gens,s.drawn,s.toks,s.os⟩:Shared).TypeIs (.ref (s.heap.objs.size+4)) "zip":=⟨_,N,J⟩
     have U:=f.init.lookup;have X:=f.init.bind (.ref (s.heap.objs.size+4))
     repeat any_goals first|assumption|wp_step
     refine codeAny_mono (codeAny_call_builtin f.init.plain PySem.F.entry_object_init (f.init.check _ _ _ _ _ _ _ _ hT (CZ _ _ _) ?_)) (R:=wants (λr b=>r=.none/\b=⟨fS s.heap t1 t2,s.gens,s.drawn,s.toks,s.os⟩) E) λp b a=>?_
     . have S:(some "zip.__new__" !=some "object.__new__")=true:=by decide
       repeat any_goals first|assumption|wp_step
       exact⟨J,J⟩
     cases p with
     |error e=>exact a
     | ok n=>
       cases n with
       | ret r=>
         obtain⟨rfl,rfl⟩:=(show r=.none/\b=_ from a)
         repeat any_goals first|assumption|wp_step
         exact k _ N f2 f3 f4 f5 f6 f7
       |_=>exact a.elim
   |_=>exact u.elim
end
section
end
section
variable{k:Nat}{Q:VK}
end
theorem Ab:∀{xs:List Str}{us:List Value},yn (xs.map V.str) us->∃l:List (Str×Tok),us=strValues l/\l.map (λx=>x.1)=xs| [],_,r=>by cases r;exact⟨[],J,J⟩| x ::xs,_,r=>by cases r with| cons a b=>obtain⟨t,rfl⟩:=a;obtain⟨l,rfl,e⟩:=Ab b;exact⟨(x,t)::l,J,by rw[c4,e]⟩
theorem BK:∀(n:Nat)(xs:List Str),yn (xs.map V.str) (strsFrom n xs)|_,[]=>.nil|n,x::xs=>.cons ⟨_,J⟩ (BK (n+1) xs)
inductive kZ(x:V)(vs:List V)(H:Hp)(Q:VK):Prop|mk:∀sep p texts,x=.str sep->vs=[.ref p]->H p=some (.lst (texts.map V.str))->JoinOk sep texts=true->Q (.str (PySem.Txt.join sep texts)) H->kZ x vs H Q
inductive ia(x:V)(vs:List V)(H:Hp)(Q:VK):Prop|mk:∀a b,x=.str a->vs=[.str b]->(b.length==0)=false->a.length<=sizeLine->(PySem.Txt.split a b).length<=sizeLine->(∀l H',Same H H'->H l=none->H' l=some (.lst ((PySem.Txt.split a b).map V.str))->Q (.ref l) H')->ia x vs H Q
inductive fG(x:V)(vs:List V)(H:Hp)(Q:VK):Prop|mk:∀a b,x=.str a->vs=[.str b]->Q (.bl (PySem.Txt.startswith a b)) H->fG x vs H Q
section
theorem tR:mF X "str.join" kZ:=by
 intro c s A H x C v D Q I f g h;obtain⟨d,p,a,rfl,rfl,m,z,q⟩:=h;obtain⟨t,rfl⟩:=f;obtain⟨u,rfl,i⟩:=ql g;cases(show u=Value.ref p from i);obtain⟨F,j,n,r,w⟩:=(show va X.prog X.w H s.heap p (.lst (a.map V.str))from I.hok p _ m)
 obtain⟨l,rfl,y⟩:=Ab r;exact SC.join (l:=l) ⟨_,w,J,n,J⟩ y z λE k=>⟨.str _,H,I.kept (t':=k) (h':=s.heap) λb o e=>e,⟨_,J⟩,q⟩
theorem IA:mF X "str.startswith" fG:=by intro c s f H x g v i Q I d e h;obtain⟨a,b,rfl,rfl,q⟩:=h;obtain⟨t,rfl⟩:=d;obtain⟨u,rfl,j,rfl⟩:=ql e;exact SC.startswith ⟨.bl _,H,I,J,q⟩
theorem A3:mF X "str.split" ia:=by
 intro j s r H x C v l Q I w y h;obtain⟨a,b,rfl,rfl,p,z,hn,q⟩:=h;obtain⟨t,rfl⟩:=w;obtain⟨u,rfl,m,rfl⟩:=ql y;have hT:s.TypeIs (.str a t) "str":=typeIs_str s a t;have d:=I.hok.fresh (ae s.heap.objs.size);have f:∀{x:Str},PySem.Txt.split a b=[a]->∀{k:Nat}{l:Array Value}{n:Nat},l=#[.str a t]->EP X j r Q (.ref s.heap.objs.size) {s with heap:=s.heap.push {cls:=.type "list",data:=.seq l n},toks:=k}:=λ{_} e {k l n} A=>by subst A;refine⟨.ref s.heap.objs.size,_,I.laid (a:=s.heap.objs.size) (o:=.lst ((PySem.Txt.split a b).map V.str)) (t':=k) (λc o e=>aj _ e) (ae _) ⟨by rw[aa];exact hn,[.str a t],n,?_,bf _ J⟩,J,q _ _ (Same.new d _) d zd⟩;rw[e];exact .cons ⟨t,J⟩ .nil
 by_cases g:(decide (a.length<b.length) ||decide (Builtin.Str.strKind a<Builtin.Str.strKind b))=true;refine call_meets F.slot_str_split hT F.entry_str_split (F.args_str_split_2 _ _) (meets_str_split_cannot_occur a b t m g) ?_;exact f (x:=a) (by unfold PySem.Txt.split;rw[if_pos g]) J;have g:(decide (a.length<b.length) ||decide (Builtin.Str.strKind a<Builtin.Str.strKind b))=false:=by simpa using g
 by_cases i:(Builtin.Str.occurrences a b 0 a.length (a.length+1)).isEmpty=true;refine call_meets F.slot_str_split hT F.entry_str_split (F.args_str_split_2 _ _) (meets_str_split_not_found a b t m g p i) ?_;exact f (x:=a) (by unfold PySem.Txt.split;rw[if_neg (by rw[g];decide),if_pos i]) J;have i:(Builtin.Str.occurrences a b 0 a.length (a.length+1)).isEmpty=false:=by simpa using i
 have e:PySem.Txt.split a b=Builtin.Str.partsBetween a (Builtin.Str.occurrences a b 0 a.length (a.length+1)) b.length:=by unfold PySem.Txt.split;rw[if_neg (by rw[g];decide),if_neg (by rw[i];decide)]
 refine call_meets F.slot_str_split hT F.entry_str_split (F.args_str_split_2 _ _) (meets_str_split_sep a b t m g p i z (by rw[<-e];exact hn)) ?_;rw[<-e];refine⟨.ref s.heap.objs.size,_,I.laid (a:=s.heap.objs.size) (o:=.lst ((PySem.Txt.split a b).map V.str)) (λc o e=>aj _ e) (ae _) ⟨by rw[aa];exact hn,_,_,BK _ _,bf _ J⟩,J,q _ _ (Same.new d _) d zd⟩
theorem LV:jj X (.type "int") (λxs H Q=>∃n:Int,xs=[.str (toString n)]/\0<=n/\n<10^10/\Q (.int n) H):=by intro a s d H xs e Q I r h;obtain⟨n,rfl,c,b,q⟩:=h;obtain⟨u,rfl,t,rfl⟩:=ql r;exact W.KIN.call_num c b ⟨.int n,H,I.tok _,⟨_,J⟩,q⟩
end
abbrev TJ:=Str->TE
section
variable{e1 e2:Expr}{t:TJ}
end
section
variable{j k:Nat}{p0 p1 p2:Pos}
end
section
noncomputable def rw(K:W.Frag)(a b:Addr):It:=⟨λi H=>∃xs ys x y,aE K H a xs/\H b=some (.lst ys)/\xs[i]?=some x/\ys[i]?=some y,λi H v H'=>∃p x y,v=.ref p/\H p=none/\H'=upd H p (.tup [x,y])/\(∀xs,aE K H a xs->xs[i]?=some x)/\∀ys,H b=some (.lst ys)->ys[i]?=some y,λi H=>∃xs ys,aE K H a xs/\H b=some (.lst ys)/\xs.length<=i/\ys.length<=i⟩
theorem JE{K:W.Frag}{k1}(a b z G to j f:Y)(R:[z,G,to,j,f].Nodup)(na:a ∉ [z,G,to,j,f])(hb:sizeLine≥2):dD P w K (.Tuple cZ k1 aD) (rw K a b) [z,G,to,j,f] z (λi h=>qz h z G to .none/\mP h G j f/\(∃u v,h.get? to=some {cls:=.type "tuple",data:=.seq #[u,v]})/\h.IsTupleIter j a i/\h.IsListIter f b i) where
 mem:=by simp
 obj:=λi h st c l=>by
  obtain⟨S,D,⟨u,v,C⟩,h1,h2⟩:=st;simp only[ag,c5,or_false]at l;rcases l with rfl|rfl|rfl|rfl|rfl;exact⟨_,S,λv q=>by have q':Data.fields _=Data.cell v:=q;cases q'⟩
  exact⟨_,D,λv q=>by have q':Data.seq _ _=Data.cell v:=q;cases q'⟩
  exact⟨_,C,λv q=>by have q':Data.seq _ _=Data.cell v:=q;cases q'⟩
  obtain⟨o,e1,c,d⟩:=h1;exact⟨o,e1,λv q=>by rw[d]at q;cases q⟩;obtain⟨o,e1,c,d⟩:=h2;exact⟨o,e1,λv q=>by rw[d]at q;cases q⟩
 keep:=λi h h' st k=>by obtain⟨S,D,⟨u,v,C⟩,⟨o1,e1,r1⟩,o2,e2,r2⟩:=st;exact⟨k z (by simp) _ S,k G (by simp) _ D,⟨u,v,k to (by simp) _ C⟩,⟨o1,k j (by simp) o1 e1,r1⟩,o2,k f (by simp) o2 e2,r2⟩
 item:=by
  intro X hP hw hK l i ah s σ H E I Q st hg;subst hP hw hK;obtain⟨xs,ys,x,y,U,L,hx,hy⟩:=hg;obtain⟨a5,rv,p,_⟩:=I.tuple U;obtain⟨a3,ap,q⟩:=rP I.hok L;obtain⟨u,hu,ru⟩:=rv.get hx;obtain⟨v,hv,aS⟩:=ap.get hy;obtain⟨S,D,⟨u0,v0,C⟩,af,Z⟩:=st;have ff:∀c∈[z,G,to,j,f],H c=none:=λc l=>(Q c l).1;have ne:∀{c d:Y}{o:HO},H c=some o->d∈[z,G,to,j,f]->c≠d:=λ{c d o} e hd q=>by rw[q,ff d hd]at e;cases e
  refine JG S D C af Z p q (v1:=u) (v2:=v) (by simpa using hu) (by simpa using hv) R ⟨λm=>?_,λm=>?_⟩ λg gz ba a8 bc bb gT bd gk=>?_;simp only[ag,c5,or_false]at m;rcases m with m|m|m|m<;>exact na (by simp[m]);simp only[ag,c5,or_false]at m;rcases m with m|m|m|m<;>exact ne L (by simp) m;refine⟨.ref s.heap.objs.size,J,Iv gz λg' a7 F=>?_⟩;replace F:Heap.SameBut z g g':=F;have M:H s.heap.objs.size=none:=I.hok.fresh (ae _);have a6:∀c∈[z,G,to,j,f],c<s.heap.objs.size:=λc l=>by simp only[ag,c5,or_false]at l;rcases l with rfl|rfl|rfl|rfl|rfl;exact aq S;exact aq D;exact aq C;obtain⟨o,e,_⟩:=af;exact aq e;obtain⟨o,e,_⟩:=Z;exact aq e
  have ay:∀c∈[z,G,to,j,f],s.heap.objs.size≠c:=λc l=>df (a6 c l);have t:∀c o,c ∉ [z,to,j,f]->s.heap.get? c=some o->g'.get? c=some o:=λc o n e=>by simp only[ag,c5,or_false,not_or]at n;exact F.extBut c o n.1 (gk c o n.1 n.2.1 n.2.2.1 n.2.2.2 e)
  have aK:g'.get? s.heap.objs.size=some {cls:=.type "tuple",data:=.seq #[u,v]}:=F.extBut _ _ (ay z (by simp)) gT;have A:∀c o,H c=some o->c ∉ [z,to,j,f]:=λc o e m=>ne e (show c∈[z,G,to,j,f] by simp only[ag,c5,or_false]at m⊢;rcases m with m|m|m|m<;>simp[m]) J
  have I1:Inv X ah σ (upd H s.heap.objs.size (.tup [x,y])) {s with heap:=g',toks:=s.toks}:=by
   refine I.step (g':=s.gens) (d':=s.drawn) (ch:=[z,to,j,f]) (λc l=>?_) (λc o n1 n2 N e _=>t c o N e)
    (λc o n1 n2 N e _=>⟨o.slots,t c o N e⟩) (λc o N e n=>?_) (λc o N e=>⟨o,t c o N e⟩)
    (λc zs e=>by rw[upd_ne (zj e M)];exact e) (λc o zs e=>by rw[upd_ne (zj e M)];exact e) (λc ps e=>⟨#[],by rw[upd_ne (zj e M),e];simp⟩) (λm hm=>?_) (λc ob e=>?_) I.bare
   obtain⟨f0,f1,f2,f3,f4,f5⟩:=Q c (by simp only[ag,c5,or_false]at l⊢;rcases l with l|l|l|l<;>simp[l])
   exact⟨f3,f1,f4,f5⟩;rw[upd_ne (az (aq e))];exact n;obtain⟨o,es,ep,av,r⟩:=hm;refine⟨o,es,ep,t _ o (λm=>?_) av,r⟩;simp only[ag,c5,or_false]at m;rcases m with m|m|m|m;exact(Q z (by simp)).2.1 m.symm;exact(Q to (by simp)).2.1 m.symm;exact(Q j (by simp)).2.1 m.symm;exact(Q f (by simp)).2.1 m.symm;by_cases aw:c=s.heap.objs.size;subst aw;rw[zd]at e;cases e;exact⟨by show 2<=sizeLine;omega,[u,v],.cons ru (.cons aS .nil),⟨_,aK,J,_,J⟩,λq hq=>by have hq:g'.get? s.heap.objs.size=some q:=hq;rw[aK]at hq;cases hq;rfl⟩
   rw[upd_ne aw]at e;refine(I.hok c ob e).stay (λd o l q=>?_) (λd q=>by rw[upd_ne (zj q M)];exact q) λd zs q=>by rw[upd_ne (zj q M)];exact q
   rcases l with rfl|l;exact t d o (A d _ e) q;exact t d o (A d _ l) q
  refine⟨.ref s.heap.objs.size,_,I1,J,⟨_,x,y,J,M,J,λzs e=>by rw[<-I.tuple_inj U e];exact hx,λzs e=>by rw[L]at e;cases e;exact hy⟩,⟨a7,F.extBut _ _ ?_ ba,⟨u,v,F.extBut _ _ ?_ a8⟩,bc.extBut F.extBut ?_,bb.extBut F.extBut ?_⟩,λc l=>?_⟩;simp only[bz,ag,c5,or_false,not_or]at R;exact ai R.1.1;simp only[bz,ag,c5,or_false,not_or]at R;exact ai R.1.2.1;simp only[bz,ag,c5,or_false,not_or]at R;exact ai R.1.2.2.1;simp only[bz,ag,c5,or_false,not_or]at R;exact ai R.1.2.2.2;rw[upd_ne (ai (ay c l))];exact ff c l
 done:=by
  intro X hP hw hK l i ah s σ H E I Q st hg;subst hP hw hK;obtain⟨xs,ys,U,L,hx,hy⟩:=hg;obtain⟨a5,rv,p,_⟩:=I.tuple U;obtain⟨a3,ap,q⟩:=rP I.hok L;obtain⟨S,D,⟨u0,v0,C⟩,af,Z⟩:=st;have ff:∀c∈[z,G,to,j,f],H c=none:=λc l=>(Q c l).1;have ne:∀{c d:Y}{o:HO},H c=some o->d∈[z,G,to,j,f]->c≠d:=λ{c d o} e hd q=>by rw[q,ff d hd]at e;cases e
  have l1:=rv.length;have l2:=ap.length;refine ID (I.ok.hd l) S D C af Z p q (by simp;omega) (by simp;omega) R ⟨λm=>?_,λm=>?_⟩ λg gk=>⟨J,?_⟩
  simp only[ag,c5,or_false]at m;rcases m with m|m|m|m<;>exact na (by simp[m]);simp only[ag,c5,or_false]at m;rcases m with m|m|m|m<;>exact ne L (by simp) m;have t:∀c o,c ∉ [z,j,f]->s.heap.get? c=some o->g.get? c=some o:=λc o n e=>by simp only[ag,c5,or_false,not_or]at n;exact gk c o n.1 n.2.1 n.2.2 e
  have A:∀c o,H c=some o->c ∉ [z,j,f]:=λc o e m=>ne e (show c∈[z,G,to,j,f] by simp only[ag,c5,or_false]at m⊢;rcases m with m|m|m<;>simp[m]) J
  refine I.step (g':=s.gens) (t':=s.toks) (d':=s.drawn) (ch:=[z,j,f]) (λc l=>?_) (λc o n1 n2 N e _=>t c o N e)
   (λc o n1 n2 N e _=>⟨o.slots,t c o N e⟩) (λ_ _ _ _ n=>n) (λc o N e=>⟨o,t c o N e⟩)
   (λ_ _ e=>e) (λ_ _ _ e=>e) (λc ps e=>⟨#[],by rw[e];simp⟩) (λm hm=>?_) (λc ob e=>?_) I.bare
  obtain⟨f0,f1,f2,f3,f4,f5⟩:=Q c (by simp only[ag,c5,or_false]at l⊢;rcases l with l|l|l<;>simp[l])
  exact⟨f3,f1,f4,f5⟩;obtain⟨o,es,ep,av,r⟩:=hm;refine⟨o,es,ep,t _ o (λm=>?_) av,r⟩;simp only[ag,c5,or_false]at m;rcases m with m|m|m;exact(Q z (by simp)).2.1 m.symm;exact(Q j (by simp)).2.1 m.symm;exact(Q f (by simp)).2.1 m.symm;refine(I.hok c ob e).stay (λd o l q=>?_) (λd q=>q) λd zs q=>q;rcases l with rfl|l;exact t d o (A d _ e) q;exact t d o (A d _ l) q
 self:=λ_ _ _ _ _ st h=>by obtain⟨S,_⟩:=st;exact AD S h
end
section
inductive ir(K:W.Frag)(R:It->Hp->Prop)(vs:List V)(H1:Hp):Prop|mk:∀a b xs ys,vs=[.ref a,.ref b]->aE K H1 a xs->H1 b=some (.lst ys)->R (rw K a b) H1->ir K R vs H1
def Df(K:W.Frag)(ta:TA):TI:=λσ H R=>ta σ H λvs H1=>ir K R vs H1
theorem F6{S P}{cY N Z:Pos}{a b:Expr}{ta:TA}{p:Pos}(hg:Gl X "zip")(hm:X.mg "zip"=none)(ha:PA X [a,b] ta)(hs:starEach [a,b] X.env=(false,eval a X.env)::starEach [b] X.env:=by rfl)(n:((backTo aD (starEach [a,b] X.env)).any (·.1))=false:=by rfl):PI X (.Tuple cZ S cY) (.Call (.Name "zip" p) [a,b] [⟨some "strict",.Constant (.bool true) P N,Z⟩] aD) (Df X.K ta):=by
 intro i s x H R I h;refine wpAny_Call_Name_kw (Ym I hg hm F3 ?_);refine W.callWith_of (P:=λ_=>True) (by rw[n];rfl) (λh _=>⟨.machine,.inr (.inl J),?_⟩) ?_;exact λA Q E s _ q=>(show wpAny _ A (pure Keeper.machine) Q E s from a9 q)
 have w:backTo aD (starEach [a,b] X.env)=(false,eval a X.env)::backTo aD (starEach [b] X.env):=by rw[hs];rfl
 rw[w];refine evalArgs_kwB J ?_;rw[<-w];refine aF (ha aD i s x H _ I h) λus d ⟨vs,H1,j,K,L⟩=>?_;obtain⟨l,y,xs,ys,rfl,hx,hy,q⟩:=L;refine kws_cons (Constant_bool (kws_nil ⟨trivial,?_⟩));cases K with| cons G C=>
   cases C with| cons F D=>
     cases D;cases G;cases F;obtain⟨af,rv,r,_⟩:=j.tuple hx;have f:l<d.heap.objs.size:=by obtain⟨o,e,_⟩:=r;exact aq e
     obtain⟨U,z,M⟩:=rP j.hok hy;refine JZ r M λg v f2 f3 f4 f5 f6 f7=>?_;refine AD v ?_;refine⟨d.heap.objs.size+4,[d.heap.objs.size+4,d.heap.objs.size+2,d.heap.objs.size+3,d.heap.objs.size,d.heap.objs.size+1],_,_,H1,J,j.kept (t':=d.toks) f7,JE l y _ _ _ _ _ (by simp) (λm=>by have f:(l:Nat)<d.heap.objs.size:=f;simp only[ag,c5,or_false]at m;rcases m with m|m|m|m|m<;>first|exact Nat.not_lt.mpr (Nat.le_add_right _ _) (m▸f)|exact cy _ (m▸f)) (by rw[sizeLine_eq];omega),⟨v,f2,⟨_,_,f3⟩,f4,f5⟩,λc u=>?_,q⟩
     have t:d.heap.objs.size<=c:=by simp only[ag,c5,or_false]at u;rcases u with rfl|rfl|rfl|rfl|rfl<;>omega
     exact j.fpOk t (j.hok.fresh t)
end
section
variable{K:W.Frag}{k:Nat}{Q:VK}
theorem FJ(E:xs.length=zs.length)(Pv:Nat->O V->Hp->Prop)(h0:Pv 0 [] H)(hl:∀i ys H,i<=xs.length->Pv i ys H->aE K H a xs/\H b=some (.lst zs)/\ys.length<=sizeLine)(hs:∀i x z ys H p,xs[i]?=some x->zs[i]?=some z->Pv i ys H->H p=none->g (.ref p) (bQ k cap σ) (upd H p (.tup [x,z])) λc H2=>tc c H2 λb q=>if b=true then te c q λy C=>Pv (i+1) (ys++[y]) C else Pv (i+1) ys q)
  (A:∀ys H,Pv xs.length ys H->∀p,H p=none->Q (.ref p) (upd H p (.lst ys))):bX (rw K a b) g tc te k cap σ H Q:=by
 refine⟨λi m ys H=>m=xs.length-i/\i<=xs.length/\Pv i ys H,⟨xs.length,by simp,be _,h0⟩,?_⟩;rintro i m ys H ⟨rfl,w,p⟩;obtain⟨h,f,o⟩:=hl i ys H w p;by_cases d:i<xs.length;have n:i<zs.length:=by omega
 refine .inr ⟨⟨xs,zs,xs[i],zs[i],h,f,by simp[d],by simp[n]⟩,o,Pv (i+1),λr D j=>⟨xs.length-(i+1),by omega,J,d,j⟩,λx D y=>?_⟩;obtain⟨j,t,s,rfl,l,rfl,v,u⟩:=y;exact hs i t s ys H j (v xs h) (u zs f) p l;have e:i=xs.length:=by omega
 subst e;exact .inl ⟨⟨xs,zs,h,f,ae _,by omega⟩,o,A ys H p⟩
end
noncomputable def sP(w:World)(l:List (Str×Tok×Value)):List DictEntry:=l.map λx=>⟨hashStr w x.1,.str x.1 x.2.1,x.2.2⟩
def nM(w:World)(K:W.Frag)(a:Addr)(kvs:List (Str×V)):Prop:=(a==sysModules)=false/\(kvs.map (·.1)).Nodup/\∃(l:List (Str×Tok×Value))(ep:Nat),K.lookup a=some ⟨.type "dict",none,.dict (sP w l).toArray ep,#[]⟩/\Paired (λ(p:Str×V) (q:Str×Tok×Value)=>p.1=q.1/\ym p.2 q.2.2) kvs l
theorem Ig:∀l:O (Str×Tok×I),∀e∈sP w l,∃k:aJ,(zy P w).is k e.key=true/\e.hash=(zy P w).hash k:=λl e a=>by obtain⟨x,_,rfl⟩:=bu.mp a;exact⟨.inr x.1,Q1 x.1 x.2.1,J⟩
theorem BX{P:Program}{w:World}:∀l:List (Str×Tok×Value),Pairs (zy P w) (sP w l) (l.map λx=>((Sum.inr x.1:aJ),x.2.2))|[]=>.nil|x::r=>.cons (Q1 x.1 x.2.1) J (BX r)
theorem zJ:∀{kvs:List (Str×V)}{l:List (Str×Tok×Value)},Paired (λ(p:Str×V) (q:Str×Tok×Value)=>p.1=q.1/\ym p.2 q.2.2) kvs l->KV (kvs.map λx=>((Sum.inr x.1:aJ),x.2)) (l.map λx=>((Sum.inr x.1:aJ),x.2.2))|_,_,.nil=>.nil|_,_,.cons h t=>.cons ⟨congrArg Sum.inr h.1,h.2⟩ (zJ t)
theorem nM.at(I:Inv X pins σ H s)(d:nM X.w X.K a kvs):(a==sysModules)=false/\∃vs,KV (kvs.map λx=>((Sum.inr x.1:aJ),x.2)) vs/\s.heap.DictOf (zy X.prog X.w) a vs:=by obtain⟨i,f,l,j,hk,r⟩:=d;have c:=zJ r;refine⟨i,_,c,_,_,j,I.kIn a _ hk,⟨J,J,J⟩,J,λe g=>Ig l e (by simpa using g),by simpa using BX l,?_⟩;rw[<-c.keys,bn];have:((λx:aJ×V=>x.1)∘λx:Str×V=>((Sum.inr x.1:aJ),x.2))=(Sum.inr:Str->aJ)∘λx:Str×V=>x.1:=rfl;rw[this,<-bn];exact List.Pairwise.map _ (λa b h z=>h (Sum.inr.inj z)) f
def Ew(w:World)(K:W.Frag)(U G:TE):TE:=λσ H Q=>U σ H λx H1=>∃a kvs,x=.ref a/\nM w K a kvs/\G σ H1 λy H2=>∃k:Str,y=.str k/\Q ((yq kvs k).getD .non) H2
section
variable{o f:Expr}{apos cpos:Pos}{td ty tx:TE}
theorem Ba(k:Str):∀kvs:List (Str×V),yq (kvs.map λx=>((Sum.inr x.1:aJ),x.2)) (.inr k)=yq kvs k|[]=>rfl| x::r=>by have a:=Ba k r;unfold yq at a⊢;rw[c4,List.find?_cons,List.find?_cons,xH];by_cases h:x.1=k;rw[bj h];rfl;rw[c6 h];exact a
theorem Hw(D:PE X o td)(he:PE X e ty)(m:M1 X o "get" apos e cpos):PE X (.Call (.Attribute o "get" apos) [e] [] cpos) (Ew X.w X.K td ty):=by intro c s i H Q I h;refine wpAny_Call_method m.base m.few m.line PySem.F.plainAttrs_dict PySem.F.slot_dict_get PySem.F.type_dict_get (aF (D c s i H _ I h) λu r ⟨x,M,n,v,a,C,K,d,z⟩=>?_);subst K;obtain rfl:u=Value.ref a:=v;obtain⟨j,p,f,g⟩:=d.at n;refine⟨g.typeIs,λb q=>?_,?_⟩;cases q;obtain⟨A,_,_,F,E,_⟩:=g;exact⟨A,F,E.2.1⟩;rw[m.trees];refine Calls.callWith_builtin J (Calls.evalArgs_plain (Calls.spliced_cons (aF (he c r i M _ n z) λP N ⟨y,L,l,t,k,G,w⟩=>Calls.spliced_nil ?_)));subst G;obtain⟨j,p,f,g⟩:=d.at l;refine call_meetsIn PySem.F.slot_dict_get g.typeIs PySem.F.entry_dict_get (PySem.F.args_dict_get_2 _ _) (meets_dict_get (zy X.prog X.w) a (Xb (k:=.inr k) t) j) ⟨_,g.mapOf,_,L,l.tok _,?_,w⟩;rw[<-Ba];exact(f.val (.inr k)).getD J
end
end L2
namespace L2
open PySem PySem.Spec PyProof.Rows PySem.W
variable{a b:Addr}{A:Around}{es:Array DictEntry}{X:Cx}{D:Ends}{e tg:Expr}{h:Heap}{H:Hp}{cZ:List Expr}{cap:List Nat}{o:Obj}{apos cpos aD:Pos}{P prog:Program}{s:Shared}{σ:St}{td te:TE}{g:TG}{tb:TS}{tc:TT}{y:V}{u v:Value}{E Q:Value->Shared->Prop}{w:World}
section
variable{K:Type}[DecidableEq K](knd:KeyKind prog w K)
abbrev cX(K:Type):=List K ⊕ K
noncomputable def X4:cX K->Bool|.inl _=>true|.inr _=>false
def eE(h:Heap):cX K->Value->Prop|.inl k,v=>∃a,v=.ref a/\IsTupleKey knd h k a|.inr k,v=>knd.is k v=true
noncomputable def Wm:cX K->Int|.inl k=>tupleKeyHash knd k|.inr k=>knd.hash k
noncomputable def uc:cX K->Nat|.inl k=>k.length+1|.inr _=>1
inductive cC(h:Heap):List (cX K)->List Value->Prop|nil:cC h [] []|cons {k:cX K} {v:Value} {ks:List (cX K)} {vs:List Value}:eE knd h k v->cC h ks vs->cC h (k::ks) (v::vs)
def k9(h:Heap)(G:List (cX K))(a:Addr):Prop:=∃o aC n,h.get? a=some o/\o.cls=.type "tuple"/\o.data=.seq aC n/\cC knd h G aC.toList
noncomputable def tQ(G:List (cX K)):Int:=reduceHash (Builtin.Tuple.tupleHashOf (G.map (Wm knd)))
noncomputable def K6(G:List (cX K)):Nat:=(G.map uc).sum+1
variable{knd}
theorem eE.inj{h:Heap}{x y:cX K}{v:Value}(f:eE knd h x v)(c:eE knd h y v):x=y:=by
 cases x with
 | inl k=>
   obtain⟨a,rfl,i⟩:=f;cases y with
   | inl d=>obtain⟨b,e,g⟩:=c;cases e;rw[i.inj g]
   |inr d=>exact absurd (knd.byValue _ _ c) (λz=>by cases z)
 | inr k=>
   cases y with
   | inl d=>obtain⟨b,rfl,g⟩:=c;exact absurd (knd.byValue _ _ f) (λz=>by cases z)
   |inr d=>rw[knd.inj _ _ _ f c]
theorem eE.keeps{h h':Heap}{k:cX K}{v:Value}{d:Addr}{o:Obj}{es ep}(x:eE knd h k v)(b:h.get? d=some o)(c:o.data=.dict es ep)(hs:Heap.SameBut d h h'):eE knd h' k v:=by cases k with| inl k=>obtain⟨a,e,f⟩:=x;exact⟨a,e,f.keeps b c hs⟩|inr k=>exact x
theorem cC.inj{h:Heap}{x y:List (cX K)}{vs:List Value}(d:cC knd h x vs)(a:cC knd h y vs):x=y:=by induction d generalizing y with|nil=>cases a;rfl| cons f _ c=>cases a with|cons e b=>rw[f.inj e,c b]
theorem k9.typeIs{b:O (cX K)}(x:k9 knd s.heap b a):s.TypeIs (.ref a) "tuple":=let⟨o,_,_,c,d,_⟩:=x;⟨o,c,d⟩
theorem k9.inj{h:Heap}{a:Y}{x y:O (cX K)}(i:k9 knd h x a)(g:k9 knd h y a):x=y:=by obtain⟨o,r,n,j,_,m,l⟩:=i;obtain⟨f,c,q,d,_,b,e⟩:=g;obtain rfl:o=f:=Option.some.inj (j.symm.trans d);rw[m]at b;injection b with p _;subst p;exact l.inj e
theorem cC.keeps{h h':Heap}{a:List (cX K)}{vs:List Value}{d:Addr}{o:Obj}{es ep}(x:cC knd h a vs)(c:h.get? d=some o)(e:o.data=.dict es ep)(hs:Heap.SameBut d h h'):cC knd h' a vs:=by induction x with|nil=>exact .nil|cons f _ b=>exact .cons (f.keeps c e hs) b
theorem k9.keeps{h h':Heap}{f:O (cX K)}{a d:Y}{o:Obj}{es ep}(x:k9 knd h f a)(i:h.get? d=some o)(l:o.data=.dict es ep)(hs:Heap.SameBut d h h'):k9 knd h' f a:=by
 obtain⟨g,p,n,b,m,e,j⟩:=x;have c:a≠d:=by grind
 exact⟨g,p,n,(hs.2 a c).trans b,m,e,j.keeps i l hs⟩
theorem IR{k:cX K}{Q:Int->Shared->Prop}(b:A.units<cLine)(hk:eE knd s.heap k v)(h:Q (Wm knd k) {s with toks:=s.toks+uc k}):wpAny (model prog w) A (pyHash v) Q E s:=by cases k with| inl k=>obtain⟨a,rfl,c⟩:=hk;exact wpAny_pyHash_tuple b c h|inr k=>exact knd.pyHash hk h
theorem Ij{x y:cX K}{Q:Bool->Shared->Prop}(f:A.units<cLine)(hs:X4 x=X4 y)(e:eE knd s.heap x u)(d:eE knd s.heap y v)(h:Q (decide (x=y)) s):wpAny (model prog w) A (eqBool u v) Q E s:=by
 cases x with
 | inl k=>
   cases y with
   | inl c=>
     obtain⟨a,rfl,i⟩:=e;obtain⟨b,rfl,g⟩:=d;refine wpAny_eqBool_tuple f i g ?_
     simp_all
   |inr c=>cases hs
 | inr k=>
   cases y with
   |inl c=>cases hs
   | inr c=>
     refine knd.eqBool e d ?_
     simp_all
theorem Lb{f:O (cX K)}{Q:Int->Shared->Prop}(u:A.units+2<cLine)(hk:k9 knd s.heap f a)(h:Q (tQ knd f) {s with toks:=s.toks+K6 f}):wpAny (model prog w) A (pyHash (.ref a)) Q E s:=by
 have hT:=hk.typeIs;obtain⟨o,v,n,p,_,r,q⟩:=hk;unfold pyHash;first|unfold pyHashByItsType|skip
 first|refine a4 (wpAny_cRoomFor_or (.inr (show A.units<cLine by omega)) ?_)|skip
 refine a4 (wpAny_specialOf hT F.slot_tuple_hash.lookup ?_);rw[if_neg (by simp)];refine a4 (wpAny_specialOf hT F.slot_tuple_hash.lookup ?_);refine a4 (wpAny_callSpecialIfBoundUnlessNone?_slot hT F.slot_tuple_hash (cf F.slot_tuple_hash hT F.entry_tuple_hash ?_ (F.args_tuple_hash_1 _)));show wpAny _ _ (Builtin.Tuple.tupleItemsOf (.ref a)>>=_) _ _ s;refine a4 (wpAny_tupleItemsOf p r ?_);refine a4 ?_;rw[<-Array.forIn_toList];refine wpAny_forIn_list _
  (λZc b j=>∃d Qz,f=d++Qz/\cC knd s.heap Qz Zc/\b.toList=d.map (Wm knd)/\j={s with toks:=s.toks+(d.map uc).sum})
  _ ?_ ?_ _ _ ⟨[],f,J,q,J,J⟩
 . rintro x Zc b j ⟨d,Qz,rfl,l,m,rfl⟩;cases l with| @cons k c e _ t g=>
     refine a4 (IR ?room t ?_)
     case room=>grind
     first|exact a9 ⟨d++[k],e,by simp,g,by grind,by grind⟩|exact a4 (a9 (a9 ⟨d++[k],e,by simp,g,by simp[m],by simp[Nat.add_assoc]⟩))
 rintro b j ⟨d,Qz,rfl,l,m,rfl⟩;cases l;rw[cp]at h;show wpAny _ _ (retInt (Builtin.Tuple.tupleHashOf b.toList)) _ _ _;rw[m];refine wpAny_ret_mkInt ?_;show wpAny _ _ (if(decide (-(2)^63<=Builtin.Tuple.tupleHashOf (d.map (Wm knd))) && decide (Builtin.Tuple.tupleHashOf (d.map (Wm knd))<2^63))=true then _ else _) Q E _;unfold tQ reduceHash K6 at h;by_cases i:(decide (-(2)^63<=Builtin.Tuple.tupleHashOf (d.map (Wm knd))) && decide (Builtin.Tuple.tupleHashOf (d.map (Wm knd))<2^63))=true;rw[if_pos i];rw[if_pos i]at h;exact a9 (by omega);rw[if_neg i];rw[if_neg i]at h;exact a4 (wpAny_rule (a9 (by omega)))
theorem LP{x y:List (cX K)}{P:Fin->Shared->Prop}(hu:A.units<cLine)(H:x.map X4=y.map X4)(hx:k9 knd s.heap x a)(hy:k9 knd s.heap y b)(h:P (.done (.ret (.bool (decide (x=y))))) s):wpAny (model prog w) A (Builtin.«tuple.__eq__» ⟨[.ref a,.ref b],[]⟩) P E s:=by
 have Z:=hy.typeIs;obtain⟨oa,C,na,R,_,X,U⟩:=hx;obtain⟨ob,z,nb,Q,_,W,S⟩:=hy;show wpAny _ _ (isInstance (.ref b) (.type "tuple")>>=_) _ _ s;refine a4 (di Z isSubtype_tuple_tuple ?_);simp only[Bool.not_true,Bool.false_eq_true,if_false];refine a4 (wpAny_tupleItemsOf R X ?_);refine a4 (wpAny_tupleItemsOf Q W ?_);refine a4 ?_;refine wpAny_forIn_list _
  (λZc r D=>r.1=none/\D=s/\∃o m d c,Zc=List.zip d c/\cC knd s.heap o d/\cC knd s.heap m c/\o.map X4=m.map X4/\decide (o=m)=decide (x=y)/\(d.length==c.length)=(C.size==z.size))
  _ ?_ ?_ _ _ ⟨J,J,x,y,C.toList,z.toList,J,U,S,H,J,by simp⟩
 rintro⟨u,v⟩ Zc r D ⟨N,rfl,o,m,d,c,p,i,e,j,g,f⟩;cases i with
 |nil=>simp at p
 | @cons k1 u' G n h1 t=>
   cases e with
   |nil=>grind
   | @cons k2 v' F l h2 q=>
     simp only[List.zip_cons_cons,List.cons.injEq,Prod.mk.injEq]at p;obtain⟨⟨rfl,rfl⟩,rfl⟩:=p;rw[c4,c4]at j;injection j with M L;refine a4 (Ij hu M h1 h2 ?_);by_cases hk:k1=k2;subst hk;rw[bj J];simp only[Bool.not_true,Bool.false_eq_true,if_false];refine a9 ⟨J,J,G,F,n,l,J,t,q,L,?_,by simp_all⟩
     simp_all
     rw[c6 hk];simp only[Bool.not_false,if_true];have hf:decide (x=y)=false:=by simp_all
     rw[hf]at h;exact a4 (a9 (a9 (a9 h)))
 rintro⟨r1,r2⟩ D ⟨N,rfl,o,m,d,c,p,i,e,j,g,f⟩;simp only at N;subst N;refine a9 ?_;have af:(C.size==z.size)=decide (x=y):=by
  rw[<-g,<-f];cases i with
  | nil=>
    cases e with
    |nil=>simp
    |cons _ _=>simp
  | cons _ _=>
    cases e with
    |nil=>simp
    |cons _ _=>simp at p
 show P (.done (.ret (.bool (C.size==z.size)))) D
 simp_all
theorem KZ{x y:O (cX K)}{Q:Bool->Shared->Prop}(i:A.units+2<cLine)(g:x.map X4=y.map X4)(d:k9 knd s.heap x a)(f:k9 knd s.heap y b)(h:Q (decide (x=y)) s):wpAny (model prog w) A (eqBool (.ref a) (.ref b)) Q E s:=by
 unfold eqBool
 try with_reducible refine wpAny_holding ?_
 by_cases c:(Value.ref a==Value.ref b)=true;rw[if_pos c];have e:a=b:=by simp_all
 subst e;obtain rfl:=d.inj f;exact a4 (wpAny_rule (a9 (by simp_all)))
 . rw[if_neg c];refine a4 (wpAny_richCompare_same_room d.typeIs f.typeIs F.slot_tuple_eq (cf F.slot_tuple_eq d.typeIs F.entry_tuple_eq (LP ?room g d f ⟨_,J,(λe=>nomatch e),wpAny_truthy_bool h⟩) (F.args_tuple_eq_2 _ _)) (by omega))
   grind
theorem Hl{n:Nat}{k:cX K}{Q:Bool->Shared->Prop}(hk:eE knd s.heap k v)(h:Q true s):wpAny (model prog w) A (eqIsQuiet (n+1) v) Q E s:=by cases k with| inl k=>obtain⟨a,rfl,b⟩:=hk;exact IT b h| inr k=>rw[eqIsQuiet_byValue _ (knd.byValue _ _ hk)];exact a9 h
theorem IS{d:List (cX K)}{Q:Bool->Shared->Prop}(hk:k9 knd s.heap d a)(h:Q true s):wpAny (model prog w) A (eqIsQuiet 8 (.ref a)) Q E s:=by
 have hT:=hk.typeIs;obtain⟨o,q,m,g,_,j,i⟩:=hk;unfold eqIsQuiet;refine a4 (wpAny_specialOf hT F.slot_tuple_eq.lookup ?_);refine a4 (di hT isSubtype_tuple_tuple ?_);simp only[Bool.not_true,Bool.false_eq_true,if_false];refine a4 (wpAny_seqItems g j ?_);refine a4 ?_;rw[<-Array.forIn_toList];refine wpAny_forIn_list _ (λZc r c=>r.1=none/\c=s/\∃d,cC knd s.heap d Zc) _ ?_ ?_ _ _ ⟨J,J,_,i⟩;rintro v Zc r c ⟨e,rfl,f,b⟩;cases b with| cons l t=>refine a4 (Hl l ?_);simp only[Bool.not_true,Bool.false_eq_true,if_false];exact a9 ⟨J,J,_,t⟩
 rintro⟨p,n⟩ c ⟨e,rfl,_⟩;simp only at e;subst e;exact a9 h
end
structure Shape(K κ:Type) where
 f:κ->List (cX K)
 inj:∀a b,f a=f b->a=b
 one:∀a b,(f a).map X4=(f b).map X4
noncomputable def qg{prog:Program}{w:World}{K G:Type}[DecidableEq K][DecidableEq G](knd:KeyKind prog w K)(S:Shape K G):HeapKind prog w G where
 is:=λh k a=>k9 knd h (S.f k) a
 hash:=λk=>tQ knd (S.f k)
 draws:=λk=>K6 (S.f k)
 room:=λA=>A.units+2<cLine
 inj:=λZ U=>S.inj _ _ (Z.inj U)
 keeps:=λx ho hd hs=>x.keeps ho hd hs
 pyHash:=λhu hk h=>Lb hu hk h
 eqBool:=λ{_ _ _ x y _ _ _} hu Z U h=>KZ hu (S.one x y) Z U (by
  have e:decide (S.f x=S.f y)=decide (x=y):=by by_cases c:x=y;rw[c];simp;rw[c6 c,c6 λz=>c (S.inj _ _ z)]
  rw[e];exact h)
 quiet:=λhk h=>IS hk h
structure aU(κ:Type)[DecidableEq κ] where
 S:Shape aJ κ
 tr:κ->T
 fro:∀k,dQ (tr k)
 of:∀{P:Program}{w:World}{H:Hp}{h:Heap},bZ P w H h->∀{k:κ}{a:Addr},Is H (tr k) (.ref a)->(qg (zy P w) S).is h k a
abbrev Zp(G:Type):=G×Addr×Value
section
variable{κ:Type}[DecidableEq κ]{τ:aU κ}
def Jm(τ:aU κ)(P:Program)(w:World)(d:Addr)(xs:List (Zp κ)):Heap->Prop:=λh=>∃o es ep,h.get? d=some o/\o.ExactDict/\o.data=.dict es ep/\es.toList=xs.map (entryOfKey (qg (zy P w) τ.S))
theorem Jm.ok{d:Y}{xs:O (Zp κ)}(x:Jm τ P w d xs h):va P w H h d (.ext (Jm τ P w d xs)):=by refine⟨x,?_,λf e y k=>?_⟩;obtain⟨o,_,_,a,_⟩:=x;exact⟨o,a⟩;obtain⟨o,b,c,a,r⟩:=y;exact⟨o,b,c,k o a,r⟩
abbrev KG(τ:aU κ)(H:Hp):List (κ×V)->List (Zp κ)->Prop:=Paired λp q=>p.1=q.1/\Is H (τ.tr p.1) (.ref q.2.1)/\ym p.2 q.2.2
theorem KG.val{kvs:List (κ×V)}{xs:List (Zp κ)}(r:KG τ H kvs xs)(k:κ):Ys (yq kvs k) ((atKey xs k).map (·.2)):=by
 induction r with|nil=>exact True.intro| @cons p q i a h t f=>
   obtain⟨d,_,g⟩:=h;by_cases e:p.1=k;have c:q.1=k:=by rw[<-d,e]
   have b:atKey (q::a) k=some q.2:=by simp[atKey,List.find?_cons,c]
   rw[xz e,b];exact g;have c:¬q.1=k:=λz=>e (d.trans z);have b:atKey (q::a) k=atKey a k:=by simp[atKey,List.find?_cons,c]
   rw[xl e,b];exact f
theorem KG.repl{kvs:List (κ×V)}{xs:List (Zp κ)}(r:KG τ H kvs xs)(k:κ)(d:ym y u):KG τ H (kvs.map λb=>if b.1=k then(b.1,y)else b) (xs.map (putAt k u)):=by induction r with|nil=>exact .nil| @cons p q j i h t f=>rw[c4,c4];refine .cons ?_ f;obtain⟨a,c,g⟩:=h;unfold putAt;by_cases e:p.1=k;rw[if_pos e,if_pos (by rw[<-a,e])];exact⟨a,c,d⟩;rw[if_neg e,if_neg (λz=>e (a.trans z))];exact⟨a,c,g⟩
theorem KG.put{kvs:O (κ×V)}{xs:O (Zp κ)}(r:KG τ H kvs xs)(k:κ)(d:Is H (τ.tr k) (.ref b))(a:ym y u):KG τ H (v4 kvs k y) (storedH xs k b u):=by
 have e:(kvs.any λc=>decide (c.1=k))=(atKey xs k).isSome:=by rw[Zh,(r.val k).isSome_eq,Option.isSome_map]
 unfold v4 storedH;rw[e];by_cases q:(atKey xs k).isSome=true;rw[if_pos q,if_pos q];exact r.repl k a;rw[if_neg q,if_neg q];exact Paired.snoc r ⟨J,d,a⟩
theorem KG.tups{H a:Hp}{kvs:O (κ×V)}{xs:O (Zp κ)}(r:KG τ H kvs xs)(t:yu H a):KG τ a kvs xs:=Paired.mapP r λ_ _ z=>⟨z.1,z.2.1.tups t (τ.fro _),z.2.2⟩
inductive bH(τ:aU κ)(P:Program)(w:World)(H:Hp)(d:Addr)(kvs:List (κ×V)):Prop|mk:∀xs:List (Zp κ),H d=some (.ext (Jm τ P w d xs))->(d==sysModules)=false->kvs.length<=sizeLine->(xs.map (·.1)).Nodup->KG τ H kvs xs->bH τ P w H d kvs
section
variable{H':Hp}{d:Addr}{kvs:List (κ×V)}
theorem bH.same(n:bH τ P w H d kvs)(s:Same H H'):bH τ P w H' d kvs:=by obtain⟨f,e,a,b,c,r⟩:=n;exact⟨f,s _ _ e,a,b,c,Paired.mapP r λ_ _ z=>⟨z.1,z.2.1.mono s,z.2.2⟩⟩
theorem bH.by(n:bH τ P w H d kvs)(t:yu H H')(e:H' d=H d):bH τ P w H' d kvs:=by obtain⟨f,g,a,b,c,r⟩:=n;exact⟨f,e.trans g,a,b,c,r.tups t⟩
theorem bH.tups{o:HO}(n:bH τ P w H d kvs):yu H (upd H d o):=by obtain⟨b,e,_⟩:=n;exact yu.upd e (λa z=>by cases z)
theorem bH.ne{a:O V}(n:bH τ P w H d kvs)(h:H b=some (.lst a)):b≠d:=λz=>by obtain⟨c,e,_⟩:=n;rw[z,e]at h;cases h
theorem bH.dict(i:bZ P w H h)(n:bH τ P w H d kvs):(d==sysModules)=false/\∃xs,KG τ H kvs xs/\xs.length<=sizeLine/\h.DictOfH (qg (zy P w) τ.S) d xs:=by
 obtain⟨xs,e,a,b,c,r⟩:=n;obtain⟨⟨o,A,C,z,y,v,u⟩,_⟩:=(i d _ e)
 have F:=Paired.length r;refine⟨a,xs,r,by omega,o,A,C,z,y,v,u,?_,c⟩;have g:∀{l:O (κ×V)}{m:O (Zp κ)},KG τ H l m->∀x∈m,(qg (zy P w) τ.S).is h x.1 x.2.1:=by intro l m q;induction q with|nil=>intro x f;exact nomatch f| @cons p q E D j t s=>intro x f;rcases ag.mp f with e|f;subst e;rw[<-j.1];exact τ.of i j.2.1;exact s x f
 exact g r
end
inductive kJ(τ:aU κ)(P:Program)(w:World)(f:Bool->Bool)(Q:VK)(y x:V)(H2:Hp):Prop|mk:∀d b kvs k,x=.ref d->y=.ref b->bH τ P w H2 d kvs->Is H2 (τ.tr k) (.ref b)->Q (.bl (f (yq kvs k).isSome)) H2->kJ τ P w f Q y x H2
def vZ(τ:aU κ)(P:Program)(w:World)(f:Bool->Bool)(G U:TE):TE:=λσ H Q=>G σ H λy H1=>U σ H1 λx H2=>kJ τ P w f Q y x H2
inductive gU(τ:aU κ)(P:Program)(w:World)(Q:VK)(x y:V)(H2:Hp):Prop|mk:∀d b kvs k v,x=.ref d->y=.ref b->bH τ P w H2 d kvs->Is H2 (τ.tr k) (.ref b)->yq kvs k=some v->Q v H2->gU τ P w Q x y H2
def Ds(τ:aU κ)(P:Program)(w:World)(U G:TE):TE:=λσ H Q=>U σ H λx H1=>G σ H1 λy H2=>gU τ P w Q x y H2
inductive hW(τ:aU κ)(P:Program)(w:World)(D:Ends)(σ:St)(v x y:V)(H3:Hp):Prop|mk:∀d b kvs k,x=.ref d->y=.ref b->bH τ P w H3 d kvs->Is H3 (τ.tr k) (.ref b)->kvs.length<sizeLine->(∀o,bH τ P w (upd H3 d o) d (v4 kvs k v)->D.nx σ (upd H3 d o))->hW τ P w D σ v x y H3
def DJ(τ:aU κ)(P:Program)(w:World)(Z G U:TE):TS:=λD σ H=>U σ H λv H1=>Z σ H1 λx H2=>G σ H2 λy H3=>hW τ P w D σ v x y H3
def Dt(τ:aU κ)(P:Program)(w:World):TE:=λ_ H Q=>∀p o,H p=none->bH τ P w (upd H p o) p []->Q (.ref p) (upd H p o)
def FW(τ:aU κ)(P:Program)(w:World)(U G:TE):TE:=λσ H Q=>∀p o,H p=none->bH τ P w (upd H p o) p []->U σ (upd H p o) λx H1=>G σ H1 λy H2=>∃b k,x=.ref b/\Is H2 (τ.tr k) (.ref b)/\bH τ P w H2 p []/\∀o',bH τ P w (upd H2 p o') p [(k,y)]->Q (.ref p) (upd H2 p o')
section
variable{o i aY:Expr}{cN cY:Pos}{ty tv:TE}
theorem Wh(a:A.units+3<cLine):(qg (zy P w) τ.S).room A.in1:=by show A.in1.units+2<cLine;omega
theorem El(w:X.A.units+3<cLine)(A:PE X i ty)(z:PE X o td):PC X .In i o (vZ τ X.prog X.w id ty td):=by intro a s g H Q I h;refine aF (A a s g H _ I h) λt j ⟨y,L,G,l,r⟩=>aF (z a j g L _ G r) λu N ⟨x,K,f,m,d,b,e,k,E,D,n,v,p⟩=>?_;subst E D;obtain rfl:u=Value.ref d:=m;obtain rfl:t=Value.ref b:=l;obtain⟨C,M,c,_,F⟩:=n.dict f.hok;refine wpAny_in_heap (Wh w) (τ.of f.hok v) C F ?_;have q:=(c.val k).isSome_eq;rw[Option.isSome_map]at q;rw[<-q];exact⟨.bl (yq e k).isSome,K,f.tok _,J,p⟩
theorem IO(w:X.A.units+3<cLine)(A:PE X i ty)(z:PE X o td):PC X .NotIn i o (vZ τ X.prog X.w (!·) ty td):=by intro a s g H Q I h;refine aF (A a s g H _ I h) λt j ⟨y,L,G,l,r⟩=>aF (z a j g L _ G r) λu N ⟨x,K,f,m,d,b,e,k,E,D,n,v,p⟩=>?_;subst E D;obtain rfl:u=Value.ref d:=m;obtain rfl:t=Value.ref b:=l;obtain⟨C,M,c,_,F⟩:=n.dict f.hok;refine wpAny_notIn_heap (Wh w) (τ.of f.hok v) C F ?_;have q:=(c.val k).isSome_eq;rw[Option.isSome_map]at q;rw[<-q];exact⟨.bl (!(yq e k).isSome),K,f.tok _,J,p⟩
theorem Vs(F:X.A.units+3<cLine)(K:PE X o td)(L:PE X i ty)(hs:rA i):PE X (.Subscript o i aD) (Ds τ X.prog X.w td ty):=by intro a s j H Q I h;refine Ac PySem.F.slot_dict_getitem.lookup hs (aF (K a s j H _ I h) λu q ⟨x,S,P,t,z⟩=>aF (L a q j S _ P z) λC Z ⟨y,R,g,r,d,b,A,k,v,N,M,n,D,l,w⟩=>?_);subst N M;obtain rfl:u=Value.ref d:=t;obtain rfl:C=Value.ref b:=r;obtain⟨hd,U,e,_,m⟩:=n.dict g.hok;obtain⟨W,E,c⟩:=Ys.some_of (by rw[<-l];exact e.val k);obtain⟨p,G,f⟩:=cw.mp E;refine⟨m.typeIs,wpAny_getItem_heap (Wh F) (τ.of g.hok D) m G ?_⟩;rw[f];exact⟨v,R,g.tok _,c,w⟩
theorem zR(N:X.A.units+3<cLine)(P:PE X o td)(R:PE X i ty)(M:PE X aY tv)(hs:swapsWith aY (some (.Subscript o i cN)) aD.line X.env=pure false):PS X (.Assign [.Subscript o i cN] aY aD) (DJ τ X.prog X.w td ty tv):=by intro a s c H D I h;refine wpAny_Assign_Subscript (aF (M a s c H _ I h) λr z ⟨v,H1,I1,E,K⟩=>aF (P a z c H1 _ I1 K) λu w ⟨x,H2,I2,C,G⟩=>aF (R a w c H2 _ I2 G) λL s3 ⟨y,H3,l,A,d,b,f,k,ex,ey,n,m,hl,F⟩=>?_) hs;subst ex ey;obtain rfl:u=Value.ref d:=C;obtain rfl:L=Value.ref b:=A;obtain⟨S,xs,e,hz,dd⟩:=n.dict l.hok;refine wpAny_setItem_heap (Wh N) (τ.of l.hok m) dd λh' j g=>?_;obtain⟨q,es,ep,p,h2,Z,W,_,U⟩:=j;obtain⟨t,e0,_⟩:=id n;have Q:=wc f k v;refine⟨c,_,Yq l (by rw[e0];exact True.intro) g ⟨q,p⟩ (Jm.ok ⟨q,es,ep,p,h2,Z,W⟩),F _ ⟨_,zd,S,by omega,U,(e.put k m E).tups n.tups⟩⟩
theorem yZ(h:Heap):Jm τ P w h.objs.size [] (h.push {cls:=.type "dict",data:=.dict #[]}):=⟨_,#[],0,bf _ J,⟨J,J,J⟩,J,J⟩
theorem Vr:PE X (.Dict [] [] aD) (Dt τ X.prog X.w):=λa s b H Q I h=>wpAny_Dict_empty ⟨.ref s.heap.objs.size,_,I.laid (λ_ _ q=>aj _ q) (ae _) (yZ s.heap).ok,J,h _ _ (I.hok.fresh (ae _)) ⟨[],zd,beq_eq_false_iff_ne.mpr (ai (az I.big)),be _,List.nodup_nil,.nil⟩⟩
theorem IP{v:Expr}(hu:X.A.units+3<cLine)(he:PE X e te)(G:PE X v tv):PE X (.Dict [some e] [v] aD) (FW τ X.prog X.w te tv):=by
 intro a s i H Q I q;have hn:=I.hok.fresh (ae s.heap.objs.size);have c:(s.heap.objs.size==sysModules)=false:=beq_eq_false_iff_ne.mpr (ai (az I.big));have I1:=I.laid (a:=s.heap.objs.size) (o:=.ext (Jm τ X.prog X.w s.heap.objs.size [])) (t':=s.toks) (λ_ _ q=>aj _ q) (ae _) (yZ s.heap).ok;rw[arm_eval_Dict];refine a4 (wpAny_standAt ?_);let t:Sem Value:=do let x<-eval v X.env;standAt aD;pure x
 show wpAny _ _ (dictDisplay ([(eval e X.env,t)].map λp=>(some p.1,p.2))) _ _ _;rw[dictDisplay_pairs _ (by simp) (by simp)];refine a4 ?_;unfold subDict;refine a4 (wpAny_alloc (a4 (wpAny_holding ?_)));rw[if_pos (by simp)];refine a4 (evalPairs_cons ?_);refine aF (he a _ i _ _ I1 (q _ _ hn ⟨[],zd,c,be _,List.nodup_nil,.nil⟩)) λu z ⟨x,H1,Z,C,F⟩=>?_;refine a4 (aF (G a z i H1 _ Z F) λw s2 ⟨y,H2,h,A,b,k,S,l,n,E⟩=>?_);subst S;obtain rfl:u=Value.ref b:=C;refine a4 (wpAny_standAt (a9 (evalPairs_nil ?_)));refine wpAny_holding ?_;rw[List.forIn_cons];obtain⟨L,r,D,_,f⟩:=n.dict h.hok;cases D;obtain⟨o,W,_⟩:=id n;refine a4 (a4 (a4 (wpAny_dictSet_heap (k:=k) (knd:=qg (zy X.prog X.w) τ.S) (show X.A.units+2<cLine by omega) (τ.of h.hok l) f (λh' g K=>a9 ?_) (by rw[List.length_nil];exact be _))));dsimp only;rw[List.forIn_nil];refine a9 (a9 (a9 (a9 ?_)));obtain⟨j,U,d,m,R,P,N,_,M⟩:=g;refine⟨.ref s.heap.objs.size,_,Yq h (by rw[W];exact True.intro) K ⟨j,m⟩ (Jm.ok (xs:=storedH [] k b w) ⟨j,U,d,m,R,P,N⟩),J,E _ ⟨_,zd,L,by show 1<=sizeLine;decide,M,?_⟩⟩;exact(KG.put (kvs:=[]) (xs:=[]) .nil k l A).tups n.tups
end
end
theorem Qy{b c:Type}(f:b->c):∀(l:List b)(j:Nat),(l.eraseIdx j).map f=(l.map f).eraseIdx j|[],_=>rfl|_::_,0=>rfl| a::l,j+1=>by show f a::(l.eraseIdx j).map f=f a::(l.map f).eraseIdx j;rw[Qy f l j]
section
variable{K:Type}[DecidableEq K]{knd:HeapKind prog w K}
theorem Jl{d:Y}{xs:O (K×Y×I)}{k:K}{dflt:I}(t:knd.room A)(b:knd.is s.heap k a)(D:s.heap.DictOfH knd d xs)(c:∀p,atKey xs k=some p->Q p.2 {s with toks:=s.toks+knd.draws k})
  (l:atKey xs k=none->∀h',h'.DictOfH knd d (storedH xs k a dflt)->Heap.SameBut d s.heap h'->Q dflt {s with heap:=h',toks:=s.toks+knd.draws k}) (C:xs.length<=sizeLine):
  wpAny (model prog w) A (dictSetDefault d (.ref a) dflt) Q E s:=by
 obtain⟨o,H,G,h,F,g,n,m,hn⟩:=D;unfold dictSetDefault
 try with_reducible refine wpAny_holding ?_
 refine a4 (knd.pyHash t b ?_);refine a4 (wpAny_dictFind_heap t b h g n m hn ?_ ?_);intro i;have q:=atKey_none_of_get i;refine a4 (wpAny_rule (a4 (wpAny_updateDictKeys (hz:=by have e:=size_of_entries n;omega) h g (a9 (l q _ ⟨_,_,G+1,Heap.get?_update_self _ h (Obj.isFreed_of_dict (Obj.data_mapDictKeys g _)),F.mapDictKeys _,Obj.data_mapDictKeys g _,?_,?_,?_⟩ (Heap.SameBut.update ..))))))
 rw[storedH_new q];simp[n,entryOfKey];rw[storedH_new q];intro x f;rcases ce.mp f with f|f;exact knd.keeps (m x f) h g (Heap.SameBut.update ..);rw[ak.mp f];exact knd.keeps b h g (Heap.SameBut.update ..);rw[storedH_new q,ax,List.nodup_append];refine⟨hn,by simp,λx f y v z=>?_⟩;have r:y=k:=by simpa using v
 exact not_mem_keys_of_get i (r▸z▸f);intro j p u;refine a4 (wpAny_dictEntries h g ?_);rw[entry_at n j,u];exact a4 (wpAny_rule (a9 (c p (atKey_of_get hn u))))
theorem Mj{d:Y}{xs:O (K×Y×I)}{k:K}{Q:Option DictEntry->Shared->Prop}(t:knd.room A)(b:knd.is s.heap k a)(z:s.heap.DictOfH knd d xs)(f:atKey xs k=none->Q none {s with toks:=s.toks+knd.draws k})
  (c:∀j p,xs[j]?=some (k,p)->∀h',h'.DictOfH knd d (xs.eraseIdx j)->Heap.SameBut d s.heap h'->Q (some (entryOfKey knd (k,p))) {s with heap:=h',toks:=s.toks+knd.draws k}) (y:xs.length<=sizeLine):
  wpAny (model prog w) A (Builtin.Dict.takeOut d (.ref a)) Q E s:=by
 obtain⟨o,D,F,h,C,g,m,i,hn⟩:=z;unfold Builtin.Dict.takeOut
 try with_reducible refine wpAny_holding ?_
 refine a4 (knd.pyHash t b ?_);refine a4 (wpAny_dictFind_heap t b h g m i hn ?_ ?_);intro n;exact a9 (f (atKey_none_of_get n));intro j p r;refine a4 (wpAny_dictEntries h g ?_);rw[entry_at m j,r];refine a4 (wpAny_updateDictKeys (hz:=by have e:=size_of_entries m;omega) h g (a9 (c j p r _ ⟨_,_,F+1,Heap.get?_update_self _ h (Obj.isFreed_of_dict (Obj.data_mapDictKeys g _)),C.mapDictKeys _,Obj.data_mapDictKeys g _,?_,?_,?_⟩ (Heap.SameBut.update ..))))
 rw[Qy,<-m];obtain⟨l⟩:=D;have q:j<l.length:=by have H:=(ci.mp r).1;have u:=congrArg List.length m;rw[aa]at u;have G:l.length=xs.length:=u;omega
 simp[Array.eraseIdxIfInBounds_eq,q];intro x v;exact knd.keeps (i x (List.mem_of_mem_eraseIdx v)) h g (Heap.SameBut.update ..);rw[Qy];exact hn.sublist (List.eraseIdx_sublist ..)
end
section
variable{κ:Type}[DecidableEq κ]{τ:aU κ}
theorem KG.erase {kvs:List (κ×V)} {xs:List (Zp κ)} (r:KG τ H kvs xs) (u:(xs.map (·.1)).Nodup) {j:Nat} {k:κ} {p:Addr×Value} (f:xs[j]?=some (k,p)):KG τ H (mQ kvs k) (xs.eraseIdx j):=by
 induction r generalizing j with
 |nil=>rw[List.getElem?_nil]at f;cases f
 | @cons a q y n h t s=>
   have d:=bz.mp u;unfold mQ;rw[List.filter_cons];cases j with
   | zero=>
     rw [List.getElem?_cons_zero]at f;cases f;have e:=h.1;rw[if_neg (by simp[e])];have keep:∀{l:List (κ×V)} {m:List (Zp κ)},KG τ H l m->k ∉ m.map (·.1)->(l.filter λo=>decide (o.1≠k))=l:=by
      intro l m q;induction q with
      |nil=>exact λ_=>rfl
      | @cons b c C A w x g=>intro hk;have i:b.1≠k:=λz=>hk (ag.mpr (.inl (z.symm.trans w.1)));rw[List.filter_cons,if_pos (by simp[i]),g λz=>hk (bq _ z)]
     rw[keep t d.1];exact t
   | succ j=>
     rw[List.getElem?_cons_succ]at f;have i:a.1≠k:=λz=>by have v:k∈n.map (·.1):=List.mem_map_of_mem (bv f);exact d.1 (by show q.1∈_;rw[<-h.1,z];exact v)
     rw[if_pos (by simp[i])];exact .cons h (s d.2 f)
theorem bH.typ{d:Y}{kvs:O (κ×V)}(b:bZ P w H h)(n:bH τ P w H d kvs):∃o,h.get? d=some o/\o.cls=.type "dict"/\o.dict=none:=by obtain⟨_,e,_,_,o,f,g,c,a,_⟩:=n.dict b;exact⟨o,c,a.1,a.2.1⟩
inductive fC(τ:aU κ)(P:Program)(w:World)(Q:VK)(d:Addr)(y z:V)(H3:Hp):Prop|mk:∀b kvs k,y=.ref b->bH τ P w H3 d kvs->Is H3 (τ.tr k) (.ref b)->(∀v,yq kvs k=some v->∀o,bH τ P w (upd H3 d o) d (mQ kvs k)->Q v (upd H3 d o))->(yq kvs k=none->Q z H3)->fC τ P w Q d y z H3
inductive eJ(τ:aU κ)(P:Program)(w:World)(ty tx:TE)(σ:St)(Q:VK)(x:V)(H1:Hp):Prop|mk:∀d kvs0,x=.ref d->bH τ P w H1 d kvs0->(ty σ H1 λy H2=>tx σ H2 λz H3=>fC τ P w Q d y z H3)->eJ τ P w ty tx σ Q x H1
def EA(τ:aU κ)(P:Program)(w:World)(Z G U:TE):TE:=λσ H Q=>Z σ H λx H1=>eJ τ P w G U σ Q x H1
variable{o f:Expr}{ty tx:TE}
theorem Hx(hu:X.A.units+4<cLine)(ho:PE X o td)(he:PE X e ty)(hf:PE X f tx)(m:M2 X o "pop" apos e f cpos):PE X (.Call (.Attribute o "pop" apos) [e,f] [] cpos) (EA τ X.prog X.w td ty tx):=by
 intro g s C H Q I h;refine wpAny_Call_method m.base m.few m.line PySem.F.plainAttrs_dict PySem.F.slot_dict_pop PySem.F.type_dict_pop (aF (ho g s C H _ I h) λu s1 ⟨x,H1,I1,rx,d,Z,ex,n0,q1⟩=>?_);subst ex;obtain rfl:u=Value.ref d:=rx;obtain⟨W,P,t1,t2⟩:=n0.typ I1.hok;refine⟨⟨W,P,t1⟩,λb q=>by cases q;exact⟨W,P,t2⟩,?_⟩;rw[m.trees];refine Calls.callWith_builtin J (Calls.evalArgs_plain (Calls.spliced_cons (aF (he g s1 C H1 _ I1 q1) λiv s2 ⟨y,H2,I2,ry,q2⟩=>Calls.spliced_cons (aF (hf g s2 C H2 _ I2 q2) λfv s3 ⟨z,H3,w,R,b,i,k,ey,n,ik,q3,S⟩=>Calls.spliced_nil ?_))))
 subst ey;obtain rfl:iv=Value.ref b:=ry;obtain⟨G,N,r,hz,A⟩:=n.dict w.hok;refine cf PySem.F.slot_dict_pop A.typeIs PySem.F.entry_dict_pop ?_ (PySem.F.args_dict_pop_3 _ _ _);unfold Builtin.«dict.pop»;refine a4 ?_;unfold Builtin.Dict.keyAndDefault;refine a4 (wpAny_notOrdered_dict A.typeIs ?_);refine a9 ?_;obtain⟨o1,es,ep,D,av,F,E,ap,hn⟩:=id A;have a:atKey N k=none->yq i k=none:=λl=>by have q:=(r.val k).isSome_eq;rw[l]at q;cases c:yq i k with|none=>rfl|some p=>rw[c]at q;cases q
 dsimp only;rw[if_neg (by exact br)];refine a4 (wpAny_dictEntries D F (a4 (a9 ?_)));by_cases em:es.isEmpty=true;rw[if_pos em];refine a4 (wpAny_rule (a4 (a9 ?_)));have x0:N=[]:=by
  have h1:=size_of_entries E;have h2:es.size=0:=by simpa using em
  exact List.length_eq_zero_iff.mp (by omega)
 rw[if_pos (show none.isNone=true from rfl)];refine a4 (wpAny_missedRemoval_other G ?_);exact a4 (wpAny_rule (a9 ⟨fv,J,z,H3,w,R,S (a (by rw[x0];rfl))⟩));rw[if_neg em];refine a4 (Mj (Wh (by omega)) (τ.of w.hok ik) A (λl=>?_) (λj p hj h' M hs=>?_) hz);rw[if_pos (show none.isNone=true from rfl)];refine a4 (wpAny_missedRemoval_other G ?_);exact a4 (wpAny_rule (a9 ⟨fv,J,z,H3,w.tok _,R,S (a l)⟩));rw[if_neg (show¬(some (entryOfKey _ (k,p))).isNone=true from br)];have hv:=atKey_of_get hn hj;have t:=r.val k;rw[hv]at t;obtain⟨U,K,L,hq,h2,h3,h4,_,h5⟩:=M;obtain⟨af,e0,_⟩:=id n;cases c:yq i k with|none=>rw[c]at t;exact t.elim| some v=>rw[c]at t;have ah:=Gb i k;refine a4 (wpAny_letGo (a9 ⟨p.2,J,v,_,Yq w (by rw[e0];exact True.intro) hs ⟨U,hq⟩ (Jm.ok ⟨U,K,L,hq,h2,h3,h4⟩),t,q3 v c _ ⟨_,zd,G,by omega,h5,(r.erase hn hj).tups n.tups⟩⟩))
end
section
variable{κ:Type}[DecidableEq κ]{τ:aU κ}
inductive fB(τ:aU κ)(P:Program)(w:World)(Q:VK)(d:Addr)(y z:V)(H3:Hp):Prop|mk:∀b kvs k,y=.ref b->bH τ P w H3 d kvs->Is H3 (τ.tr k) (.ref b)->kvs.length<sizeLine->(∀v,yq kvs k=some v->Q v H3)->(yq kvs k=none->∀o,bH τ P w (upd H3 d o) d (v4 kvs k z)->Q z (upd H3 d o))->fB τ P w Q d y z H3
inductive eI(τ:aU κ)(P:Program)(w:World)(ty tx:TE)(σ:St)(Q:VK)(x:V)(H1:Hp):Prop|mk:∀d kvs0,x=.ref d->bH τ P w H1 d kvs0->(ty σ H1 λy H2=>tx σ H2 λz H3=>fB τ P w Q d y z H3)->eI τ P w ty tx σ Q x H1
def EB(τ:aU κ)(P:Program)(w:World)(Z G U:TE):TE:=λσ H Q=>Z σ H λx H1=>eI τ P w G U σ Q x H1
variable{o f:Expr}{ty tx:TE}
theorem Hy(hu:X.A.units+4<cLine)(ho:PE X o td)(he:PE X e ty)(hf:PE X f tx)(m:M2 X o "setdefault" apos e f cpos):PE X (.Call (.Attribute o "setdefault" apos) [e,f] [] cpos) (EB τ X.prog X.w td ty tx):=by
 intro a s r H Q I h;refine wpAny_Call_method m.base m.few m.line PySem.F.plainAttrs_dict PySem.F.slot_dict_setdefault PySem.F.type_dict_setdefault (aF (ho a s r H _ I h) λu s1 ⟨x,H1,S,rx,d,L,ex,n0,q1⟩=>?_);subst ex;obtain rfl:u=Value.ref d:=rx;obtain⟨K,E,Z,W⟩:=n0.typ S.hok;refine⟨⟨K,E,Z⟩,λb q=>by cases q;exact⟨K,E,W⟩,?_⟩;rw[m.trees];refine Calls.callWith_builtin J (Calls.evalArgs_plain (Calls.spliced_cons (aF (he a s1 r H1 _ S q1) λiv s2 ⟨y,H2,I2,ry,q2⟩=>Calls.spliced_cons (aF (hf a s2 r H2 _ I2 q2) λR s3 ⟨z,H3,l,F,b,i,k,ey,n,M,hl,q3,q4⟩=>Calls.spliced_nil ?_))))
 subst ey;obtain rfl:iv=Value.ref b:=ry;obtain⟨P,xs,j,hz,D⟩:=n.dict l.hok;refine cf PySem.F.slot_dict_setdefault D.typeIs PySem.F.entry_dict_setdefault ?_ (PySem.F.args_dict_setdefault_3 _ _ _);unfold Builtin.«dict.setdefault»;refine a4 ?_;unfold Builtin.Dict.keyAndDefault;refine a4 (wpAny_notOrdered_dict D.typeIs ?_);refine a9 ?_;show wpAny _ _ (if(d==sysModules)=true then _ else(dictSetDefault d (.ref b) R>>=_)) _ _ s3;rw[if_neg (by rw[P];exact br)];have g:=j.val k;refine a4 (Jl (Wh (by omega)) (τ.of l.hok M) D (λp hp=>?_) (λt h' C hs=>?_) hz);rw[hp]at g;cases c:yq i k with|none=>rw[c]at g;exact g.elim| some v=>rw[c]at g;exact a9 ⟨p.2,J,v,H3,l.tok _,g,q3 v c⟩
 rw[t]at g;cases c:yq i k with|some v=>rw[c]at g;exact g.elim| none=>obtain⟨G,w,A,N,h2,h3,h4,_,h5⟩:=C;obtain⟨U,e0,_⟩:=id n;have af:=wc i k z;exact a9 ⟨R,J,z,_,Yq l (by rw[e0];exact True.intro) hs ⟨G,N⟩ (Jm.ok ⟨G,w,A,N,h2,h3,h4⟩),F,q4 c _ ⟨_,zd,P,by omega,h5,(j.put k M F).tups n.tups⟩⟩
end
section
theorem zF{i:Int}{v:V}(a:Is H (.int i) v)(r:ym v u):eE (zy P w) h (.inr (.inl i)) u:=by cases(a);exact Xb r
theorem Fa{x:Str}{v:V}(a:Is H (.str x) v)(r:ym v u):eE (zy P w) h (.inr (.inr x)) u:=by cases(a);exact Xb r
theorem Fb(d:bZ P w H h){g:O Int}{v:V}(a:Is H (tI g) v)(r:ym v u):eE (zy P w) h (.inl (kI g)) u:=by obtain⟨b,f,rfl,c,e⟩:=a;rw[IsL.ints.mp e,<-lx]at c;cases(r);exact⟨b,J,Yn d c⟩
theorem zN(m:bZ P w H h){c b:T}{f d:cX aJ}(i:Is H (.tup [c,b]) (.ref a))(z:∀v u,Is H c v->ym v u->eE (zy P w) h f u)(y:∀v u,Is H b v->ym v u->eE (zy P w) h d u):k9 (zy P w) h [f,d] a:=by
 obtain⟨M,F,e,x,t⟩:=i;cases e;obtain⟨_,p,r,⟨o,D,C,n,A⟩,_⟩:=(m a _ x)
 obtain⟨L,G,rfl,s,K,g,rfl,q,E⟩:=t;cases(E);cases r with| cons l r=>cases r with| cons j r=>cases r;exact⟨o,_,n,D,C,A,by simpa using cC.cons (z _ _ s l) (.cons (y _ _ q j) .nil)⟩
end
noncomputable def nc:aU (Str×Int) where
 S := { f:=λp=>[.inr (.inr p.1),.inr (.inl p.2)]
        inj:=λa b e=>by
         injection e with e1 e2;injection e2 with e2 _;injection e1 with e1;injection e1 with e1;injection e2 with e2;injection e2 with e2;exact Prod.ext e1 e2
        one:=λ_ _=>rfl}
 tr:=λp=>.tup [.str p.1,.int p.2]
 fro:=λ_=>⟨trivial,trivial,trivial⟩
 of:=λok _ _ i=>zN ok i (λ_ _=>Fa) (λ_ _=>zF)
noncomputable def cV:aU (List Int×Int) where
 S := { f:=λp=>[.inl (kI p.1),.inr (.inl p.2)]
        inj:=λa b e=>by
         injection e with e1 e2;injection e2 with e2 _;injection e1 with e1;injection e2 with e2;injection e2 with e2;exact Prod.ext (aR e1) e2
        one:=λ_ _=>rfl}
 tr:=λp=>.tup [tI p.1,.int p.2]
 fro:=λp=>⟨uA p.1,trivial,trivial⟩
 of:=λok _ _ i=>zN ok i (λ_ _=>Fb ok) (λ_ _=>zF)
section
variable{d it v:Addr}{ep i:Nat}{ok ov:Value}
theorem E2(b:(d==sysModules)=false)(x:qj s.heap d es ep)(a:Q (.ref s.heap.objs.size) {s with heap:=s.heap.push {cls:=.type "dict_items",data:=.fields #[.ref d]}}):wpAny (model prog w) A (call (.builtin "dict.items") [.ref d]) Q E s:=by have hT:=x.ty;refine cf F.slot_dict_items hT F.entry_dict_items ?_ (F.args_dict_items_1 _);unfold Builtin.«dict.items»;refine a4 ?_;unfold Builtin.Dict.noArgs;refine a4 (wpAny_notOrdered_dict hT (a9 ?_));unfold Builtin.Dict.showsAll;rw[if_neg (by simp_all)];exact a4 (a9 (a4 (cx (a9 ⟨_,J,a⟩))))
theorem EZ(b:s.heap.IsItemsView v d)(x:qj s.heap d es ep)(h:Q (.ref s.heap.objs.size) {s with heap:=s.heap.push {cls:=.type "dict_itemiterator",data:=.fields #[.none,.bool false,.ref d,.int 0 0,.int es.size 0,.int ep 0,.none,.none]}}):wpAny (model prog w) A (pyIter (.ref v)) Q E s:=by
 obtain⟨i,c,g,e⟩:=id b;obtain⟨o,f,j,a⟩:=id x;refine wpAny_pyIter_slot b.typeIs F.slot_dict_items_iter (cf F.slot_dict_items_iter b.typeIs F.entry_dict_items_iter ?_ (F.args_dict_items_iter_1 _));unfold Builtin.«dict_items.__iter__»;refine a4 (a9 (a4 ?_));unfold Builtin.Dict_items.dictOf;refine a4 (wpAny_field c e J (a9 (a4 ?_)));unfold Builtin.Dict_items.newIterator;refine a4 (wpAny_dictEntries f a (a4 (wpAny_dictEpoch f a ?_)));simp only[show Builtin.Dict_items.ownsTuple "dict_itemiterator"=true by rfl,if_true];refine cx (a9 ⟨_,J,"dict_itemiterator",_,⟨_,bf _ J,J⟩,F.slot_dict_itemiterator_next.lookup,?_⟩)
  (by simp only[sizeOk,Builtin.Dict_items.ownedTupleFields,cz,cj,d7,List.length_nil,sizeLine_eq];omega)
 simpa[rawInt,Builtin.Dict_items.ownedTupleFields]using h
theorem EY{Q:Option I->Shared->Prop}(C:IsItemIter s.heap it d i es.size ep ok ov)(x:qj s.heap d es ep)(hi:i<es.size)(hQ:∀h',IsItemIterOut h' it d (i+1) es.size ep es[i].key es[i].val s.heap.objs.size->h'.get? s.heap.objs.size=some {cls:=.type "tuple",data:=.seq #[es[i].key,es[i].val]}->h'.objs.size=s.heap.objs.size+1-> (∀b o,b≠it->s.heap.get? b=some o->h'.get? b=some o)->Q (some (.ref s.heap.objs.size)) {s with heap:=h'}):wpAny (model prog w) A (pyNext (.ref it)) Q E s:=by
 obtain⟨M,g,S,R,os⟩:=s;obtain⟨od,N,ah,P⟩:=id x;have hT:Shared.TypeIs ⟨M,g,S,R,os⟩ (.ref it) "dict_itemiterator":=⟨_,C,J⟩
 unfold pyNext;refine a4 (wpAny_attempt (wpAny_callSpecial?_slot hT F.slot_dict_itemiterator_next (cf F.slot_dict_itemiterator_next hT F.entry_dict_itemiterator_next (a4 (a9 (a4 (a4 ?_)))) (F.args_dict_itemiterator_next_1 _))));first|refine a4 (wpAny_typeNameOfWhole_itemiter hT (a9 ?_))|refine a4 (wpAny_typeNameOf_itemiter hT (a9 ?_))
 refine a4 (wpAny_fieldsOf C J ?_);simp only[show Builtin.Dict_items.ownsTuple "dict_itemiterator"=true by rfl,if_true];show wpAny _ _ (if(Value.ref d==Value.none)=true then _ else _) _ _ _;rw[if_neg (show¬((Value.ref d==Value.none)=true)from br)];refine a4 (a9 (a4 (wpAny_dictEntries N P ?_)));rw[if_neg (by simp)];refine a4 (a9 (a4 (wpAny_dictEpoch N P ?_)));rw[if_neg (by simp)];refine a9 ?_;simp only[(by omega),if_false,d9,eh hi];refine a4 ?_;first|refine a4 (wpAny_typeNameOfWhole_itemiter hT (a9 ?_))|refine a4 (wpAny_typeNameOf_itemiter hT (a9 ?_))
 refine a4 (wpAny_isOneOf_itemiter hT ?_);show wpAny _ _ (setField (.ref it) 3 (rawInt (i+1))>>=_) _ _ ⟨M,g,S,R,os⟩;refine a4 (wpAny_setField_rec C (by simp) λq f a=>?_);replace a:=a;replace f:IsItemIter q it d (i+1) es.size ep ok ov:=by
  have e:((i+1:Nat))=i+1:=by omega
  unfold IsItemIter;rw[e];simpa[rawInt]using f
 have y:Shared.TypeIs ⟨q,g,S,R,os⟩ (.ref it) "dict_itemiterator":=⟨_,f,J⟩
 refine a4 (wpAny_holding (a4 (wpAny_isOneOf_itemiter y (a4 (wpAny_isOneOf_itemiter y ?_)))));unfold Builtin.Dict_items.pairFromOwner;refine a4 (wpAny_newTuple ?_);have c:IsItemIter (q.push {cls:=.type "tuple",data:=.seq #[es[i].key,es[i].val]}) it d (i+1) es.size ep ok ov:=aj _ f;generalize p:q.push {cls:=.type "tuple",data:=.seq #[es[i].key,es[i].val]}=z at c;have h:=a.1;have U:=df (aq (C));have H:z.get? M.objs.size=some {cls:=.type "tuple",data:=.seq #[es[i].key,es[i].val]}:=by rw[<-p,<-h];exact bf _ J
 have G:z.objs.size=M.objs.size+1:=by rw[<-p,dm,h]
 have K:∀b o,b≠it->M.get? b=some o->z.get? b=some o:=λb o D e=>by rw[<-p];exact aj _ (a.extBut b o D e)
 show wpAny _ _ (Builtin.Dict_items.ownedTupleIsFree (.ref it)>>=_) _ _ ⟨z,g,S,R,os⟩;rw[h];clear p f a y h q;refine a4 ?_;unfold Builtin.Dict_items.ownedTupleIsFree;refine a4 (wpAny_field c J J (a9 ?_));simp only[if_true];refine a4 (wpAny_field c J J (a4 (wpAny_field c J J ?_)));refine a4 (wpAny_setField_rec c (by simp) λaf v n=>?_);replace v:=v;refine a4 (wpAny_setField_rec v (by simp) λZ u m=>?_);replace u:=u;refine a4 (wpAny_setField_rec u (by simp) λX t l=>?_);replace t:=t;refine a4 (wpAny_setField_rec t (by simp) λL r j=>?_);replace r:=r;replace n:=n;replace m:=m;replace l:=l;replace j:=j;have W:=λb o D e=>j.extBut b o D (l.extBut b o D (m.extBut b o D (n.extBut b o D e)));refine a4 (wpAny_letGo (a9 (a9 ⟨_,J,a9 (hQ L r (W _ _ U H) ?_ λb o D e=>W b o D (K b o D e))⟩)));rw[j.1,l.1,m.1,n.1,G]
theorem DR{Q:Option I->Shared->Prop}(hh:A.handled=none)(a:IsItemIter s.heap it d i es.size ep ok ov)(x:qj s.heap d es ep)(e:es.size<=i)(g:∀h',Heap.ExtBut it s.heap h'->Q none {s with heap:=h'}):wpAny (model prog w) A (pyNext (.ref it)) Q E s:=by
 obtain⟨h,b,f,c⟩:=id x;have hT:s.TypeIs (.ref it) "dict_itemiterator":=⟨_,a,J⟩
 unfold pyNext;refine a4 (wpAny_attempt (wpAny_callSpecial?_slot hT F.slot_dict_itemiterator_next (cf F.slot_dict_itemiterator_next hT F.entry_dict_itemiterator_next (a4 (a9 (a4 (a4 ?_)))) (F.args_dict_itemiterator_next_1 _))));first|refine a4 (wpAny_typeNameOfWhole_itemiter hT (a9 ?_))|refine a4 (wpAny_typeNameOf_itemiter hT (a9 ?_))
 refine a4 (wpAny_fieldsOf a J ?_);simp only[show Builtin.Dict_items.ownsTuple "dict_itemiterator"=true by rfl,if_true];show wpAny _ _ (if(Value.ref d==Value.none)=true then _ else _) _ _ s;rw[if_neg (show¬((Value.ref d==Value.none)=true)from br)];refine a4 (a9 (a4 (wpAny_dictEntries b c ?_)));rw[if_neg (by simp)];refine a4 (a9 (a4 (wpAny_dictEpoch b c ?_)));rw[if_neg (by simp)];refine a9 ?_;simp only[(by omega),if_false,d9,Array.getElem?_eq_none e];refine a4 ?_;first|refine a4 (wpAny_typeNameOfWhole_itemiter hT (a9 ?_))|refine a4 (wpAny_typeNameOf_itemiter hT (a9 ?_))
 show wpAny _ _ (setField (.ref it) 2 .none>>=_) _ _ s;refine a4 (wpAny_setField a J (by simp) ?_);refine a4 ?_;simp only[newExc,newTuple];refine a4 (cx (a4 (wpAny_of_eq (by rfl) (cx ?_ (by size_fits)))) (by size_fits));simp only[raiseNew];refine a4 (wpAny_handled ?_);rw[(hh)];refine a4 (a9 (wpAny_throw ?_));refine a4 (di ⟨_,bf _ J,J⟩ isSubtype_stop ?_);exact a9 (g _ (((Heap.SameBut.update ..).extBut.push _).push _))
theorem E1(a:IsItemIter s.heap it d i es.size ep ok ov)(h:Q (.ref it) s):wpAny (model prog w) A (pyIter (.ref it)) Q E s:=kcp_self a h
end
noncomputable def rp(d:Addr)(o:Obj)(kvs:List (List aJ×V)):It:=⟨λi H=>H d=some (.frz o (.dT kvs))/\i<kvs.length,λi H v H'=>∃p b G,v=.ref p/\H p=none/\kvs[i]?=some G/\H b=some (.tup (G.1.map kV))/\H'=upd H p (.tup [.ref b,G.2]),λi H=>H d=some (.frz o (.dT kvs))/\kvs.length<=i⟩
theorem Xt{d:Y}{kvs:O (O aJ×V)}(v:bZ P w H h)(e:H d=some (.frz o (.dT kvs))):(d==sysModules)=false/\h.get? d=some o/\o.ExactDict/\∃es ep,o.data=.dict es ep/\es.size=kvs.length/\∀i f,kvs[i]?=some f->∃(hi:i<es.size)(b:Y),es[i].key=.ref b/\H b=some (.tup (f.1.map kV))/\ym f.2 es[i].val:=by
 obtain⟨C,_⟩:=v d _ e;obtain⟨z,G,g,s,⟨K,es,ep,y,u,n,A,_,_⟩⟩:=V5 v (.inr ⟨o,e⟩);rw[C]at y;cases y;have E:=Paired.length s;have F:=size_of_entries A;refine⟨G,C,u,es,ep,n,by omega,λi f hk=>?_⟩;have hi:i<kvs.length:=by grind
 have j:i<es.size:=by omega
 have t:g[i]?=some g[i]:=bo (by omega);have x:f.1=g[i].1/\H g[i].2.1=some (.tup (f.1.map kV))/\ym f.2 g[i].2.2:=by
  have D:∀{l:O (O aJ×V)}{m:O (O aJ×Y×I)},KT H l m->∀{i:Nat}{p q},l[i]?=some p->m[i]?=some q->p.1=q.1/\H q.2.1=some (.tup (p.1.map kV))/\ym p.2 q.2.2:=by intro l m r;induction r with|nil=>simp| cons a _ L=>grind
  grind
 have c:=entry_at A i;rw[t,eh j]at c;have c:=Option.some.inj c;exact⟨j,g[i].2.1,by rw[c];rfl,x.2.1,by rw[c];exact x.2.2⟩
theorem Lq{K:Frag}{k1}(d u:Y)(o:Obj)(kvs:O (O aJ×V))(es:Array DictEntry)(ep:Nat)(j:o.data=.dict es ep):dD P w K (.Tuple cZ k1 aD) (rp d o kvs) [u] u (λi h=>∃ok ov,IsItemIter h u d i es.size ep ok ov) where
 mem:=by simp
 obj:=λi h st b G=>by grind
 keep:=λi h h' ⟨ok,ov,st⟩ k=>⟨ok,ov,k u (by simp) _ st⟩
 item:=by
  intro X hP M hK x i t s σ H E I W st U;subst hP M hK;obtain⟨hH,S⟩:=U;obtain⟨ok,ov,st⟩:=st;obtain⟨hd,h0,v,ah,ap,a,N,C⟩:=Xt I.hok hH;rw[j]at a;cases a;obtain⟨R,b,D,G,rv⟩:=C i kvs[i] (bo S);obtain⟨f0,L,f2,f3,f4,f5⟩:=W u (by simp);refine EY st ⟨o,h0,v,j⟩ R λg gi gT gz gk=>?_;refine⟨.ref s.heap.objs.size,J,wpAny_letOwnedTupleGo_items gi λg' af p=>?_⟩;replace p:=p;have f:=I.hok.fresh (ae _);have A:=df (aq st);have l:=λc o n e=>p.extBut c o n (gk c o n e);have Z:=p.extBut _ _ A gT;have av:∀c o,H c=some o->c≠u:=λc o e z=>by simp_all
  have I1:Inv X t σ (upd H s.heap.objs.size (.tup [.ref b,kvs[i].2])) {s with heap:=g',toks:=s.toks}:=by
   refine I.step (λc x=>by rw[ak.mp x];exact⟨f3,L,f4,f5⟩) (λc o n1 n2 y e _=>l c o (λz=>y (by grind)) e)
    (λc o n1 n2 y e _=>⟨o.slots,l c o (λz=>y (by grind)) e⟩) (λc o y e n=>by rw[upd_ne (az (aq e))];exact n) (λc o y e=>⟨o,l c o (λz=>y (by grind)) e⟩)
    (λc zs e=>by rw[upd_ne (zj e f)];exact e) (λc o zs e=>by rw[upd_ne (zj e f)];exact e) (λc ps e=>⟨#[],by rw[upd_ne (zj e f),e];simp⟩) (λm hm=>?_) (λc ob e=>?_) I.bare
   obtain⟨o,es,ep,Q,r⟩:=hm;exact⟨o,es,ep,l _ o (ai L) Q,r⟩;by_cases F:c=s.heap.objs.size;subst F;rw[zd]at e;cases e;exact⟨by show 2<=sizeLine;rw[sizeLine_eq];omega,[es[i].key,es[i].val],.cons D (.cons rv .nil),⟨_,Z,J,_,J⟩,λq hq=>by simp_all⟩
   rw[upd_ne F]at e;refine(I.hok c ob e).stay (λd o x q=>?_) (λd q=>by rw[upd_ne (zj q f)];exact q) λd zs q=>by rw[upd_ne (zj q f)];exact q
   grind
  exact⟨.ref s.heap.objs.size,_,I1,J,⟨_,b,_,J,f,bo S,G,J⟩,⟨_,_,af⟩,λc x=>by rw[ak.mp x,upd_ne (ai A)];omega⟩
 done:=by intro X hP M hK x i t s σ H E I W st U;subst hP M hK;obtain⟨hH,S⟩:=U;obtain⟨ok,ov,st⟩:=st;obtain⟨hd,h0,v,ah,ap,a,N,_⟩:=Xt I.hok hH;rw[j]at a;cases a;obtain⟨f0,L,f2,f3,f4,f5⟩:=W u (by simp);exact DR (I.ok.hd x) st ⟨o,h0,v,j⟩ (by omega) λh' eb=>⟨J,I.turned (λb o G e=>eb b o G e) f0 L f3 f4 f5⟩
 self:=λ_ _ _ _ _ ⟨ok,ov,st⟩ h=>E1 st h
section
variable{o:Expr}{cY:Pos}{k1:_}
inductive fK(R:It->Hp->Prop)(x:V)(H1:Hp):Prop|mk:∀d ob kvs,x=.ref d->H1 d=some (.frz ob (.dT kvs))->R (rp d ob kvs) H1->fK R x H1
def DZ(to:TE):TI:=λσ H R=>to σ H λx H1=>fK R x H1
theorem Y2{to:TE}(E:PE X o to)(g:attributeBase o "items" X.env (eval o X.env)=eval o X.env:=by rfl)(f:(apos.endLine==cpos.line)=true:=by rfl):PI X (.Tuple cZ k1 cY) (.Call (.Attribute o "items" apos) [] [] cpos) (DZ to):=by
 intro j s z H R I h;refine wpAny_Call_method0_late g f (aF (E j s z H _ I h) λv i ⟨x,M,n,A,d,p,r,K,F,q⟩=>?_);subst K;cases A;obtain⟨D,y,m,t,u,c,C,_⟩:=Xt n.hok F;have w:qj i.heap d t u:=⟨p,y,m,c⟩
 refine⟨"dict","dict.items",PySem.F.plainAttrs_dict,PySem.F.slot_dict_items,PySem.F.type_dict_items,w.ty,λa e=>?_,Calls.callWith_builtin J (PySem.evalArgs_none (E2 D w ?_))⟩;cases e;exact⟨p,y,m.2.1⟩;refine EZ ⟨_,bf _ J,J,J⟩ (w.at λo e=>aj _ e) ?_;have L:=n.kept (t':=i.toks) (h':=(i.heap.push {cls:=.type "dict_items",data:=.fields #[.ref d]}).push {cls:=.type "dict_itemiterator",data:=.fields #[.none,.bool false,.ref d,.int 0 0,.int t.size 0,.int u 0,.none,.none]}) λb o e=>aj _ (aj _ e);have l:i.heap.objs.size<=(i.heap.push {cls:=.type "dict_items",data:=.fields #[.ref d]}).objs.size:=by simp
 refine⟨_,[(i.heap.push {cls:=.type "dict_items",data:=.fields #[.ref d]}).objs.size],_,_,M,J,L,Lq d _ p r t u c,⟨_,_,bf _ J⟩,λb G=>?_,q⟩;rw[ak.mp G];exact n.fpOk l (n.hok.fresh l)
end
theorem BM{d:Y}{kvs:O (O aJ×V)}(Pv:Nat->St->Hp->Prop)(h0:Pv 0 σ H)(hl:∀i σ H,i<=kvs.length->Pv i σ H->H d=some (.frz o (.dT kvs)))(hs:∀i c σ H,kvs[i]?=some c->Pv i σ H->∀p b,H p=none->H b=some (.tup (c.1.map kV))->g (.ref p) σ (upd H p (.tup [.ref b,c.2])) λf H2=>tb (D.lp (Pv (i+1))) f H2) (r:∀σ H,Pv kvs.length σ H->D.nx σ H):
  cK g tb D σ (rp d o kvs) H:=by
 refine⟨λi m σ H=>m=kvs.length-i/\i<=kvs.length/\Pv i σ H,⟨kvs.length,by simp,be _,h0⟩,?_⟩;rintro i m σ H ⟨rfl,n,p⟩;have q:=hl i σ H n p;by_cases a:i<kvs.length;refine .inr ⟨⟨q,a⟩,Pv (i+1),λh s j=>⟨kvs.length-(i+1),by omega,J,a,j⟩,λx s y=>?_⟩;obtain⟨t,b,c,rfl,l,hk,u,rfl⟩:=y
 grind
 have e:i=kvs.length:=by omega
 subst e;exact .inl ⟨⟨q,ae _⟩,r σ H p⟩
noncomputable def iX(rows:List (List Int×V))(kvs:List (List aJ×V)):List (List aJ×V):=rows.foldl (λG r=>v4 G (kI r.1) r.2) kvs
inductive ij(as:List V)(H:Hp)(Q:VK):Prop|mk:∀(p:Addr)(bs:List Addr)(rows:List (List Int×V)),as=[.ref p]->H p=some (.lst (bs.map V.ref))->Paired (dP H) bs rows->(∀d H',Same H H'->H d=none->H' d=some (.dT (iX rows []))->Q (.ref d) H')->ij as H Q
theorem BP{H:Hp}:∀{rows:List (List Int×V)}{d:List Jp}{kvs:List (List aJ×V)}{xs:List Jp},Paired (λ(r:List Int×V) (q:Jp)=>kI r.1=q.1/\H q.2.1=some (.tup (q.1.map kV))/\ym r.2 q.2.2) rows d->KT H kvs xs->
  KT H (iX rows kvs) (xO xs d)/\(iX rows kvs).length<=kvs.length+rows.length
 |_,_,kvs,_,.nil,r=>⟨r,ae _⟩
 | r::rows,q::d,kvs,xs,.cons h t,f=>by
   obtain⟨g,j,i⟩:=h;have b:=f.put q.1 j i;rw[<-g]at b;obtain⟨a,c⟩:=BP t b;have e:storedH xs (kI r.1) q.2.1 q.2.2=storedH xs q.1 q.2.1 q.2.2:=by rw[g]
   rw[e]at a;refine⟨a,c9 c ?_⟩;have:=wc kvs (kI r.1) r.2
   grind
section
theorem BR(hc:X.calm=true)(hu:X.A.units+8<cLine):jj X (.type "dict") ij:=by
 intro af s σ H as us Q I r h;obtain⟨p,K,l,rfl,hp,Z,q⟩:=h;obtain⟨u,rfl,rx⟩:=ql r;cases(rx);obtain⟨hz,f,n,rv,h1⟩:=(I.hok p _ hp)
 have hh:=I.ok.hd hc;obtain⟨rh,aw,A,t⟩:=wP I Z;have U:f.length=K.length:=by have:=rv.length;simp_all
 have av:K.length<=sizeLine:=by simp_all
 refine callType_codes (Q₁:=λy i=>y=.ref s.heap.objs.size/\i={s with heap:=s.heap.push {cls:=.type "dict",data:=.dict #[]}}) PySem.F.kt_called_dict (PySem.F.kt_typeCall_dict_1 _) PySem.F.entry_dict_init (kt_code_dict_new _ ⟨J,J⟩) ?_;rintro y i ⟨rfl,rfl⟩;have c:(s.heap.push {cls:=.type "dict",data:=.dict #[]}).DictOfH (tupleKind (zy X.prog X.w)) s.heap.objs.size []:=Heap.DictOfH.new s.heap;have G:=c.typeIs (s:={s with heap:=s.heap.push {cls:=.type "dict",data:=.dict #[]}});have w:(s.heap.push {cls:=.type "dict",data:=.dict #[]}).get? p=some {cls:=.type "list",dict:=none,data:=.seq f.toArray n,slots:=#[]}:=aj _ h1;have F:=aq h1;refine⟨G,PySem.F.args_dict_init_2 _ _,?_⟩;unfold Builtin.«dict.__init__»;refine a4 ?_;unfold Builtin.Dict.selfAndRest;refine a4 (wpAny_notOrdered_dict G (a9 ?_));show wpAny _ _ (Builtin.Dict.updateFrom "dict.__init__" s.heap.objs.size (.ref p) [] .none) _ _ _;unfold Builtin.Dict.updateFrom;refine a4 (wpAny_typeOf ⟨_,w,J⟩ ?_);rw[if_pos (by rfl)];refine a4 (B2 w hh λg tk hk=>?_);simp only[Option.isNone_none,if_true];refine a4 (wpAny_rule ?_);have z:g.IsList p f.toArray:=⟨_,hk _ _ w,J,n,J⟩
 refine a4 (wpAny_pyIter_list z (a9 ⟨plainId_quiet qe _,?_⟩));have d:s.heap.objs.size+1<=g.objs.size:=by obtain⟨o,L,M,E,_⟩:=c;exact aq (hk _ _ E)
 have W:(g.push {cls:=.type "list_iterator",data:=.fields #[.ref p,.int 0 0]}).DictOfH (tupleKind (zy X.prog X.w)) s.heap.objs.size []:=by obtain⟨o,L,M,E,a1,a2,a3,_,a5⟩:=c;exact⟨o,L,M,aj _ (hk _ _ E),a1,a2,a3,(λx hx=>by grind),a5⟩
 have N:∀b o,s.heap.get? b=some o->(g.push {cls:=.type "list_iterator",data:=.fields #[.ref p,.int 0 0]}).get? b=some o:=λb o e=>aj _ (hk _ _ (aj _ e));refine Id (A:=X.A.in1) (rows:=rh) (by grind) hh (az (Nat.lt_of_succ_le d)) (az (Nat.lt_trans F (Nat.lt_of_succ_le d))) (az F) (by simp_all) (by omega) rh.length 0 _ [] (by omega) (be _) (ae _)
  ⟨_,bf _ J,J,J⟩ (z.push _) W (λj v r R hr=>?_) λh' ap hD hK=>?_
 have R:f[j]?=some v:=by simp_all
 have hj:j<K.length:=by grind
 obtain⟨u,S,ru⟩:=rv.get (by rw[au,bo hj];rfl);rw[S]at R;cases R;cases(ru);obtain⟨⟨ob,D,rr⟩,⟨ok,aC,m,C,rk⟩⟩:=t j K[j] r (bo hj) hr;have l1:=aq D;have l2:=aq C;exact⟨K[j],J,az l1,az (Nat.lt_trans l1 (Nat.lt_of_succ_le d)),az l2,az (Nat.lt_trans l2 (Nat.lt_of_succ_le d)),⟨ob,N _ _ D,rr⟩,⟨ok,aC,m,N _ _ C,rk⟩⟩;refine⟨J,?_⟩;have keep:=λb o e=>hK b o (az (aq e)) (az (Nat.lt_trans (aq e) (Nat.lt_of_succ_le d))) (N b o e);obtain⟨P,ah⟩:=BP A .nil;have ay:=Paired.length A;have a:=I.hok.fresh (ae s.heap.objs.size);have sm:=Same.new a (.dT (iX l []));obtain⟨_,zz,_⟩:=Av (P:=X.prog) (w:=X.w) (H:=H) s.heap I.big;obtain⟨o,L,M,E,a1,a2,a3,_,a5⟩:=hD;refine⟨.ref s.heap.objs.size,_,I.laid (o:=.dT (iX l [])) keep (ae _) ⟨?_,zz,_,P.keeps λb ys e=>sm _ _ e,o,L,M,E,a1,a2,a3,a5⟩,J,q _ _ sm a zd⟩
 grind
end
section
variable{d:Addr}{kvs:List (List aJ×V)}{k:Nat}{Q:VK}
theorem uC(Pv:Nat->O V->Hp->Prop)(h0:Pv 0 [] H)(hl:∀i ys H,i<=kvs.length->Pv i ys H->H d=some (.frz o (.dT kvs))/\ys.length<=sizeLine)(hs:∀i f ys H,kvs[i]?=some f->Pv i ys H->∀p b,H p=none->H b=some (.tup (f.1.map kV))->g (.ref p) (bQ k cap σ) (upd H p (.tup [.ref b,f.2])) λa H2=>tc a H2 λb j=>if b=true then te a j λy u=>Pv (i+1) (ys++[y]) u else Pv (i+1) ys j)
  (t:∀ys H,Pv kvs.length ys H->∀p,H p=none->Q (.ref p) (upd H p (.lst ys))):bX (rp d o kvs) g tc te k cap σ H Q:=by
 refine⟨λi m ys H=>m=kvs.length-i/\i<=kvs.length/\Pv i ys H,⟨kvs.length,by simp,be _,h0⟩,?_⟩;rintro i m ys H ⟨rfl,s,p⟩;obtain⟨q,h⟩:=hl i ys H s p;by_cases c:i<kvs.length;refine .inr ⟨⟨q,c⟩,h,Pv (i+1),λl v n=>⟨kvs.length-(i+1),by omega,J,c,n⟩,λx v y=>?_⟩;obtain⟨w,b,f,rfl,r,hk,z,rfl⟩:=y
 grind
 have e:i=kvs.length:=by omega
 subst e;exact .inl ⟨⟨q,ae _⟩,h,t ys H p⟩
end
noncomputable def pI(d:Addr)(o:Obj)(kvs:List (List aJ×V)):It:=⟨λi H=>H d=some (.frz o (.dT kvs))/\i<kvs.length,λi H v H'=>H'=H/\∃b G,v=.ref b/\kvs[i]?=some G/\H b=some (.tup (G.1.map kV)),λi H=>H d=some (.frz o (.dT kvs))/\kvs.length<=i⟩
theorem Lr{K:Frag}(d j:Y)(o:Obj)(kvs:O (O aJ×V))(es:Array DictEntry)(ep:Nat)(f:o.data=.dict es ep):dD P w K tg (pI d o kvs) [j] j (λi h=>h.IsKeyIter j d i es.size ep) where
 mem:=by simp
 obj:=λi h st b g=>by
  have e:b=j:=by simpa using g
  subst e;obtain⟨o,e,c,dd⟩:=st;exact⟨o,e,λv z=>by rw[dd]at z;cases z⟩
 keep:=λi h Z st k=>st.at λo e=>k j (by simp) o e
 item:=by intro X C t D W i n s σ H E I r st A;subst C t D;obtain⟨F,y⟩:=A;obtain⟨hd,G,l,S,U,a,u,p⟩:=Xt I.hok F;rw[f]at a;cases a;obtain⟨x,b,q,g,rv⟩:=p i kvs[i] (bo y);obtain⟨R,Q,f2,N,M,L⟩:=r j (by simp);refine Ax st ⟨o,G,l,f⟩ x λZ m sb=>?_;have I1:=I.turned (t':=s.toks) (λb o g e=>(sb.2 b g).trans e) R Q N M L;obtain⟨o1,e1,c1,d1⟩:=id m;exact⟨es[i].key,J,dX e1 c1 d1 (by decide) ⟨.ref b,H,I1,q,⟨J,b,_,J,bo y,g⟩,m,λb g=>(r b g).1⟩⟩
 done:=by intro X C t D W i n s σ H E I r st A;subst C t D;obtain⟨F,y⟩:=A;obtain⟨hd,G,l,S,U,a,u,_⟩:=Xt I.hok F;rw[f]at a;cases a;obtain⟨R,Q,f2,N,M,L⟩:=r j (by simp);exact yV (I.ok.hd W) st ⟨o,G,l,f⟩ (by omega) λZ eb=>⟨J,I.turned (λb o g e=>eb b o g e) R Q N M L⟩
 self:=λ_ _ _ _ _ st h=>wpAny_pyIter_keyiter st h
section
inductive fJ(R:It->Hp->Prop)(v:V)(H1:Hp):Prop|mk:∀d o kvs,v=.ref d->H1 d=some (.frz o (.dT kvs))->R (pI d o kvs) H1->fJ R v H1
def D0(G:TE):TI:=λσ H R=>G σ H λv H1=>fJ R v H1
theorem AS{l:Expr}{m:TE}(hl:PE X l m):PI X tg l (D0 m):=by
 intro c s n H R I h;refine aF (hl c s n H _ I h) λv g ⟨x,D,f,p,d,o,i,z,u,q⟩=>?_;subst z;cases p;obtain⟨t,y,j,A,C,a,r,_⟩:=Xt f.hok u;refine Aw t ⟨o,y,j,a⟩ ?_;refine⟨g.heap.objs.size,[g.heap.objs.size],_,_,D,J,f.kept λb o e=>aj _ e,Lr d _ o i A C a,⟨_,bf _ J,J,J⟩,λb w=>?_,q⟩;have e:b=g.heap.objs.size:=by simpa using w
 subst e;exact f.fpOk (ae _) (f.hok.fresh (ae _))
end
theorem Il{d:Y}{kvs:O (O aJ×V)}(Pv:Nat->St->Hp->Prop)(h0:Pv 0 σ H)(hl:∀i σ H,i<=kvs.length->Pv i σ H->H d=some (.frz o (.dT kvs)))(hs:∀i c σ H b,kvs[i]?=some c->Pv i σ H->H b=some (.tup (c.1.map kV))->g (.ref b) σ H λf H2=>tb (D.lp (Pv (i+1))) f H2) (n:∀σ H,Pv kvs.length σ H->D.nx σ H):
  cK g tb D σ (pI d o kvs) H:=by
 refine⟨λi m σ H=>m=kvs.length-i/\i<=kvs.length/\Pv i σ H,⟨kvs.length,by simp,be _,h0⟩,?_⟩;rintro i m σ H ⟨rfl,l,p⟩;have q:=hl i σ H l p;by_cases a:i<kvs.length;refine .inr ⟨⟨q,a⟩,Pv (i+1),λh t j=>⟨kvs.length-(i+1),by omega,J,a,j⟩,λx t y=>?_⟩;obtain⟨e,b,c,s,hk,r⟩:=y;subst e s;exact hs i c σ _ b hk p r;have e:i=kvs.length:=by omega
 subst e;exact .inl ⟨⟨q,ae _⟩,n σ H p⟩
section
variable{d:Addr}{kvs:List (List aJ×V)}{k:Nat}{Q:VK}
theorem GY(Pv:Nat->O V->Hp->Prop)(h0:Pv 0 [] H)(hl:∀i ys H,i<=kvs.length->Pv i ys H->H d=some (.frz o (.dT kvs))/\ys.length<=sizeLine)(hs:∀i f ys H b,kvs[i]?=some f->H b=some (.tup (f.1.map kV))->Pv i ys H->g (.ref b) (bQ k cap σ) H λa H2=>tc a H2 λb j=>if b=true then te a j λy v=>Pv (i+1) (ys++[y]) v else Pv (i+1) ys j)
  (s:∀ys H,Pv kvs.length ys H->∀p,H p=none->Q (.ref p) (upd H p (.lst ys))):bX (pI d o kvs) g tc te k cap σ H Q:=by
 refine⟨λi m ys H=>m=kvs.length-i/\i<=kvs.length/\Pv i ys H,⟨kvs.length,by simp,be _,h0⟩,?_⟩;rintro i m ys H ⟨rfl,r,p⟩;obtain⟨q,h⟩:=hl i ys H r p;by_cases c:i<kvs.length;refine .inr ⟨⟨q,c⟩,h,Pv (i+1),λl w n=>⟨kvs.length-(i+1),by omega,J,c,n⟩,λx w y=>?_⟩;obtain⟨e,b,f,u,hk,t⟩:=y;subst e u;exact hs i f ys _ b hk t p;have e:i=kvs.length:=by omega
 subst e;exact .inl ⟨⟨q,ae _⟩,h,s ys H p⟩
end
end L2
namespace L2
open PySem PySem.Spec PyProof.Rows
variable{a:Addr}{A:Around}{its:Array Value}{X:Cx}{OK:Heap->Prop}{H:Hp}{cZ:List Expr}{cap:List Nat}{xs:List V}{i:Nat}{Q:Option Value->Shared->Prop}{aD:Pos}{P prog:Program}{s:Shared}{σ:St}{te:TE}{g:TG}{tc:TT}{cM:Value}{E:Value->Shared->Prop}{w:World}
section
theorem KW{e a t:Y}{v:I}(he:IsEnum s.heap e a i cM)(d:s.heap.IsListIter a t i)(h:s.heap.IsList t its)(f:its[i]?=some v)(c:e≠a)(k:∀g,IsEnumOut g e a ((i:Int)+1) v s.heap.objs.size->g.IsListIter a t (i+1)->g.get? s.heap.objs.size=some {cls:=.type "tuple",data:=.seq #[.int i s.toks,v]}->g.objs.size=s.heap.objs.size+1-> (∀b o,b≠e->b≠a->s.heap.get? b=some o->g.get? b=some o)->Q (some (.ref s.heap.objs.size)) {s with heap:=g,toks:=s.toks+1}):wpAny (model prog w) A (pyNext (.ref e)) Q E s:=by
 have hT:s.TypeIs (.ref e) "enumerate":=⟨_,he,J⟩
 unfold pyNext;refine a4 (wpAny_attempt (wpAny_callSpecial?_slot hT PySem.F.slot_enumerate_next (cf PySem.F.slot_enumerate_next hT PySem.F.entry_enumerate_next ?_ (PySem.F.args_enumerate_next_1 _))));exact enumerate_next_item he d h f c λg p n m l j=>a9 (k g p n m l j)
theorem Ih{e a t:Y}(hh:A.handled=none)(he:IsEnum s.heap e a i cM)(b:s.heap.IsListIter a t i)(f:s.heap.IsList t its)(d:its[i]?=none)(k:∀g,Heap.ExtBut a s.heap g->Q none {s with heap:=g}):wpAny (model prog w) A (pyNext (.ref e)) Q E s:=by
 have hT:s.TypeIs (.ref e) "enumerate":=⟨_,he,J⟩
 unfold pyNext;refine a4 (wpAny_attempt (wpAny_callSpecial?_slot hT PySem.F.slot_enumerate_next (cf PySem.F.slot_enumerate_next hT PySem.F.entry_enumerate_next ?_ (PySem.F.args_enumerate_next_1 _))));show wpAny _ _ (field (.ref e) 2>>=_) _ _ _;refine a4 (wpAny_field he J J ?_);refine a4 (wpAny_nextOf_list_end hh b f d λg x c ⟨o,h,j⟩=>?_);exact a4 (di ⟨o,h,j⟩ isSubtype_stop (a9 (k _ c)))
end
noncomputable def pH(a:Addr):It:=⟨λi H=>∃xs x,H a=some (.lst xs)/\xs[i]?=some x,λi H x H'=>∃p y,x=.ref p/\H p=none/\H'=upd H p (.tup [.int i,y])/\∀xs,H a=some (.lst xs)->xs[i]?=some y,λi H=>∃xs,H a=some (.lst xs)/\xs.length<=i⟩
theorem Lp{K:W.Frag}{k1}(a e f:Y)(L:e≠f)(l:sizeLine≥2):dD P w K (.Tuple cZ k1 aD) (pH a) [e,f] e (λi h=>(∃cM,IsEnum h e f i cM)/\h.IsListIter f a i) where
 mem:=by simp
 obj:=λi h st b l=>by
  obtain⟨⟨cM,A⟩,F⟩:=st;rcases ag.mp l with z|z
  simp_all
  have z:b=f:=by simp_all
  rw[z];obtain⟨o,G,c,d⟩:=F
  simp_all
 keep:=λi h h' st k=>by obtain⟨⟨cM,A⟩,o,G,r⟩:=st;exact⟨⟨cM,k e (by simp) _ A⟩,o,k f (by simp) o G,r⟩
 item:=by
  intro X hP hw hK hc i C s σ H E I R st hg;subst hP hw hK;obtain⟨xs,x,Q,hx⟩:=hg;obtain⟨af,U,p,hz⟩:=I.list (.inl (.inl Q));obtain⟨u,hu,ru⟩:=U.get hx;obtain⟨⟨cM,A⟩,F⟩:=st;obtain⟨f0,f1,f2,f3,f4,f5⟩:=R e (by simp);obtain⟨g0,g1,g2,g3,g4,g5⟩:=R f (by simp);refine KW A F p.isList (by simpa using hu) L λg ho ap hT aK hk=>?_;refine⟨.ref s.heap.objs.size,J,wpAny_letOwnedTupleGo_enum ho λg' aS D=>?_⟩;have M:=df (aq A);have av:s.heap.objs.size≠f:=by obtain⟨o,G,_⟩:=F;exact df (aq G)
  have y:=λb o N Z z=>(D.2 b N).trans (hk b o N Z z);have aw:=(D.2 _ M).trans hT;have j:=I.hok.fresh (ae _);have ay:∀b o,H b=some o->b≠e/\b≠f:=λb o z=>⟨(λq=>by simp_all),(λq=>by simp_all)⟩
  have I1:Inv X C σ (upd H s.heap.objs.size (.tup [.int i,x])) {s with heap:=g',toks:=s.toks+1}:=by
   refine I.step (ch:=[e,f]) (λb l=>?_) (λb o N Z t z _=>y b o (λq=>t (by grind)) (λq=>t (by grind)) z)
    (λb o N Z t z _=>⟨o.slots,y b o (λq=>t (by grind)) (λq=>t (by grind)) z⟩) (λb o t z n=>?_) (λb o t z=>⟨o,y b o (λq=>t (by grind)) (λq=>t (by grind)) z⟩)
    (λb S z=>by rw[upd_ne (zj z j)];exact z) (λb o S z=>by rw[upd_ne (zj z j)];exact z) (λb ps z=>⟨#[],by rw[upd_ne (zj z j),z];simp⟩) (λm hm=>?_) (λb ob z=>?_) I.bare
   grind
   rw[upd_ne (az (aq z))];exact n;obtain⟨o,es,ep,ah,r⟩:=hm;exact⟨o,es,ep,y _ o (ai f1) (ai g1) ah,r⟩;by_cases l:b=s.heap.objs.size;subst l;rw[zd]at z;cases z;exact⟨by omega,[.int i s.toks,u],.cons ⟨_,J⟩ (.cons ru .nil),⟨_,aw,J,_,J⟩,λq Q=>by simp_all⟩
   rw[upd_ne l]at z;refine(I.hok b ob z).stay (λc v hc q=>?_) (λc q=>by rw[upd_ne (zj q j)];exact q) λc S q=>by rw[upd_ne (zj q j)];exact q
   grind
  refine⟨.ref s.heap.objs.size,_,I1,J,⟨_,x,J,j,J,λS hy=>by simp_all⟩,⟨⟨u,by grind⟩,?_⟩,λb l=>?_⟩;obtain⟨o,G,r⟩:=ap;exact⟨o,(D.2 f (ai L)).trans G,r⟩;rcases ag.mp l with q|q;rw[q,upd_ne (ai M)];omega;have q:b=f:=by simp_all
  rw[q,upd_ne (ai av)];omega
 done:=by intro X hP hw hK hc i C s σ H E I R st hg;subst hP hw hK;obtain⟨xs,Q,hx⟩:=hg;obtain⟨af,U,p,hz⟩:=I.list (.inl (.inl Q));obtain⟨⟨cM,A⟩,F⟩:=st;obtain⟨g0,g1,g2,g3,g4,g5⟩:=R f (by simp);have hl:=U.length;exact Ih (I.ok.hd hc) A F p.isList (by simp_all) λg eb=>⟨J,I.turned (λb o l z=>eb b o l z) g0 g1 g3 g4 g5⟩
 self:=λ_ _ _ _ _ st h=>by obtain⟨⟨cM,A⟩,_⟩:=st;exact wpAny_pyIter_enum A h
section
inductive fM(R:It->Hp->Prop)(vs:List V)(H1:Hp):Prop|mk:∀a xs,vs=[.ref a]->H1 a=some (.lst xs)->R (pH a) H1->fM R vs H1
def DY(ta:TA):TI:=λσ H R=>ta σ H λvs H1=>fM R vs H1
theorem AR{r}{F:Pos}{a:Expr}{ta:TA}{p:Pos}(C:Gl X "enumerate")(y:X.mg "enumerate"=none)(E:PA X [a] ta)(hs:starEach [a] X.env=[(false,eval a X.env)]:=by rfl):PI X (.Tuple cZ r F) (.Call (.Name "enumerate" p) [a] [] aD) (DY ta):=by
 intro f s j H R I h;refine Call_ (Ym I C y boot_enumerate (PyProof.Rows.callWith_type1 (aF (E aD f s j H _ I h) λM c ⟨L,G,d,m,n⟩=>?_) hs J));obtain⟨t,K,e,x,q⟩:=n;subst e;obtain⟨u,rfl,l⟩:=ql m;cases l;obtain⟨v,N,o,P⟩:=d.list (.inl (.inl x));refine call_enumerate_list o.isList λg i A w hk=>?_;refine wpAny_pyIter_enum i ?_;refine⟨c.heap.objs.size+1,[c.heap.objs.size+1,c.heap.objs.size],_,_,G,J,d.kept hk,Lp t (c.heap.objs.size+1) c.heap.objs.size (Nat.succ_ne_self _) (by rw[sizeLine_eq];omega),⟨⟨_,i⟩,A⟩,λb D=>?_,q⟩;rcases ag.mp D with z|z;rw[z];exact d.fpOk (Nat.le_succ _) (d.hok.fresh (Nat.le_succ _));have z:b=c.heap.objs.size:=by simp_all
 rw[z];exact d.fpOk (ae _) (d.hok.fresh (ae _))
end
theorem Ik{tb:TS}{D:Ends}(Pv:Nat->St->Hp->Prop)(h0:Pv 0 σ H)(hl:∀i σ H,i<=xs.length->Pv i σ H->H a=some (.lst xs))(hs:∀i x σ H p,xs[i]?=some x->Pv i σ H->H p=none->g (.ref p) σ (upd H p (.tup [.int i,x])) λc H2=>tb (D.lp (Pv (i+1))) c H2) (n:∀σ H,Pv xs.length σ H->D.nx σ H):
  cK g tb D σ (pH a) H:=by
 refine⟨λi m σ H=>m=xs.length-i/\i<=xs.length/\Pv i σ H,⟨xs.length,by simp,be _,h0⟩,?_⟩;rintro i m σ H ⟨rfl,l,p⟩;have q:=hl i σ H l p;by_cases b:i<xs.length;refine .inr ⟨⟨xs,xs[i],q,by simp[b]⟩,Pv (i+1),λf o d=>⟨xs.length-(i+1),by omega,J,b,d⟩,λx o y=>?_⟩;obtain⟨d,h,rfl,hn,rfl,j⟩:=y;exact hs i h σ H d (j xs q) p hn;have e:i=xs.length:=by omega
 subst e;exact .inl ⟨⟨xs,q,ae _⟩,n σ H p⟩
section
variable{k:Nat}{Q:VK}
theorem GX(Pv:Nat->O V->Hp->Prop)(h0:Pv 0 [] H)(hl:∀i ys H,i<=xs.length->Pv i ys H->H a=some (.lst xs)/\ys.length<=sizeLine)(hs:∀i x ys H p,xs[i]?=some x->Pv i ys H->H p=none->g (.ref p) (bQ k cap σ) (upd H p (.tup [.int i,x])) λc H2=>tc c H2 λb j=>if b=true then te c j λy r=>Pv (i+1) (ys++[y]) r else Pv (i+1) ys j)
  (o:∀ys H,Pv xs.length ys H->∀p,H p=none->Q (.ref p) (upd H p (.lst ys))):bX (pH a) g tc te k cap σ H Q:=by
 refine⟨λi m ys H=>m=xs.length-i/\i<=xs.length/\Pv i ys H,⟨xs.length,by simp,be _,h0⟩,?_⟩;rintro i m ys H ⟨rfl,n,p⟩;obtain⟨q,h⟩:=hl i ys H n p;by_cases d:i<xs.length;refine .inr ⟨⟨xs,xs[i],q,by simp⟩,h,Pv (i+1),λl s f=>⟨xs.length-(i+1),by omega,J,d,f⟩,λx s y=>?_⟩;obtain⟨f,t,rfl,hn,rfl,u⟩:=y
 simp_all
 have e:i=xs.length:=by omega
 subst e;exact .inl ⟨⟨xs,q,ae _⟩,h,o ys H p⟩
end
section
variable{K:W.Frag}{k:Nat}{Q:VK}
theorem FI(Pv:Nat->O V->Hp->Prop)(h0:Pv 0 [] H)(hl:∀i ys H,i<=xs.length->Pv i ys H->aE K H a xs/\ys.length<=sizeLine)(hs:∀i x ys H p,xs[i]?=some x->Pv i ys H->H p=none->g (.ref p) (bQ k cap σ) (upd H p (.tup [.int i,x])) λc H2=>tc c H2 λb j=>if b=true then te c j λy r=>Pv (i+1) (ys++[y]) r else Pv (i+1) ys j)
  (o:∀ys H,Pv xs.length ys H->∀p,H p=none->Q (.ref p) (upd H p (.lst ys))):bX (rq K a) g tc te k cap σ H Q:=by
 refine⟨λi m ys H=>m=xs.length-i/\i<=xs.length/\Pv i ys H,⟨xs.length,by simp,be _,h0⟩,?_⟩;rintro i m ys H ⟨rfl,n,p⟩;obtain⟨q,h⟩:=hl i ys H n p;by_cases d:i<xs.length;refine .inr ⟨⟨xs,xs[i],q,by simp⟩,h,Pv (i+1),λl s f=>⟨xs.length-(i+1),by omega,J,d,f⟩,λx s y=>?_⟩;obtain⟨f,t,rfl,hn,rfl,u⟩:=y
 grind
 have e:i=xs.length:=by omega
 subst e;exact .inl ⟨⟨xs,q,ae _⟩,h,o ys H p⟩
end
section
variable{T:String}{r d:Addr}{n:Nat}{P:Nat->Value->Prop}
theorem D8{R:List Value->Shared->Prop}(S:W.KdlSrc prog w T r d n P OK)(hh:A.handled=none)(m:OK s.heap)(H:n<=sizeLine)(h:∀(h':Heap)(g:Nat)(l:List Value),(∀b o,s.heap.get? b=some o->h'.get? b=some o)->s.heap.objs.size<h'.objs.size->l.length=n->(∀(j:Nat)(v:Value),l[j]?=some v->P j v)->R l {s with heap:=h',toks:=g}):
  wpAny (model prog w) A (collect (.ref r)) R E s:=by
 obtain⟨G,F⟩:=S.there _ m;have K:(s.heap.push {cls:=.type "list",data:=.seq [].toArray}).get? s.heap.objs.size=some {cls:=.type "list",data:=.seq #[]}:=bf _ J;have u:=S.keep _ (s.heap.push {cls:=.type "list",data:=.seq [].toArray}) m λb _ o e=>aj _ e;have fin:∀(h':Heap)(g:Nat)(a:Array Value)(c:Nat),(∀b o,b≠s.heap.objs.size->(s.heap.push {cls:=.type "list",data:=.seq [].toArray}).get? b=some o->h'.get? b=some o)->h'.get? s.heap.objs.size=some {cls:=.type "list",dict:=none,data:=.seq a c,slots:=#[]}->ItemsOf P a n->R a.toList {s with heap:=h',toks:=g}:=λh' g a c hk i t=>h h' g a.toList (λb o e=>hk b o (az (aq e)) (aj _ e)) (aq i) (by rw[Array.length_toList];exact t.1) λj v e=>t.2 j v (by rw[<-Array.getElem?_toList];exact e)
 unfold collect;refine a4 (wpAny_runValue (codeAny_builtin entry_proto_collect' ?_));rw[Around.under_plainId PySem.F.plain_proto_collect _];refine a4 (cx (a9 ⟨plainId_quiet PySem.F.plain_list_iadd _,codeAny_builtin entry_list_iadd' ?_⟩));rw[Around.under_plainId PySem.F.plain_list_iadd _];refine dc (W.kdl_extend (R:=λq p=>q=.ok (.ret (.ref s.heap.objs.size))/\∃(h':Heap)(g:Nat)(a:Array Value)(c:Nat),p={s with heap:=h',toks:=g}/\h'.get? s.heap.objs.size=some {cls:=.type "list",dict:=none,data:=.seq a c,slots:=#[]}/\R a.toList p)
  S hh u s.heap.objs.size (df G) (df F) (.ref s.heap.objs.size) 0 K (λh' g a c hk i t=>⟨J,h',g,a,c,J,i,fin h' g a c hk i t⟩) H) (λf p x=>?_) λe p x=>?_
 cases f with| done f=>obtain⟨e,h',g,a,c,rfl,i,z⟩:=x;cases e;exact a4 (wpAny_load i (a9 z))| again D=>refine⟨x.1,codeAny_mono x.2 λq C y=>?_⟩;obtain⟨rfl,h',g,a,c,rfl,i,z⟩:=y;exact a4 (wpAny_load i (a9 z))
 exact nomatch x.1
end
section
end
end L2
namespace L2
open PySem PySem.Spec PyProof.Rows PySem.W
variable{it:Addr}{A:Around}{es:Array DictEntry}{X:Cx}{h h':Heap}{H:Hp}{gs:List (List Int)}{ns sn:List Int}{its:List Value}{P prog:Program}{R:Result->Shared->Prop}{s:Shared}{v:Value}{E Q Q₁:Value->Shared->Prop}{w:World}
noncomputable def qT(G:List (List Int))(i j:Nat):Bool:=nH (decide ((G.getD i []).length<(G.getD j []).length)) (G.getD i []) (G.getD j [])
noncomputable def iY(G:List (List Int)):List Nat:=if G.length<2 then List.range G.length else(yh (qT G) (kas_sort G.length)).toList
noncomputable def nJ(G:List (List Int)):List (List Int):=(iY G).map λi=>G.getD i []
theorem Qg(a:O (O Int)):(iY a).Perm (List.range a.length):=by unfold iY;split;exact List.Perm.refl _;exact(ue (n:=a.length) (lt:=qT a) (by omega)).2
theorem HG(a:O (O Int)):(nJ a).Perm a:=((Qg a).map _).trans (.of_eq (Zm a []))
theorem FU(e:its.length=gs.length):jl (qT gs) its=(iY gs).map λi=>its.getD i Value.none:=by unfold jl iY;rw[e];split;rw[<-e];exact(Zm its Value.none).symm;rfl
theorem Es{xs:O V}(d:IsL H (gs.map tI) xs)(e:yn xs its)(hl:xs.length=gs.length):∃b,yn b ((iY gs).map λi=>its.getD i Value.none)/\IsL H ((nJ gs).map tI) b/\b.length=gs.length:=by
 have f:=e.length;have a:∀i∈iY gs,i<gs.length:=λi h=>dj.mp ((Qg gs).mem_iff.mp h);have c:=zG d (dt:=T.non) (dx:=V.non) (iY gs) λi h=>by have:=a i h;omega
 have g:((iY gs).map λi=>(gs.map tI).getD i T.non)=(nJ gs).map tI:=by unfold nJ;rw[bn];refine List.map_congr_left λi d=>?_;have:=a i d;show(gs.map tI).getD i T.non=tI (gs.getD i []);rw[c7,c7,au,bo this];rfl
 rw[g]at c;exact⟨_,Lw (γ:=Unit) e (iY gs) λi h=>by have:=a i h;omega,c,by rw[aa,(Qg gs).length_eq,da]⟩
section
inductive ib(as:List V)(H:Hp)(Q:VK):Prop|mk:∀(d:Addr)(gs:List (List Int)),as=[.ref d]->pB H d gs->(∀g∈gs,g≠[])->gs.length<64->(∀(xs':List V)(l:Addr),IsL H ((nJ gs).map tI) xs'->H l=none->Q (.ref l) (upd H l (.lst xs')))->ib as H Q
theorem JY(hc:X.calm=true):jj X (.builtin "sorted") ib:=by
 intro K s σ H as us Q I r h;obtain⟨d,P,rfl,⟨Z,e,k⟩,y,ap,q⟩:=h;obtain⟨u,rfl,W⟩:=ql r;cases(W);have M:=pB.len e k;obtain⟨z,hd,G,f,⟨o,es,ep,w,C,m,p,_,_⟩⟩:=rM I.hok e;have af:=Paired.length f;have ah:=size_of_entries p;refine Calls.call_function_entry kind_sorted plain_sorted entry_sorted (args_sorted1 _) ?_;unfold Builtin.«sorted»;refine a4 (a9 ?_);refine a4 (D8 (yW hd) (I.ok.hd hc) ⟨o,w,C,m⟩ (by omega) λt tk l hk g hl hP=>?_);refine a4 (wpAny_newList ?_ (by omega));have L:yn (G.map λx=>V.ref x.2.1) l:=Js (by simp_all) λj x v F e2=>by obtain⟨en,E,D⟩:=hP j v e2;rw[entry_at p j]at E;rw[au]at F;cases e3:G[j]? with|none=>simp_all| some x'=>rw[e3]at F E;cases F;cases E;rw[D];rfl
 have N:=wG f k;have PP:=IsL.tupI I N L;have A:l.length=P.length:=by rw[hl];omega
 have a:(t.push (seqObj "list" l.toArray 0)).get? t.objs.size=some (seqObj "list" l.toArray 0):=bf _ J;refine a4 (wpAny_holding (cf slot_list_sort ⟨_,a,J⟩ entry_list_sort (Mf (R:=λ_=>True) (h0:=s.heap) (lt:=qT P) trivial a (by omega) (λD=>JQ PP y D) (λb o e=>?_) ⟨_,J,a9 ⟨_,J,?_⟩⟩) (args_list_sort _)))
 . have n:=hk b o e;exact⟨az (aq n),aj _ n⟩
 rw[FU A];obtain⟨c,U,S,R⟩:=Es N L (by rw[aa];omega);obtain⟨e,p⟩:=sortedHeap_at a;refine⟨.ref t.objs.size,upd H t.objs.size (.lst c),I.laid (λb o w=>?_) (Nat.le_of_lt g) (⟨by rw[R];exact wm (by omega),_,e,U,?_⟩),J,q c _ S (I.hok.fresh (Nat.le_of_lt g))⟩
 . have n:=hk b o w;have i:=aq n;rw[sortedHeap_old (az i) (by rw[size_push'];exact Nat.lt_succ_of_lt i)];exact aj _ n
 . simpa[seqObj]using p
end
section
variable{d v:Addr}{ep i:Nat}
theorem E6(b:(d==sysModules)=false)(x:qj s.heap d es ep)(a:Q (.ref s.heap.objs.size) {s with heap:=s.heap.push {cls:=.type "dict_values",data:=.fields #[.ref d]}}):wpAny (model prog w) A (call (.builtin "dict.values") [.ref d]) Q E s:=by have hT:=x.ty;refine cf F.slot_dict_values hT F.entry_dict_values ?_ (F.args_dict_values_1 _);unfold Builtin.«dict.values»;refine a4 ?_;unfold Builtin.Dict.noArgs;refine a4 (wpAny_notOrdered_dict hT (a9 ?_));unfold Builtin.Dict.showsAll;rw[if_neg (by simp_all)];exact a4 (a9 (a4 (cx (a9 ⟨_,J,a⟩))))
theorem E4(b:s.heap.IsValuesView v d)(x:qj s.heap d es ep)(h:Q (.ref s.heap.objs.size) {s with heap:=s.heap.push {cls:=.type "dict_valueiterator",data:=.fields #[.ref d,.int 0 0,.int es.size 0,.int ep 0]}}):wpAny (model prog w) A (pyIter (.ref v)) Q E s:=by obtain⟨i,c,g,e⟩:=id b;obtain⟨o,f,j,a⟩:=id x;refine wpAny_pyIter_slot b.typeIs F.slot_dict_values_iter (cf F.slot_dict_values_iter b.typeIs F.entry_dict_values_iter ?_ (F.args_dict_values_iter_1 _));unfold Builtin.«dict_values.__iter__»;refine a4 (a9 (a4 ?_));unfold Builtin.Dict_items.dictOf;refine a4 (wpAny_field c e J (a9 (a4 ?_)));unfold Builtin.Dict_items.newIterator;refine a4 (wpAny_dictEntries f a (a4 (wpAny_dictEpoch f a ?_)));simp only[show Builtin.Dict_items.ownsTuple "dict_valueiterator"=false by rfl,Bool.false_eq_true,if_false];refine cx (a9 ⟨_,J,"dict_valueiterator",_,⟨_,bf _ J,J⟩,F.slot_dict_valueiterator_next.lookup,?_⟩);simpa[rawInt]using h
theorem E5{Q:Option I->Shared->Prop}(a:s.heap.IsValIter it d i es.size ep)(x:qj s.heap d es ep)(h:i<es.size)(m:∀h',h'.IsValIter it d (i+1) es.size ep->Heap.SameBut it s.heap h'->Q (some es[i].val) {s with heap:=h'}):wpAny (model prog w) A (pyNext (.ref it)) Q E s:=by
 obtain⟨n,f,l,e⟩:=id a;obtain⟨o,b,j,c⟩:=id x;unfold pyNext;refine a4 (wpAny_attempt (wpAny_callSpecial?_slot a.typeIs F.slot_dict_valueiterator_next (cf F.slot_dict_valueiterator_next a.typeIs F.entry_dict_valueiterator_next (a4 (a9 (a4 (a4 ?_)))) (F.args_dict_valueiterator_next_1 _))))
 first|refine a4 (wpAny_typeNameOfWhole_valiter a.typeIs (a9 ?_))|refine a4 (wpAny_typeNameOf_valiter a.typeIs (a9 ?_))
 refine a4 (wpAny_fieldsOf f e ?_);simp only[show Builtin.Dict_items.ownsTuple "dict_valueiterator"=false from by decide,Bool.false_eq_true,if_false];show wpAny _ _ (if(Value.ref d==Value.none)=true then _ else _) _ _ s;rw[if_neg (show¬((Value.ref d==Value.none)=true)from br)];refine a4 (a9 (a4 (wpAny_dictEntries b c ?_)));rw[if_neg (by simp)];refine a4 (a9 (a4 (wpAny_dictEpoch b c ?_)));rw[if_neg (by simp)];refine a9 ?_;simp only[(by omega),if_false,d9,eh h];refine a4 ?_;first|refine a4 (wpAny_typeNameOfWhole_valiter a.typeIs (a9 ?_))|refine a4 (wpAny_typeNameOf_valiter a.typeIs (a9 ?_))
 refine a4 (wpAny_isOneOf_valiter a.typeIs ?_);show wpAny _ _ (setField (.ref it) 1 (rawInt (i+1))>>=_) _ _ s;refine a4 (wpAny_setField f e (by simp) ?_);have g:(s.heap.update it (Obj.mapFields (·.setIfInBounds 1 (rawInt (i+1))))).IsValIter it d (i+1) es.size ep:=
  ⟨_,Heap.get?_update_self _ f (Obj.isFreed_of_fields (Obj.data_mapFields e _)),(Obj.cls_mapFields ..).trans l,by rw[Obj.data_mapFields e];simp[rawInt]⟩
 refine a4 (wpAny_holding (a4 (wpAny_isOneOf_valiter g.typeIs ?_)));refine a4 (wpAny_isOneOf_valiter g.typeIs ?_);exact a9 (a9 ⟨_,J,a9 (m _ g (Heap.SameBut.update ..))⟩)
theorem DV{Q:Option I->Shared->Prop}(hh:A.handled=none)(a:s.heap.IsValIter it d i es.size ep)(x:qj s.heap d es ep)(g:es.size<=i)(j:∀h',Heap.ExtBut it s.heap h'->Q none {s with heap:=h'}):wpAny (model prog w) A (pyNext (.ref it)) Q E s:=by
 obtain⟨l,e,n,f⟩:=id a;obtain⟨m,b,h,c⟩:=id x;unfold pyNext;refine a4 (wpAny_attempt (wpAny_callSpecial?_slot a.typeIs F.slot_dict_valueiterator_next (cf F.slot_dict_valueiterator_next a.typeIs F.entry_dict_valueiterator_next (a4 (a9 (a4 (a4 ?_)))) (F.args_dict_valueiterator_next_1 _))))
 first|refine a4 (wpAny_typeNameOfWhole_valiter a.typeIs (a9 ?_))|refine a4 (wpAny_typeNameOf_valiter a.typeIs (a9 ?_))
 refine a4 (wpAny_fieldsOf e f ?_);simp only[show Builtin.Dict_items.ownsTuple "dict_valueiterator"=false from by decide,Bool.false_eq_true,if_false];show wpAny _ _ (if(Value.ref d==Value.none)=true then _ else _) _ _ s;rw[if_neg (show¬((Value.ref d==Value.none)=true)from br)];refine a4 (a9 (a4 (wpAny_dictEntries b c ?_)));rw[if_neg (by simp)];refine a4 (a9 (a4 (wpAny_dictEpoch b c ?_)));rw[if_neg (by simp)];refine a9 ?_;simp only[(by omega),if_false,d9,Array.getElem?_eq_none g];refine a4 ?_;first|refine a4 (wpAny_typeNameOfWhole_valiter a.typeIs (a9 ?_))|refine a4 (wpAny_typeNameOf_valiter a.typeIs (a9 ?_))
 show wpAny _ _ (setField (.ref it) 0 .none>>=_) _ _ s;refine a4 (wpAny_setField e f (by simp) ?_);refine a4 ?_;simp only[newExc,newTuple];refine a4 (cx (a4 (wpAny_of_eq (by first|rfl|(simp only[firstArgMember];rfl)) (cx ?_ (by size_fits)))) (by size_fits));simp only[raiseNew];refine a4 (wpAny_handled ?_);rw[(hh)];refine a4 (a9 (wpAny_throw ?_));refine a4 (di ⟨_,bf _ J,J⟩ isSubtype_stop ?_);exact a9 (j _ (((Heap.SameBut.update ..).extBut.push _).push _))
theorem Gf(hh:A.handled=none)(I:Y)(j:d≠I):Walks prog w A I [I,d] [I] es.size (λi v=>∃e,es[i]?=some e/\v=e.val) (λi h=>h.IsValIter I d i es.size ep/\qj h d es ep) where
 sub:=λb a=>by simp at a;simp[a]
 frame:=λ_ _ _ st hk=>⟨st.1.at λo e=>hk I (by simp) o e,st.2.at λo e=>hk d (by simp) o e⟩
 item:=λi s Q E n st g=>E5 st.1 st.2 n λm f c=>g _ m s.toks ⟨_,eh n,J⟩ ⟨f,st.2.at λo e=>c.extBut d o j e⟩ λb o a e=>c.extBut b o (λh=>a (by simp[h])) e
 done:=λs Q E st g=>DV hh st.1 st.2 (ae _) λm l=>g m s.toks λb o a e=>l b o (λh=>a (by simp[h])) e
 self:=λ_ _ _ _ st g=>wpAny_pyIter_valiter st.1 g
theorem DW:KdlSrc prog w "dict_values" v d es.size (λi x=>∃e,es[i]?=some e/\x=e.val) (λh=>h.IsValuesView v d/\qj h d es ep) where
 type:=λ_ x=>x.1.typeIs
 there:=λ_ x=>⟨let⟨_,b,_⟩:=x.1;aq b,x.2.lt⟩
 keep:=λ_ _ x hk=>⟨let⟨o,b,r⟩:=x.1;⟨o,hk v (.inl J) o b,r⟩,x.2.at λo e=>hk d (.inr J) o e⟩
 notList:=by decide
 notTuple:=by decide
 hint:=λ_ _ _ _ x a=>kdl_hint_values x.1.typeIs a
 iter:=λ_ _ c x=>⟨_,_,(λ_ _ a=>E4 x.1 x.2 a),Gf c _ (az x.2.lt),⟨⟨_,bf _ J,J,J⟩,x.2.at λo e=>aj _ e⟩⟩
end
theorem Di{a b:Type}{R:a->b->Prop}{xs:List a}{c:List b}(p:Paired R xs c):∀{j:Nat}{x:a},xs[j]?=some x->∃y,c[j]?=some y/\R x y:=by induction p with|nil=>exact λh=>nomatch h| cons f _ d=>intro j x e;cases j with|zero=>cases e;exact⟨_,J,f⟩|succ j=>exact d e
inductive eA(v d:Addr)(h:Heap):Prop|mk:h.IsValuesView v d->eA v d h
theorem eA.ok{v d:Y}(x:eA v d h):va P w H h v (.ext (eA v d)):=by
 refine⟨x,?_,λc b y k=>?_⟩
 . obtain⟨o,a,_⟩:=x;exact⟨o,a⟩
 . obtain⟨o,a,r⟩:=y;exact⟨o,k o a,r⟩
section
variable{κ:Type}[DecidableEq κ]{τ:aU κ}
inductive gH(τ:aU κ)(P:Program)(w:World)(Q:VK)(x:V)(H1:Hp):Prop|mk:∀d kvs,x=.ref d->bH τ P w H1 d kvs->(∀v H2,Same H1 H2->H1 v=none->H2 v=some (.ext (eA v d))->Q (.ref v) H2)->gH τ P w Q x H1
def DB(τ:aU κ)(P:Program)(w:World)(G:TE):TE:=λσ H Q=>G σ H λx H1=>gH τ P w Q x H1
inductive ie(τ:aU κ)(P:Program)(w:World)(as:List V)(H:Hp)(Q:VK):Prop|mk:∀v d kvs,as=[.ref v]->H v=some (.ext (eA v d))->bH τ P w H d kvs->(∀l H',Same H H'->H l=none->H' l=some (.lst (kvs.map (·.2)))->Q (.ref l) H')->ie τ P w as H Q
variable{o:Expr}{apos cpos:Pos}{td:TE}
theorem F4(A:PE X o td)(c:attributeBase o "values" X.env (eval o X.env)=eval o X.env:=by rfl)(b:(apos.endLine==cpos.line)=true:=by rfl):PE X (.Call (.Attribute o "values" apos) [] [] cpos) (DB τ X.prog X.w td):=by
 intro g s t H Q I h;refine wpAny_Call_method0_late c b (aF (A g s t H _ I h) λu f ⟨x,L,l,w,d,y,D,n,q⟩=>?_);subst D;obtain rfl:u=Value.ref d:=w;obtain⟨C,G,v,z,⟨m,E,F,p,j,i,K,_,_⟩⟩:=n.dict l.hok;have r:qj f.heap d E F:=⟨m,p,j,i⟩
 refine⟨"dict","dict.values",PySem.F.plainAttrs_dict,PySem.F.slot_dict_values,PySem.F.type_dict_values,r.ty,λa e=>?_,Calls.callWith_builtin J (PySem.evalArgs_none (E6 C r ?_))⟩
 . cases e;exact⟨m,p,j.2.1⟩
 have hn:=l.hok.fresh (ae f.heap.objs.size);exact⟨.ref f.heap.objs.size,_,l.laid (a:=f.heap.objs.size) (o:=.ext (eA f.heap.objs.size d)) (t':=f.toks) (λ_ _ q=>aj _ q) (ae _) (eA.ok ⟨_,bf _ J,J,J⟩),J,q _ _ (Same.new hn _) hn zd⟩
theorem JV(R:X.calm=true):jj X (.type "list") (ie τ X.prog X.w):=by
 intro A s σ H as us Q I r h;obtain⟨v,d,b,rfl,L,n,q⟩:=h;obtain⟨u,rfl,G⟩:=ql r;cases(show u=Value.ref v from G);obtain⟨hd,xs,f,z,⟨o,U,W,M,t,g,C,_,_⟩⟩:=n.dict I.hok;have P:=size_of_entries C;obtain⟨⟨e⟩,_⟩:=(show va X.prog X.w H s.heap v (.ext (eA v d))from I.hok v _ L)
 refine kdl_call (DW (es:=U) (ep:=W)) (I.ok.hd R) ⟨e,⟨o,M,t,g⟩⟩ (by omega) λh' E a c' hk S c=>?_;have N:=Paired.length f;have p:yn (b.map (·.2)) a.toList:=Js (by have l:=c.1;have D:a.toList.length=a.size:=Array.length_toList;rw[aa];omega) λj x y i Z=>by obtain⟨en,l,D⟩:=c.2 j y (by rw[<-Array.getElem?_toList];exact Z);rw[entry_at C j]at l;rw[au]at i;cases w:b[j]? with|none=>rw[w]at i;cases i| some kv=>rw[w]at i;cases i;obtain⟨x',m,_,_,K⟩:=Di f w;rw[m]at l;cases l;rw[D];exact K
 have hn:=I.hok.fresh (ae s.heap.objs.size);have F:=Same.new hn (.lst (b.map (·.2)));exact⟨.ref s.heap.objs.size,_,I.laid (t':=E) (o:=.lst (b.map (·.2))) hk (ae _) ⟨by rw[aa];omega,a.toList,c',p,by simpa using S⟩,J,q _ _ F hn zd⟩
end
section
variable{κ:Type}[DecidableEq κ]{τ:aU κ}
noncomputable def K7(xs rows:List (Zp κ)):List (Zp κ):=rows.foldl (λG r=>storedH G r.1 r.2.1 r.2.2) xs
theorem L3(xs:O (Zp κ))(k:κ)(a:Y)(v:I):(storedH xs k a v).length<=xs.length+1:=by unfold storedH;split;rw[aa];omega;rw[cj,List.length_singleton];exact ae _
section
theorem eE.keep{x:cX aJ}{u:Value}(d:eE (zy prog w) h x u)(k:ll h h'):eE (zy prog w) h' x u:=by cases x with| inl a=>obtain⟨c,e,o,b,n,g,f,r⟩:=d;exact⟨c,e,o,b,n,k _ _ f g,f,r⟩|inr a=>exact d
theorem cC.keep{a:List (cX aJ)}{us:List Value}(x:cC (zy prog w) h a us)(k:ll h h'):cC (zy prog w) h' a us:=by induction x with|nil=>exact .nil|cons c _ b=>exact .cons (c.keep k) b
theorem ut{c:κ}{a:Y}(x:(qg (zy prog w) τ.S).is h c a)(k:ll h h'):(qg (zy prog w) τ.S).is h' c a:=by obtain⟨o,b,n,e,d,g,f⟩:=x;exact⟨o,b,n,k _ _ d e,d,g,f.keep k⟩
def pT(τ:aU κ)(prog:Program)(w:World)(h:Heap)(v:Value)(r:Zp κ):Prop:=∃b,v=.ref b/\h.IsTuple b #[.ref r.2.1,r.2.2]/\(qg (zy prog w) τ.S).is h r.1 r.2.1
theorem pT.keep{r:Zp κ}(p:pT τ prog w h v r)(k:ll h h'):pT τ prog w h' v r:=by obtain⟨b,e,⟨o,d,a,n,f⟩,c⟩:=p;exact⟨b,e,⟨o,k _ _ a d,a,n,f⟩,ut c k⟩
theorem V7{d:Y}{xs:O (Zp κ)}(x:h.DictOfH (qg (zy prog w) τ.S) d xs)(kd:∀o,h.get? d=some o->h'.get? d=some o)(k:ll h h'):h'.DictOfH (qg (zy prog w) τ.S) d xs:=by obtain⟨o,j,l,f,i,c,g,b,a⟩:=x;exact⟨o,j,l,kd o f,i,c,g,λy e=>ut (b y e) k,a⟩
theorem Ic{d t:Addr}{its:Array Value}{rows:List (Zp κ)}(hu:A.units+3<cLine)(hh:A.handled=none)(q:d≠it)(U:t≠it)(S:t≠d)(hl:its.size=rows.length)(W:rows.length<=sizeLine):
  ∀ (k i:Nat) (s:Shared) (xs:List (Zp κ)),rows.length-i=k->i<=rows.length->xs.length<=i->s.heap.IsListIter it t i->s.heap.IsList t its->s.heap.DictOfH (qg (zy prog w) τ.S) d xs->
    (∀(j:Nat) v r,its[j]?=some v->rows[j]?=some r->pT τ prog w s.heap v r)->
    (∀h' tk,h'.DictOfH (qg (zy prog w) τ.S) d (K7 xs (rows.drop i))->(∀b o,b≠d->b≠it->s.heap.get? b=some o->h'.get? b=some o)->R (.ok (.ret .none)) {s with heap:=h',toks:=tk})->
    codeAny (model prog w) A (.builtin "dict.update.loop" ⟨[.ref d,.ref it,rawInt i,.none],[]⟩) R s:=by
 intro k;induction k with| zero=>
   intro i s xs hk hi hz l H L N hR;have e:i=rows.length:=by omega
   have tk:∀h',Heap.ExtBut it s.heap h'->ll s.heap h':=λh' G c o a z=>G c o (λy=>by obtain⟨oi,h,m,_⟩:=l;rw[y,h]at z;cases z;rw[m]at a;exact absurd a (by decide)) z
   refine codeAny_builtin Ya ?_;rw[Around.under_plainId qe _];show wpAny _ A.in1 (pyNext (.ref it)>>=_) _ _ s;refine a4 (wpAny_pyNext_list_end (show A.in1.handled=none from hh) l H (Array.getElem?_eq_none (by omega)) λh' G=>?_);show wpAny _ A.in1 (Builtin.Dict.addKeywords d []>>=_) _ _ _;refine a4 (a9 (a9 ?_));refine hR h' s.toks ?_ λb o C u z=>G b o u z;rw[e,List.drop_length];exact V7 L (λo Q=>G d o q Q) (tk h' G)| succ k ih=>
   intro i s xs hk hi hz l H L N hR;have n:i<rows.length:=by omega
   have hx:its[i]?=some its[i]:=eh (by omega);have hr:rows[i]?=some rows[i]:=bo n;have P0:=N i _ _ hx hr;have f:∀c o,o.cls=.type "tuple"->s.heap.get? c=some o->c≠it:=λc o a z y=>by obtain⟨oi,h,m,_⟩:=l;rw[y,h]at z;cases z;rw[m]at a;exact absurd a (by decide)
   have x:∀c o,o.cls=.type "tuple"->s.heap.get? c=some o->c≠d:=λc o a z y=>by obtain⟨oi,es,ep,h,m,_⟩:=L;rw[y,h]at z;cases z;rw[m.1]at a;exact absurd a (by decide)
   refine codeAny_builtin Ya ?_;rw[Around.under_plainId qe _];show wpAny _ A.in1 (pyNext (.ref it)>>=_) _ _ s;refine a4 (wpAny_pyNext_list_item l H hx λg E K=>?_);have kg:ll s.heap g:=λc o a z=>K.extBut c o (f c o a z) z;obtain⟨b,hb,F,D⟩:=P0.keep kg;have ah:g.DictOfH (qg (zy prog w) τ.S) d xs:=V7 L (λo Q=>K.extBut d o q Q) kg;rw[hb];show wpAny _ A.in1 (holding [Value.ref b] _>>=_) _ _ _;refine a4 (wpAny_holding (a4 (wpAny_tryCatch ?_)));unfold Builtin.Dict.pairItems;refine a4 (wpAny_typeOf (T:="tuple") (Heap.IsTuple.typeIs (s:={s with heap:=g}) F) ?_);rw[if_pos (by rfl)];obtain⟨ob,P,_,nb,Z⟩:=F;refine a4 (wpAny_seqItems (s:={s with heap:=g}) P Z (a9 ?_));show wpAny _ A.in1 (holding [Value.ref rows[i].2.1,rows[i].2.2] (dictSet d (Value.ref rows[i].2.1) rows[i].2.2)) _ _ _;refine wpAny_holding (wpAny_dictSet_heap (knd:=qg (zy prog w) τ.S) (Wh hu) D ah (λg2 af p=>?_) (c9 (Nat.le_of_lt (ef hz n)) W));refine a9 ⟨plainId_quiet qe _,?_⟩;have e1:rawInt ((i:Int)+1)=rawInt ((i+1:Nat):Int):=by simp
   have keep:∀c o,c≠d->c≠it->s.heap.get? c=some o->g2.get? c=some o:=λc o C u z=>p.extBut c o C (K.extBut c o u z);show codeAny (model prog w) A (.builtin "dict.update.loop" ⟨[.ref d,.ref it,rawInt ((i:Int)+1),.none],[]⟩) R _;rw[e1];have lz:=L3 xs rows[i].1 rows[i].2.1 rows[i].2.2;refine ih (i+1) _ _ (by omega) n (by omega) (E.extBut p.extBut (ai q)) (H.extBut K.extBut U |>.extBut p.extBut S) af (λj v r hv M=>(N j v r hv M).keep λc o a z=>keep c o (x c o a z) (f c o a z) z) λh' tk hD X=>?_;refine hR h' tk ?_ λc o C u z=>X c o C u (keep c o C u z);have e2:rows.drop i=rows[i]::rows.drop (i+1):=List.drop_eq_getElem_cons n;rw[e2];exact hD
end
inductive fr(τ:aU κ)(H:Hp)(b:Addr)(r:κ×V):Prop|mk:∀kb,H b=some (.tup [.ref kb,r.2])->Is H (τ.tr r.1) (.ref kb)->fr τ H b r
theorem fr.same{a:Hp}{b:Y}{r:κ×V}(p:fr τ H b r)(s:Same H a):fr τ a b r:=let⟨c,e,d⟩:=p;⟨c,s _ _ e,d.mono s⟩
noncomputable def Zt(rows:List (κ×V))(kvs:List (κ×V)):List (κ×V):=rows.foldl (λG r=>v4 G r.1 r.2) kvs
inductive il(τ:aU κ)(P:Program)(w:World)(as:List V)(H:Hp)(Q:VK):Prop|mk:∀(p:Addr)(bs:List Addr)(rows:List (κ×V)),as=[.ref p]->H p=some (.lst (bs.map V.ref))->Paired (fr τ H) bs rows->(∀d H',Same H H'->H d=none->bH τ P w H' d (Zt rows [])->Q (.ref d) H')->il τ P w as H Q
theorem wO{X:Cx}{c:List (Addr×Obj)}{l:St}{H:Hp}{s:Shared}(I:Inv X c l H s):∀{d:List Addr}{rows:List (κ×V)},Paired (fr τ H) d rows->∃a:List (Zp κ),a.length=d.length/\KG τ H rows a/\
  ∀(j:Nat) b q,d[j]?=some b->a[j]?=some q->s.heap.IsTuple b #[.ref q.2.1,q.2.2]/\(qg (zy X.prog X.w) τ.S).is s.heap q.1 q.2.1
 |_,_,.nil=>⟨[],J,.nil,λj b q f=>by simp at f⟩
 | b ::d,r::rows,.cons h t=>by
   obtain⟨a,C,A,z⟩:=wO I t;obtain⟨e,f,hk⟩:=h;obtain⟨_,x,n,y,_⟩:=(show va X.prog X.w H s.heap b (.tup [.ref e,r.2])from I.hok b _ f)
   cases n with
   | @cons _ w _ _ v u=>
     cases u with
     | @cons _ m _ _ p o=>
       cases o;cases(show w=Value.ref e from v);refine⟨(r.1,e,m)::a,by simp[C],.cons ⟨J,hk,p⟩ A,λj D q i g=>?_⟩;cases j with
       | zero=>simp at i g;subst i g;exact⟨y,τ.of I.hok hk⟩
       |succ j=>exact z j D q (by simpa using i) (by simpa using g)
theorem AG{H:Hp}:∀{rows:List (κ×V)}{d:List (Zp κ)}{kvs:List (κ×V)}{xs:List (Zp κ)},KG τ H rows d->KG τ H kvs xs->KG τ H (Zt rows kvs) (K7 xs d)/\(Zt rows kvs).length<=kvs.length+rows.length|_,_,kvs,_,.nil,r=>⟨r,ae _⟩| r::rows,q::d,kvs,xs,.cons h t,e=>by obtain⟨f,i,g⟩:=h;have c:=e.put r.1 i g;obtain⟨a,b⟩:=AG t c;rw[f]at a;refine⟨by show KG τ H (Zt rows (v4 kvs r.1 r.2)) (K7 (storedH xs q.1 q.2.1 q.2.2) d);rw[f];exact a,?_⟩;have:=wc kvs r.1 r.2;have b:(Zt (r::rows) kvs).length<=(v4 kvs r.1 r.2).length+rows.length:=b;rw[d7];omega
section
theorem JT(hc:X.calm=true)(hu:X.A.units+8<cLine):jj X (.type "dict") (il τ X.prog X.w):=by
 intro aK s σ H as us Q I r h;obtain⟨p,l,y,rfl,hp,ay,q⟩:=h;obtain⟨u,rfl,rx⟩:=ql r;cases(show u=Value.ref p from rx);obtain⟨hz,a,n,rv,h1⟩:=(show va X.prog X.w H s.heap p (.lst (l.map V.ref))from I.hok p _ hp)
 have hh:X.A.handled=none:=I.ok.hd hc;obtain⟨L,a7,E,m⟩:=wO I ay;have av:a.length=l.length:=by have:=rv.length;rw[aa]at this;omega
 have a6:l.length<=sizeLine:=by rw[aa]at hz;exact hz
 refine callType_codes (Q₁:=λA i=>A=.ref s.heap.objs.size/\i={s with heap:=s.heap.push {cls:=.type "dict",data:=.dict #[]}}) PySem.F.kt_called_dict (PySem.F.kt_typeCall_dict_1 _) PySem.F.entry_dict_init (kt_code_dict_new _ ⟨J,J⟩) ?_;rintro A i ⟨rfl,rfl⟩;have f:(s.heap.push {cls:=.type "dict",data:=.dict #[]}).DictOfH (qg (zy X.prog X.w) τ.S) s.heap.objs.size []:=Heap.DictOfH.new s.heap;have K:({s with heap:=s.heap.push {cls:=.type "dict",data:=.dict #[]}}:Shared).TypeIs (.ref s.heap.objs.size) "dict":=f.typeIs (s:={s with heap:=s.heap.push {cls:=.type "dict",data:=.dict #[]}});have t:(s.heap.push {cls:=.type "dict",data:=.dict #[]}).get? p=some {cls:=.type "list",dict:=none,data:=.seq a.toArray n,slots:=#[]}:=aj _ h1;have G:p<s.heap.objs.size:=aq h1;refine⟨K,PySem.F.args_dict_init_2 _ _,?_⟩;unfold Builtin.«dict.__init__»;refine a4 ?_;unfold Builtin.Dict.selfAndRest;refine a4 (wpAny_notOrdered_dict K (show wpAny _ _ (pure (s.heap.objs.size,[Value.ref p])) _ _ _ from a9 ?_));show wpAny _ _ (Builtin.Dict.updateFrom "dict.__init__" s.heap.objs.size (.ref p) [] .none) _ _ _;unfold Builtin.Dict.updateFrom;refine a4 (wpAny_typeOf (T:="list") ⟨_,t,J⟩ ?_);rw[if_pos (by decide)];refine a4 (B2 (s:={s with heap:=s.heap.push {cls:=.type "dict",data:=.dict #[]}}) t hh λg tk hk=>?_);simp only[Option.isNone_none,if_true];refine a4 (wpAny_rule ?_);have D:g.IsList p a.toArray:=⟨_,hk _ _ t,J,n,J⟩
 refine a4 (wpAny_pyIter_list (s:={s with heap:=g,toks:=tk}) D (a9 ⟨plainId_quiet qe _,?_⟩));have w:s.heap.objs.size+1<=g.objs.size:=by obtain⟨o,M,N,F,_⟩:=f;exact aq (hk _ _ F)
 have aw:(g.push {cls:=.type "list_iterator",data:=.fields #[.ref p,.int 0 0]}).DictOfH (qg (zy X.prog X.w) τ.S) s.heap.objs.size []:=by obtain⟨o,M,N,F,a1,a2,R,_,P⟩:=f;exact⟨o,M,N,aj _ (hk _ _ F),a1,a2,R,(λx hx=>by cases hx),P⟩
 have S:∀b o,s.heap.get? b=some o->(g.push {cls:=.type "list_iterator",data:=.fields #[.ref p,.int 0 0]}).get? b=some o:=λb o e=>aj _ (hk _ _ (aj _ e));refine Ic (A:=X.A.in1) (rows:=L) (its:=a.toArray) (t:=p) (by have:X.A.in1.units=X.A.units+1:=rfl;omega) hh (az (Nat.lt_of_succ_le w)) (az (Nat.lt_trans G (Nat.lt_of_succ_le w))) (az G) (by rw[cz];omega) (by omega) L.length 0 _ [] (by omega) (be _) (ae _)
  ⟨_,bf _ J,J,J⟩ (D.push _) aw (λj v r C hr=>?_) λh' U hD hK=>?_
 have C:a[j]?=some v:=by simpa using C
 have hj:j<l.length:=by have:=(ci.mp C).1;omega
 obtain⟨u,af,ru⟩:=rv.get (i:=j) (x:=V.ref l[j]) (by rw[au,bo hj];rfl);rw[af]at C;cases C;cases(show v=Value.ref l[j]from ru);obtain⟨⟨ob,ah,rr⟩,ap⟩:=m j l[j] r (bo hj) hr;exact⟨l[j],J,⟨ob,S _ _ ah,rr⟩,ut ap λc o _ e=>S c o e⟩;refine⟨J,?_⟩;have keep:∀b o,s.heap.get? b=some o->h'.get? b=some o:=λb o e=>hK b o (az (aq e)) (az (Nat.lt_trans (aq e) (Nat.lt_of_succ_le w))) (S b o e);obtain⟨W,aS⟩:=AG (kvs:=[]) (xs:=[]) E .nil;have a8:=Paired.length E;have d:=I.hok.fresh (ae s.heap.objs.size);have zz:(s.heap.objs.size==sysModules)=false:=beq_eq_false_iff_ne.mpr (ai (az I.big));obtain⟨o,M,N,F,a1,a2,R,_,P⟩:=hD;rw[List.drop_zero]at R P;have sm:=Same.new d (.ext (Jm τ X.prog X.w s.heap.objs.size (K7 [] L)));have Z:(Zt y []).length<=sizeLine:=by have:([]:O (κ×V)).length=0:=rfl;omega
 exact⟨.ref s.heap.objs.size,_,I.laid (a:=s.heap.objs.size) (t':=U) keep (ae _) (Jm.ok (xs:=K7 [] L) ⟨o,M,N,F,a1,a2,R⟩),J,q _ _ sm d ⟨_,zd,zz,Z,P,Paired.mapP W λ_ _ z=>⟨z.1,z.2.1.mono sm,z.2.2⟩⟩⟩
end
end
noncomputable def eQ:Option Int->List Int->Option Int|b,[]=>b|none,k::r=>eQ (some k) r|some m,k::r=>eQ (some (if k>m then k else m)) r
noncomputable def rE:Option (Int×Tok)->Array Value|none=>#[]|some (n,t)=>#[.int n t,.int n t]
theorem Hn(A:Around)(s:Shared)(a:Int)(t:Tok)(c:Int)(u:Tok)(prog:Program)(w:World)(E:I->Shared->Prop)(Q:I->Shared->Prop)(h:Q (.bool (decide (a>c))) s):wpAny (model prog w) A (richCompare .Gt (.int a t) (.int c u)) Q E s:=
 (PyProof.Rows.gt_int h:wpAny (model prog w) A (compareOp .Gt (.int a t) (.int c u)) Q E s)
section
theorem FM{t S:Addr}{K:Value}(hh:A.handled=none)(h1:t≠it)(H:S≠it)(h3:t≠S)(hv:IntsAre its ns):
  ∀ (m i:Nat) (s:Shared) (b:Option (Int×Tok)) (c:Nat),its.length-i=m->i<=its.length->s.heap.IsListIter it t i->s.heap.IsList t its.toArray->s.heap.get? S=some {cls:=.type "list",data:=.seq (rE b) c}->
    (∀h' tk v,(match eQ (b.map (·.1)) (ns.drop i)with|none=>v=K|some n=>∃u,v=.int n u)->(∀c o,c≠it->c≠S->s.heap.get? c=some o->h'.get? c=some o)->R (.ok (.ret v)) {s with heap:=h',toks:=tk})->
    codeAny (model P w) A (.builtin "max.loop" ⟨[.ref it,.none,.ref S],[("default",K)]⟩) R s:=by
 have hl:=hv.length;intro m;induction m with
 | zero=>
   intro i s b c hk hi x M G D;have e:i=its.length:=by omega
   refine codeAny_builtin F.entry_max_loop ?_;rw[Around.under_plainId F.plain_max_loop _];show wpAny _ A.in1 ((load S>>=_)>>=_) _ _ s;refine a4 (a4 (wpAny_load G (a9 ?_)));refine a4 (wpAny_tryCatch (wpAny_pyNext_list_end (show A.in1.handled=none from hh) x M (Array.getElem?_eq_none (by simp;omega)) λh' eb=>?_));rw[List.drop_of_length_le (by omega)]at D;cases b with
   | none=>show wpAny _ _ (rule _>>=λ_=>ret K) _ _ _;exact a4 (wpAny_rule (a9 (D h' s.toks K J λc o C _ z=>eb c o C z)))
   | some q=>show wpAny _ _ (updateSeq S _>>=λ_=>letGo _ _>>=λ_=>ret (Value.int q.1 q.2)) _ _ _;exact a4 (wpAny_updateSeq (s:={s with heap:=h'}) (eb S _ H G) J (a4 (wpAny_letGo (a9 (D _ s.toks (.int q.1 q.2) ⟨q.2,J⟩ λc o C L z=>by show(h'.update S _).get? c=some o;rw[Heap.get?_update_ne _ _ _ _ L];exact eb c o C z)))) bF)
 | succ m ih=>
   intro i s b c hk hi x M G D;have r:i<its.length:=by omega
   have hx:its.toArray[i]?=some its[i]:=by simp[r]
   obtain⟨a,d,W,Z⟩:=hv.at i (its[i]) (bo r);have ed:ns.drop i=a::ns.drop (i+1):=by obtain⟨h1,H⟩:=ci.mp Z;rw[List.drop_eq_getElem_cons h1,H]
   rw[ed]at D;refine codeAny_builtin F.entry_max_loop ?_;rw[Around.under_plainId F.plain_max_loop _];show wpAny _ A.in1 ((load S>>=_)>>=_) _ _ s;refine a4 (a4 (wpAny_load G (a9 ?_)));refine a4 (wpAny_tryCatch (wpAny_pyNext_list_item x M hx λg E X=>?_));rw[W];have f:=X.extBut S _ H G;have U:∀(p:Shared)(N:Option (Int×Tok))(l:Nat),Heap.SameBut S g p.heap->p={s with heap:=p.heap,toks:=p.toks}->p.heap.get? S=some {cls:=.type "list",data:=.seq (rE N) l}->eQ (N.map (·.1)) (ns.drop (i+1))=eQ (b.map (·.1)) (a::ns.drop (i+1))->codeAny (model P w) A (.builtin "max.loop" ⟨[.ref it,.none,.ref S],[("default",K)]⟩) R p:=λp N l Q es af em=>by refine ih (i+1) p N l (by omega) r (E.extBut Q.extBut (ai H)) (M.extBut X.extBut h1 |>.extBut Q.extBut h3) af λh' tk v hm k'=>?_;rw[es];exact D h' tk v (by rw[<-em];exact hm) λc o C L z=>k' c o C L (Q.extBut c o L (X.extBut c o C z))
   have up:∀{xs:Array Value}{c0:Nat}{g0:Heap},g0.get? S=some {cls:=.type "list",data:=.seq xs c0}->∃l,(g0.update S (Obj.mapSeq λ_=>#[Value.int a d,.int a d])).get? S=some {cls:=.type "list",data:=.seq (rE (some (a,d))) l}:=λh=>⟨_,get?_update_seq h _⟩
   cases b with
   | none=>show wpAny _ _ (updateSeq S _>>=λ_=>again _) _ _ _;obtain⟨l,y⟩:=up f;exact a4 (wpAny_updateSeq (s:={s with heap:=g}) f J (a9 ⟨plainId_quiet F.plain_max_loop _,U {s with heap:=_} (some (a,d)) l (Heap.SameBut.update ..) J y J⟩))
   | some q=>
     refine a4 (a9 (a4 (wpAny_tryCatch (wpAny_holding (a4 (Hn _ _ _ _ _ _ _ _ _ _ (a4 (wpAny_holding (wpAny_truthy_bool (a4 (wpAny_letGo (a9 ?_))))))))))));by_cases j:a>q.1
     . rw[bj j];show wpAny _ _ (updateSeq S _>>=λ_=>letGo _ _>>=λ_=>again _) _ _ _;obtain⟨l,y⟩:=up f;exact a4 (wpAny_updateSeq (s:={s with heap:=g}) f J (a4 (wpAny_letGo (a9 ⟨plainId_quiet F.plain_max_loop _,U {s with heap:=_} (some (a,d)) l (Heap.SameBut.update ..) J y (by show _=eQ (some (if a>q.1 then a else q.1)) _;rw[if_pos j];rfl)⟩))) bF)
     . rw[c6 j];show wpAny _ _ (letGo _ _>>=λ_=>again _) _ _ _;exact a4 (wpAny_letGo (a9 ⟨plainId_quiet F.plain_max_loop _,U {s with heap:=g} (some q) c (Heap.SameBut.refl ..) J f (by show _=eQ (some (if a>q.1 then a else q.1)) _;rw[if_neg j];rfl)⟩))
end
theorem F2:bootBuiltins "max"=some (.builtin "max"):=by decide+kernel
section
inductive gS(K:W.Frag)(d:Int)(Q:VK)(vs:List V)(H1:Hp):Prop|mk:∀a ns,vs=[.ref a]->aG K H1 a (ns.map V.int)->Q (.int ((eQ none ns).getD d)) H1->gS K d Q vs H1
def Dw(K:W.Frag)(d:Int)(ta:TA):TE:=λσ H Q=>ta σ H λvs H1=>gS K d Q vs H1
theorem FB{kc}{kp jT:Pos}{a:Expr}{ta:TA}{p w:Pos}{d:Int}(hg:Gl X "max")(hm:X.mg "max"=none)(hc:X.calm=true)(ha:PA X [a] ta)(hs:starEach [a] X.env=(false,eval a X.env)::starEach [] X.env:=by rfl)(C:((backTo w (starEach [a] X.env)).any (·.1))=false:=by rfl):PE X (.Call (.Name "max" p) [a] [⟨some "default",.Constant (.int d) kc kp,jT⟩] w) (Dw X.K d ta):=by
 intro f s L H Q I h;refine wpAny_Call_Name_kw (Ym I hg hm F2 ?_);refine W.callWith_of (P:=λ_=>True) (by rw[C];rfl) (λh _=>⟨.machine,.inr (.inl J),?_⟩) ?_;exact λA Q E s _ q=>(show wpAny _ A (pure Keeper.machine) Q E s from a9 q)
 have M:backTo w (starEach [a] X.env)=(false,eval a X.env)::backTo w (starEach [] X.env):=by rw[hs];rfl
 rw[M];refine evalArgs_kwB J ?_;rw[<-M];refine aF (ha w f s L H _ I h) λus S ⟨vs,P,I1,r1,q1⟩=>?_;obtain⟨b,g,rfl,hq,q⟩:=q1;refine kws_cons (aF (ze (X:=X) (i:=d) f S L P (λv N=>v=.int d/\N=P) I1 ⟨J,J⟩) λdv l ⟨x,N,K,r2,e1,e2⟩=>kws_nil ⟨trivial,?_⟩);subst e1 e2;obtain⟨t,rfl⟩:=r2;obtain⟨u,rfl,U⟩:=ql r1;cases(show u=Value.ref b from U);obtain⟨m,Z,y,hz⟩:=K.list hq;have r:b<l.heap.objs.size:=by obtain⟨_,e,_⟩:=y.isList;exact aq e
 have D:checkBuiltinCall "max" ⟨[.ref b],[("default",.int d t)]⟩=pure ():=by kernel_rfl
 refine wpAny_call (codeAny_call_builtin F.plain_max F.entry_max (wpAny_of_eq D ?_));have G:Builtin.Builtins.bindParams "max" ["key","default"] 0 {kw:=[("default",.int d t)]}=pure [none,some (.int d t)]:=by kernel_rfl
 show wpAny _ _ (Builtin.Builtins.bindParams "max" ["key","default"] 0 {kw:=[("default",.int d t)]}>>=_) _ _ l;refine a4 (wpAny_of_eq G ?_);show wpAny _ _ (pyIter (.ref b)>>=_) _ _ l;refine a4 (wpAny_pyIter_list y.isList ?_);refine a4 (wpAny_newList (a9 ⟨plainId_quiet F.plain_max_loop _,?_⟩) (be _));have j:(l.heap.push {cls:=.type "list_iterator",data:=.fields #[.ref b,.int 0 0]}).objs.size=l.heap.objs.size+1:=Array.size_push ..;refine FM (t:=b) (its:=m) (ns:=g) (K.ok.hd hc) (az r) (by rw[j];exact df (fg _)) (by rw[j];exact az (Nat.lt_succ_of_lt r)) (BZ Z) m.length 0 _ none 0 (by omega) (be _) ⟨_,aj _ (bf _ J),J,J⟩ ((y.isList.push _).push _) (bf _ J) λh' R v i z=>?_;have keep:∀c o,l.heap.get? c=some o->h'.get? c=some o:=λc o e=>by have:=aq e;exact z c o (az this) (by rw[j];exact az (Nat.lt_succ_of_lt this)) (aj _ (aj _ e))
 have i:∃u,v=.int ((eQ none g).getD d) u:=by rw[List.drop_zero]at i;cases e:eQ none g with|none=>rw[show eQ (Option.map (·.1) (none:Option (Int×Tok))) g=eQ none g from rfl,e]at i;exact⟨t,i⟩|some n=>rw[show eQ (Option.map (·.1) (none:Option (Int×Tok))) g=eQ none g from rfl,e]at i;exact i
 obtain⟨u,rfl⟩:=i;exact⟨.int ((eQ none g).getD d),_,K.kept (t':=R) keep,⟨_,J⟩,q⟩
end
theorem Kg(v:I):checkTypeCall "set" ⟨[v],[]⟩=pure ():=by kernel_rfl
theorem Mp(v:I):checkBuiltinCall "set.__new__" ⟨[.type "set",v],[]⟩=pure ():=by kernel_rfl
section
theorem Mo(v:I)(h:∀a:Bool,Q₁ (.ref s.heap.objs.size) {s with heap:=s.heap.push {cls:=.type "set",dict:=none,data:=.set #[] 0 (.fresh 0 0 a)}}):
  codeAny (model prog w) A (.call (.builtin "set.__new__") ⟨[.type "set",v],[]⟩) (wants Q₁ E) s:=by
 refine codeAny_of_tree ?_;show wpAny _ A.in1 (do checkBuiltinCall "set.__new__" ⟨[.type "set",v],[]⟩;again (.builtin "set.__new__" ⟨[.type "set",v],[]⟩)) _ _ s;refine a4 (wpAny_of_eq (Mp v) (a9 ⟨plainId_quiet F.plain_set_new _,codeAny_builtin F.entry_set_new ?_⟩));rw[Around.under_plainId F.plain_set_new _];unfold Builtin.«set.__new__» Builtin.Frozenset.newClass;have b:=sub_set_self;obtain⟨e,g,d,c,os⟩:=s;dsimp only
 wp_walk
 refine wpAny_askSetting (a9 ?_);dsimp only;simp only[newObj];refine a4 (wpAny_alloc (a9 ?_));exact a9 (h _)
theorem Jo{M:Model}{self:I}{Q:Unit->Shared->Prop}(hT:s.TypeIs self "set")(d:Q () s):wpAny M A (checkBuiltinCall "set.__init__" ⟨[self,v],[]⟩) Q E s:=by
 simp only[checkBuiltinCall,kind_set_init,split_set_init,sig_set_init];refine a4 (di hT sub_set_self ?_);simp only[Bool.not_true,Bool.false_eq_true,if_false];unfold Bind.checkArgs;dsimp only;refine a4 (m:=Bind.printed "set" true _ _) (PyProof.Rows.printed_name (by decide) ?_);refine a4 (m:=Bind.printed "*" false _ _) (PyProof.Rows.printed_star (self:=self) J hT λa=>?_);have b:(Manifest.Receiver.self==Manifest.Receiver.none)=false:=by decide
 have hn:(if(Manifest.Receiver.self==Manifest.Receiver.none)=true then[self,v].length else[self,v].length-1)=1:=by simp[b]
 rw[hn];simp only[List.map_nil];have c:Bind.check ⟨.positional,"set","*",.self,[⟨"iterable",.posOnly,false⟩]⟩ "set" a 1 []=pure ():=by simp[Bind.check,Bind.checkCount,Bind.isPositional];exact λz=>absurd z (by decide)
 rw[c];exact a9 d
set_option maxHeartbeats 1000000 in
theorem JX(h:∀led:Bool,wpAny (model prog w) A.in1.in1 (Builtin.Frozenset.updateFrom "set.__init__" s.heap.objs.size v) (λ_ s₂=>Q (.ref s.heap.objs.size) s₂) E {s with heap:=s.heap.push {cls:=.type "set",dict:=none,data:=.set #[] 0 (.fresh 0 0 led)}}):
  wpAny (model prog w) A (call (.type "set") [v]) Q E s:=by
 obtain⟨c,tl,hmro⟩:=F.called_set.mro;have hmade:=F.called_set.made;have hsub:=F.called_set.sub;refine wpAny_call (codeAny_of_tree ?_);show wpAny _ _ (callAny (.type "set") _) _ _ _;refine a9 ⟨Code.quiet_builtin _ (by decide+kernel),codeAny_builtin F.entry_type_call ?_⟩;rw[Around.under_plain (weight_type_call_type "set" [v] []) rfl];have h1:=F.called_set.notType;have h2:=F.called_set.canCreate;have hct:=Kg v
 repeat(any_goals (first|assumption|wp_step))
 refine codeAny_mono (Mo v (E:=E) (Q₁:=λobj s₁=>∃led:Bool,obj=.ref s.heap.objs.size/\s₁={s with heap:=s.heap.push {cls:=.type "set",dict:=none,data:=.set #[] 0 (.fresh 0 0 led)}}) λled=>⟨led,rfl,rfl⟩) λr s₁ hr=>?_;rcases r with e|fl
 . exact hr
 cases fl<;>first|exact(hr:False).elim|skip
 obtain⟨led,rfl,rfl⟩:=hr;have hS:(s.heap.push {cls:=.type "set",dict:=none,data:=.set #[] 0 (.fresh 0 0 led)}).get? s.heap.objs.size=some {cls:=.type "set",dict:=none,data:=.set #[] 0 (.fresh 0 0 led)}:=bf _ rfl;have hT:Shared.TypeIs {s with heap:=s.heap.push {cls:=.type "set",dict:=none,data:=.set #[] 0 (.fresh 0 0 led)}} (.ref s.heap.objs.size) "set":=⟨_,hS,rfl⟩
 have hli:=F.called_set.init.lookup;have hbi:=F.called_set.init.bind (.ref s.heap.objs.size)
 repeat(any_goals (first|assumption|wp_step))
 refine codeAny_mono (codeAny_call_builtin (R:=wants (λr s₂=>r=.none/\Q (.ref s.heap.objs.size) s₂) E) F.called_set.init.plain F.entry_set_init (Jo hT ?_)) λr₂ s₂ hr₂=>?_
 . unfold Builtin.«set.__init__» noKeywords;generalize Builtin.Frozenset.updateFrom "set.__init__"=U at h⊢
   wp_walk
   exact aF (h led) λ_ s2 q=>a9 ⟨rfl,q⟩
 . rcases r₂ with e|fl₂
   . exact hr₂
   cases fl₂<;>first|exact(hr₂:False).elim|skip
   obtain⟨rfl,hq⟩:=hr₂
   repeat(any_goals (first|assumption|wp_step))
end
theorem BA:entryFor table "set.update.loop"=some Builtin.«set.update.loop»:=entryFor_of_tree (by kernel_rfl)
theorem Qt:plainId "set.update.loop"=true:=by decide+kernel
theorem Mi:isSubtype (.type "list") (.type "set")=pure false:=by rw[isSubtype_type];kernel_rfl
theorem MB:isSubtype (.type "list") (.type "frozenset")=pure false:=by rw[isSubtype_type];kernel_rfl
noncomputable def Xg:List Int->List Int->List Int|sn,[]=>sn|sn,k::r=>if k∈sn then Xg sn r else Xg (k::sn) r
section
def SI(P:Program)(w:World)(h:Heap)(d:Addr)(sn:List Int):Prop:=h.SetOf (intKind P w) d (λk=>decide (k∈sn)) sn.length
theorem SI.keep{d:Y}(x:SI P w h d sn)(k:∀o,h.get? d=some o->h'.get? d=some o):SI P w h' d sn:=by obtain⟨o,b,c,t,a,r⟩:=x;exact⟨o,b,c,t,k o a,r⟩
theorem Hz{d t:Addr}(hh:A.handled=none)(f:d≠it)(E:t≠it)(D:t≠d)(K:IntsAre its ns)(hf:its.length<1000):
  ∀ (m i:Nat) (s:Shared) (sn:List Int),its.length-i=m->i<=its.length->sn.length<=i->s.heap.IsListIter it t i->s.heap.IsList t its.toArray->SI P w s.heap d sn->
    (∀h' tk,SI P w h' d (Xg sn (ns.drop i))->(∀b o,b≠d->b≠it->s.heap.get? b=some o->h'.get? b=some o)->R (.ok (.ret .none)) {s with heap:=h',toks:=tk})->
    codeAny (model P w) A (.builtin "set.update.loop" ⟨[.ref d,.ref it],[]⟩) R s:=by
 have hl:=K.length;intro m;induction m with| zero=>
   intro i s sn hk U Q j r G H;have e:i=its.length:=by omega
   refine codeAny_builtin BA ?_;rw[Around.under_plainId Qt _];show wpAny _ A.in1 (pyNext (.ref it)>>=_) _ _ s;refine a4 (wpAny_pyNext_list_end (show A.in1.handled=none from hh) j r (Array.getElem?_eq_none (by simp;omega)) λh' L=>?_);refine a9 (H h' s.toks ?_ λb o x p z=>L b o p z);rw[List.drop_of_length_le (by omega)];exact G.keep λo e=>L d o f e| succ m N=>
   intro i s sn hk U Q j r G H;have h:i<its.length:=by omega
   have S:its.toArray[i]?=some its[i]:=by simp[h]
   obtain⟨a,l,y,F⟩:=K.at i (its[i]) (bo h);refine codeAny_builtin BA ?_;rw[Around.under_plainId Qt _];show wpAny _ A.in1 (pyNext (.ref it)>>=_) _ _ s;refine a4 (wpAny_pyNext_list_item j r S λg n C=>?_);rw[y];show wpAny _ A.in1 (holding [Value.int _ l] (setAdd d (.int _ l))>>=_) _ _ _;refine a4 (wpAny_holding ?_);unfold setAdd;refine wpAny_holding (a4 (wpAny_pyHash_int ?_));have e1:(λq=>decide (q∈sn) ||decide (q=a))=λk=>decide (k∈if a∈sn then sn else a::sn):=funext λk=>by
    by_cases c:a∈sn
    . rw[if_pos c];by_cases e:k=a
      . simp[e,c]
      . simp[e]
    . rw[if_neg c];simp[Bool.or_comm]
   have e2:(if decide (a∈sn)=true then sn.length else sn.length+1)=(if a∈sn then sn else a::sn).length:=by by_cases c:a∈sn<;>simp[c]
   refine wpAny_setAddHashed_of (knd:=intKind P w) (k:=a) (S:=λk=>decide (k∈sn)) (n:=sn.length) (by simp[intKind,Value.isInt]) J (G.keep λo e=>C.extBut d o f e) (by show sn.length+1<scanBound;unfold scanBound;omega) λg2 v M=>?_;rw[e1,e2]at M;refine a9 ⟨plainId_quiet Qt _,?_⟩;refine N (i+1) _ (if a∈sn then sn else a::sn) (by omega) h (by
    split
    . omega
    . rw[d7];omega) (n.extBut v.extBut (ai f)) (r.extBut C.extBut E |>.extBut v.extBut D) M λh' tk u q=>H h' tk ?_ λc o x p z=>q c o x p (v.extBut c o x (C.extBut c o p z))
   have Z:ns.drop i=a::ns.drop (i+1):=by obtain⟨X,W⟩:=ci.mp F;rw[List.drop_eq_getElem_cons X,W]
   rw[Z];unfold Xg;by_cases c:a∈sn
   . rw[if_pos c]at u⊢;exact u
   . rw[if_neg c]at u⊢;exact u
theorem JW{p:Y}(hh:A.handled=none)(hp:s.heap.IsList p its.toArray)(n:IntsAre its ns)(r:its.length<1000)(h:∀h' tk,(∀b o,s.heap.get? b=some o->h'.get? b=some o)->SI P w h' s.heap.objs.size (Xg [] ns)->Q (.ref s.heap.objs.size) {s with heap:=h',toks:=tk}):wpAny (model P w) A (call (.type "set") [.ref p]) Q E s:=by
 refine JX λa=>?_;have j:∀b o,s.heap.get? b=some o->(s.heap.push {cls:=.type "set",dict:=none,data:=.set #[] 0 (.fresh 0 0 a)}).get? b=some o:=λb o e=>aj _ e;have l:SI P w (s.heap.push {cls:=.type "set",dict:=none,data:=.set #[] 0 (.fresh 0 0 a)}) s.heap.objs.size []:=by
  refine⟨_,#[],0,.fresh 0 0 a,bf _ J,⟨J,J,J⟩,J,?_,λk=>by simp,?_,J,J⟩
  . first|exact .nil|(unfold ElemsOf;simp)|trivial
  . show 0<scanBound;decide
 have c:(s.heap.push {cls:=.type "set",dict:=none,data:=.set #[] 0 (.fresh 0 0 a)}).IsList p its.toArray:=hp.push _;have f:(s.heap.push {cls:=.type "set",dict:=none,data:=.set #[] 0 (.fresh 0 0 a)}).objs.size=s.heap.objs.size+1:=Array.size_push ..;have d:p<s.heap.objs.size:=by obtain⟨o,q,_⟩:=hp;exact aq q
 generalize s.heap.push {cls:=.type "set",dict:=none,data:=.set #[] 0 (.fresh 0 0 a)}=g at j l c f⊢;have hT:({s with heap:=g}:Shared).TypeIs (.ref p) "list":=Heap.IsList.typeIs (s:={s with heap:=g}) c;unfold Builtin.Frozenset.updateFrom Builtin.Frozenset.isAnySet;refine a4 ?_;refine a4 (di hT Mi ?_);show wpAny _ _ (isInstance (.ref p) (.type "frozenset")) _ _ _;refine di hT MB ?_;simp only[Bool.false_eq_true,if_false];refine a4 (wpAny_typeOf hT ?_);rw[if_neg (by decide)];refine a4 (wpAny_pyIter_list (s:={s with heap:=g}) c ?_);refine a4 (wpAny_runValue ?_);have i:s.heap.objs.size<g.objs.size:=by omega
 refine Hz (A:=A.in1.in1) (t:=p) (its:=its) (ns:=ns) hh (az i) (az (Nat.lt_trans d i)) (az d) n r its.length 0 _ [] (by omega) (be _) (be _)
  ⟨_,bf _ J,J,J⟩ (c.push _) (l.keep λo e=>aj _ e) λh' tk t m=>?_
 refine a9 (h h' tk (λb o e=>?_) t);have:=aq e;exact m b o (az this) (az (Nat.lt_trans this i)) (aj _ (j b o e))
end
inductive eP(d:Addr)(n:Nat)(h:Heap):Prop|mk:∀(o:Obj)(es:Array (Int×Value))(ep:Nat)(t:SetTable),h.get? d=some o->o.ExactSet->o.data=.set es ep t->t.fits es.size=true->es.size=n->eP d n h
theorem eP.ok{d:Y}{n:Nat}(x:eP d n h):va P w H h d (.ext (eP d n)):=by
 refine⟨x,?_,λj i y k=>?_⟩
 . obtain⟨o,_,_,_,a,_⟩:=x;exact⟨o,a⟩
 . obtain⟨o,f,g,t,a,r,e,c,b⟩:=y;exact⟨o,f,g,t,k o a,r,e,c,b⟩
def Cu(H:Hp)(d:Addr)(n:Nat):Prop:=H d=some (.ext (eP d n))
section
inductive kY(as:List V)(H:Hp)(Q:VK):Prop|mk:∀d n,as=[.ref d]->Cu H d n->n<1000->Q (.int (n:Int)) H->kY as H Q
theorem IF:jj X (.builtin "len") kY:=by
 intro a s j H as l Q I r h;obtain⟨d,n,rfl,i,f,q⟩:=h;obtain⟨u,rfl,b⟩:=ql r;cases(show u=Value.ref d from b);obtain⟨⟨o,m,p,t,e,c,g,hT,hn⟩,_⟩:=(show va X.prog X.w H s.heap d (.ext (eP d n))from I.hok d _ i)
 refine call_len_set e c g hT (by omega) ?_;rw[hn];exact⟨.int (n:Int),H,(I.tok _).tok _,⟨_,J⟩,q⟩
inductive kX(as:List V)(H:Hp)(Q:VK):Prop|mk:∀(p:Addr)(ns:List Int),as=[.ref p]->H p=some (.lst (ns.map V.int))->ns.length<1000->(∀d H',Same H H'->H d=none->Cu H' d (Xg [] ns).length->Q (.ref d) H')->kX as H Q
theorem IH(z:X.calm=true):jj X (.type "set") kX:=by
 intro e s E H as F Q I r h;obtain⟨p,f,rfl,x,K,q⟩:=h;obtain⟨u,rfl,i⟩:=ql r;cases(show u=Value.ref p from i);obtain⟨G,b,n,d,A⟩:=(show va X.prog X.w H s.heap p (.lst (f.map V.int))from I.hok p _ x)
 have c:=d.length;rw[aa]at c;refine JW (its:=b) (I.ok.hd z) ⟨_,A,J,n,J⟩ (BZ d) (by omega) λL g keep w=>?_;have a:=I.hok.fresh (ae s.heap.objs.size);obtain⟨o,C,D,t,y,v,m,_,_,_,l,j⟩:=w;exact⟨.ref s.heap.objs.size,_,I.laid (a:=s.heap.objs.size) (o:=.ext (eP s.heap.objs.size (Xg [] f).length)) (t':=g) keep (ae _) (eP.ok ⟨o,C,D,t,y,v,m,l,j⟩),J,q _ _ (Same.new a _) a zd⟩
end
end L2
namespace My
open PySem PySem.Spec PyProof.Rows L2
variable{a s:Addr}{X:Cx}{e:Expr}{base:Heap}{H H':Hp}{i j:Int}{σ:L2.St}{es:List Expr}{ns:List Int}{cap:List Nat}{own ps:List Str}{xs:List V}{us:List Value}{aD:Pos}{P:Program}{sp:Sp}{x:Str}{mg:Str->Option Value}{te:TE}{v:V}{w:World}
noncomputable def aX(i:Nat):Stmt:=Challenge.pw_meetwall_k69_desk_makes_them.main.body.getD i (.Pass ⟨0,0,0,0⟩)
noncomputable abbrev We:Stmt:=aX 28
noncomputable abbrev Yy:Stmt:=aX 29
noncomputable abbrev jm:Stmt:=aX 30
noncomputable abbrev Zb:Stmt:=aX 31
noncomputable abbrev Qj:Stmt:=aX 32
noncomputable abbrev Kv:Stmt:=aX 33
noncomputable abbrev Z0:Stmt:=aX 36
noncomputable abbrev Yg:Stmt:=aX 37
noncomputable abbrev Qk:Stmt:=aX 38
noncomputable abbrev Zr:Stmt:=aX 39
noncomputable abbrev Wf:Stmt:=aX 40
noncomputable abbrev qu:Stmt:=aX 41
noncomputable abbrev Qp:Stmt:=aX 42
noncomputable abbrev Zj:Stmt:=aX 43
noncomputable abbrev Yh:Stmt:=aX 44
noncomputable abbrev sU:Stmt:=aX 45
noncomputable abbrev Yf:Stmt:=aX 47
theorem DF:bootBuiltins "isinstance"=some (.builtin "isinstance"):=by decide+kernel
theorem we:bootBuiltins "len"=some (.builtin "len"):=by decide+kernel
theorem Xk:bootBuiltins "all"=some (.builtin "all"):=by decide+kernel
theorem xJ:bootBuiltins "sum"=some (.builtin "sum"):=by decide+kernel
theorem xI:bootBuiltins "int"=some (.type "int"):=by decide+kernel
theorem ET:bootBuiltins "bool"=some (.type "bool"):=by decide+kernel
theorem k7:bootBuiltins "str"=some (.type "str"):=by decide+kernel
theorem Xj:bootBuiltins "tuple"=some (.type "tuple"):=by decide+kernel
theorem Ka:bootBuiltins "dict"=some (.type "dict"):=by decide+kernel
theorem J9:bootBuiltins "list"=some (.type "list"):=by decide+kernel
def Ok(P:Program)(w:World)(K:W.Frag)(mg:Str->Option Value)(base:Heap)(x:Str)(k:Nat)(ps:List Str)(sp:Sp):Prop:=∃f fd,cF P w K mg base fR k f fd ps sp/\Yc K fd ps []/\W.keepIn K (.ref f)=true/\mg x=some (.ref f)
theorem B8(h:us.length=1):∃a,us=[a]:=by match us,h with|[a],_=>exact⟨a,J⟩
theorem MU(h:us.length=2):∃a b,us=[a,b]:=by match us,h with|[a,b],_=>exact⟨a,b,J⟩
theorem MT(h:us.length=3):∃a b c,us=[a,b,c]:=by match us,h with|[a,b,c],_=>exact⟨a,b,c,J⟩
theorem B7(h:us.length=4):∃a b c d,us=[a,b,c,d]:=by match us,h with|[a,b,c,d],_=>exact⟨a,b,c,d,J⟩
theorem MS(h:us.length=5):∃a b c d e,us=[a,b,c,d,e]:=by match us,h with|[a,b,c,d,e],_=>exact⟨a,b,c,d,e,J⟩
@[elab_as_elim] theorem M3{P:O I->Prop}(h:us.length=1)(k:∀a,P [a]):P us:=by obtain⟨a,rfl⟩:=B8 h;exact k a
@[elab_as_elim] theorem M0{P:O I->Prop}(h:us.length=2)(k:∀a b,P [a,b]):P us:=by obtain⟨a,b,rfl⟩:=MU h;exact k a b
@[elab_as_elim] theorem MZ{P:O I->Prop}(h:us.length=3)(k:∀a b c,P [a,b,c]):P us:=by obtain⟨a,b,c,rfl⟩:=MT h;exact k a b c
@[elab_as_elim] theorem MY{P:O I->Prop}(h:us.length=4)(k:∀a b c d,P [a,b,c,d]):P us:=by obtain⟨a,b,c,d,rfl⟩:=B7 h;exact k a b c d
@[elab_as_elim] theorem MX{P:O I->Prop}(h:us.length=5)(k:∀a b c d e,P [a,b,c,d,e]):P us:=by obtain⟨a,b,c,d,e,rfl⟩:=MS h;exact k a b c d e
theorem yc{k:Nat}{p:Pos}{t:TA}(h:Ok X.prog X.w X.K X.mg X.base x k ps sp)(c:aQ k X.A)(j:PA X (e::es) t)(g:Gl X x:=by rfl)
  (b:(x==("__debug__":Str))=false:=by decide) (he:starEach (e::es) X.env=(false,eval e X.env)::starEach es X.env:=by rfl) (a:(backTo aD (starEach es X.env)).any (·.1)=false:=by rfl):
  PE X (.Call (.Name x p) (e::es) [] aD) (se sp [] E0 t):=by obtain⟨f,l,F,i,hk,d⟩:=h;exact Fy F c g d hk i .nil nO j b he a
def bG(K:W.Frag)(mg:Str->Option Value)(x:Str)(st:Stmt):Prop:=∃f fd,iK K x x st f fd/\mg x=some (.ref f)
theorem y8(h:∃t,X.mg x=some (.int i t))(a:Gl X x:=by rfl)(b:(x==("__debug__":Str))=false:=by decide):PE X (.Name x aD) (tC (.int i)):=by obtain⟨t,h⟩:=h;exact tT a h ⟨t,J⟩ b
structure Txt(K:W.Frag)(mg:Str->Option Value):Prop where
 BOXES:∃t,mg "BOXES"=some (.int 0 t)
 WALLS:∃t,mg "WALLS"=some (.int 1 t)
 FIRSTS:∃t,mg "FIRSTS"=some (.int 2 t)
 SCRIPTS:∃t,mg "SCRIPTS"=some (.int 3 t)
 MOST_BOXES:∃t,mg "MOST_BOXES"=some (.int 99 t)
 MOST_WALLS:∃t,mg "MOST_WALLS"=some (.int 6 t)
 MOST_FIRSTS:∃t,mg "MOST_FIRSTS"=some (.int 40 t)
 MOST_SCRIPTS:∃t,mg "MOST_SCRIPTS"=some (.int 20 t)
 MOST_DEEDS_OF_SCRIPT:∃t,mg "MOST_DEEDS_OF_SCRIPT"=some (.int 80 t)
 MOST_HANDS:∃t,mg "MOST_HANDS"=some (.int 60 t)
 MOST_DEEDS:∃t,mg "MOST_DEEDS"=some (.int 1200 t)
 MOST_RAISED:∃t,mg "MOST_RAISED"=some (.int 99 t)
 MOST_AWAITED:∃t,mg "MOST_AWAITED"=some (.int 9999 t)
 MOST_WORKED:∃t,mg "MOST_WORKED"=some (.int 999 t)
 MOST_LETTERS:∃t,mg "MOST_LETTERS"=some (.int 8 t)
 MODES:∃a,mg "MODES"=some (.ref a)/\∀H,aE K H a [.str "both",.str "come",.str "go"]
 isi:mg "isinstance"=none
 int:mg "int"=none
 bool:mg "bool"=none
 str:mg "str"=none
 tuple:mg "tuple"=none
 dict:mg "dict"=none
 list:mg "list"=none
 len:mg "len"=none
 all:mg "all"=none
 sum:mg "sum"=none
 range:mg "range"=none
 enumerate:mg "enumerate"=none
 sorted:mg "sorted"=none
 zip:mg "zip"=none
inductive mt(A:T->Prop)(f:T->Bool)(vs:List V)(H:Hp)(Q:VK)(e0:XK):Prop|mk:∀t v,vs=[v]->Is H t v->A t->(∀H',Same H H'->Q (.bl (f t)) H')->mt A f vs H Q e0
section
variable{p1 p2:Pos}
theorem Y4{n:Str}{T:String}(g:X.mg "isinstance"=none)(f:X.mg n=none)(d:bootBuiltins n=some (.type T))(he:PE X e te)(i:Gl X "isinstance":=by rfl)(h:Gl X n:=by rfl)(b:n≠"__name__":=by decide)(c:(n==("__debug__":Str))=false:=by decide)
  (hs:starEach [e,.Name n p2] X.env=(false,eval e X.env)::starEach [.Name n p2] X.env:=by rfl) (hp:(backTo aD (starEach [.Name n p2] X.env)).any (·.1)=false:=by rfl) (a:starEach [.Name n p2] X.env=(false,eval (.Name n p2) X.env)::starEach [] X.env:=by rfl):
  PE X (.Call (.Name "isinstance" p1) [e,.Name n p2] [] aD) (qQ (my X.K) (nR te (nR (tC (.ty T)) kE))):=
 yf Gu i g DF (za he (za (Fx h f d J b c) zc a) hs) (he:=hs)
end
noncomputable def qA:T->Bool|.int _=>true|_=>false
section
variable{K:W.Frag}
theorem MN:aA ["thing"] ["thing"] (zf We):=.of
theorem LG(D:bG K mg "is_whole" We)(T:Txt K mg):Ok P w K mg base "is_whole" 1 ["thing"] (mt (λ_=>True) qA):=by
 obtain⟨f,j,F,g⟩:=D;refine⟨f,j,?_,F.binds λ_ _ _ _ _ _ m i=>(by obtain⟨_,rfl⟩:=B8 i;rfl),F.kp,g⟩;refine F.ok MN (λd H Q E h=>?_) (λl A a s H d Q E n h=>?_);obtain⟨t,v,rfl,_⟩:=h;rfl;obtain⟨t,v,rfl,b,_,k⟩:=h;refine⟨_,zg (zk (ky (Y4 T.isi T.int xI (pv 0)) (j3 (xY (Y4 T.isi T.bool ET (pv 0)))))),?_⟩;refine⟨v,"int",_,_,J,b.ty,FF K t,_,J,?_⟩;refine jw (λc=>?_) (λc=>?_);refine⟨v,"bool",_,_,J,b.ty,Gq K t,_,J,?_⟩;have e:(!Ca t)=qA t:=by cases t<;>first|rfl|(exact absurd c (by simp[vM]))
 rw[e];exact k H (Same.refl H);have e:false=qA t:=by cases t<;>first|rfl|(exact absurd J c)
 rw[e];exact k H (Same.refl H)
end
abbrev gu:=Int×Str
inductive aI where|rai (b k:Int)|awa (b m:Int)|com (w:Int)|goo (w:Int)|lea (w:Int)|beg (s:Nat) (ms:List gu)|wor (d:Int)|say (x:Str)
abbrev yz:=List aI
abbrev Kb:=Nat×List gu
structure aB where
 b:Int
 w:Int
 fs:List Kb
 ss:List yz
noncomputable def pE(m:gu):T:=.tup [.int m.1,.str m.2]
noncomputable def nh(G:List gu):T:=.tup (G.map pE)
noncomputable def eD:aI->T|.rai b k=>.tup [.str "raise",.int b,.int k]|.awa b m=>.tup [.str "await",.int b,.int m]|.com w=>.tup [.str "come",.int w]|.goo w=>.tup [.str "go",.int w]|.lea w=>.tup [.str "leave",.int w]|.beg s G=>.tup [.str "begin",.int s,nh G]|.wor d=>.tup [.str "work",.int d]|.say x=>.tup [.str "say",.str x]
noncomputable def eS(s:yz):T:=.tup (s.map eD)
noncomputable def eC(c:Kb):T:=.tup [.int c.1,nh c.2]
noncomputable def eH(h:aB):T:=.tup [.int h.b,.int h.w,.tup (h.fs.map eC),.tup (h.ss.map eS)]
noncomputable def dw:aI->Str|.rai _ _=>"raise"|.awa _ _=>"await"|.com _=>"come"|.goo _=>"go"|.lea _=>"leave"|.beg _ _=>"begin"|.wor _=>"work"|.say _=>"say"
theorem Yb(d:aI):∃r,eD d=.tup (.str (dw d)::r):=by cases d<;>exact⟨_,J⟩
inductive px(K:W.Frag)(H:Hp)(v:V)(i:Nat)(t:T):Prop|mk:∀a xs u,v=.ref a->aE K H a xs->cE xs ((i:Nat):Int)=some u->Is H t u->px K H v i t
theorem Is.at{K:W.Frag}{b:O T}{i:Nat}{t:T}(h:Is H (.tup b) v)(e:b[i]?=some t):px K H v i t:=by obtain⟨a,c,rfl,f,d⟩:=h;obtain⟨u,j,g⟩:=d.get e;exact⟨a,c,u,J,aE.of f,y9 j,g⟩
theorem yt{a:Scope}(b:Scope)(c:X.env.scope=b)(h:a.kind=.function)(g:∀x∈a.names,x.2=.free->b.names.lookup x.1=some .cell\/b.names.lookup x.1=some .free)(f:∀x∈a.names,x.2≠ .cell) (e:∀x∈a.names,x.2=.local->a.names.lookup x.1=some .local) (d:mO X a cap):bA X own cap a:=by subst c;exact⟨h,g,f,e,d⟩
theorem V3{i:Nat}{A B:L2.St->Hp->Prop}(h:A (σ.set i (some v)) H):js i v σ H (λa H2=>nL a H2 λb c=>if b=true then A a c else B a c):=by
 show if true=true then A (σ.set i (some v)) H else B (σ.set i (some v)) H
 exact wf h
theorem uJ{A B:Hp->Prop}(h:A H):nL σ H (λb a=>if b=true then A a else B a):=by
 show if true=true then A H else B H
 exact wf h
theorem v8{o:Option NameKind}(h:o=some .cell):o≠some .local:=λz=>by simp_all
theorem wz{n:Nat}(h:n<=1000):n<=sizeLine:=Nat.le_of_lt (xy h)
theorem Y3:PE X e (λ_ _ _=>False):=λ_ _ _ _ _ _ h=>h.elim
theorem ud{K:W.Frag}{l:Y}{k:Nat}{Q:VK}(h:H l=some (.tup xs))(r:xs.length<=1000)(hs:∀(i:Nat)(x:V)(c:Hp)(R:VK),xs[i]?=some x->Same H c->(∀j,Same c j->R (.bl true) j)->te ((bQ k cap σ).set 0 (some x)) c R)(o:∀c,Same H c->Q (.bl true) c):bX (nD K l) (js 0) nL te k cap σ H (λv H1=>∃(a:Y)(bs:O Bool),[v]=[V.ref a]/\aG K H1 a (bs.map V.bl)/\Q (.bl (bs.all id)) H1):=by
 refine nX (xs:=xs) (λi f d=>Same H d/\f=List.replicate i (V.bl true)) ⟨Same.refl H,J⟩ (λi f d s ⟨b,q⟩=>⟨aE.of (b _ _ h),by rw[q,fc];exact wz (by omega)⟩) ?_ ?_
 . rintro i x f d p ⟨b,rfl⟩;exact V3 (hs i x d _ p b λj m=>⟨b.trans m,List.replicate_succ'.symm⟩)
 . rintro f d ⟨b,rfl⟩ n g;refine⟨n,List.replicate xs.length true,J,aG.of (by rw[zd,List.map_replicate]),?_⟩;have e:(List.replicate xs.length true).all id=true:=by simp
   rw[e];exact o _ (b.trans (Same.new g _))
inductive spT(A:List V->Hp->Prop)(vs:List V)(H:Hp)(Q:VK)(e0:XK):Prop|mk:A vs H->(∀H',Same H H'->Q (.bl true) H')->spT A vs H Q e0
def mC(vs:List V)(_:Hp):Prop:=∃i lo hi,vs=[.int i,.int lo,.int hi]/\lo<=i/\i<=hi
def pe(vs:List V)(H:Hp):Prop:=∃ts v lo hi,vs=[v,.int lo,.int hi]/\Is H (.tup ts) v/\lo<=(ts.length:Int)/\(ts.length:Int)<=hi
def Cs(vs:List V)(H:Hp):Prop:=∃x v h,vs=[.int x,v]/\Is H (eH h) v/\0<=x/\x<h.b
noncomputable def nI(c:Nat):Bool:= !decide ((⟨#[c]⟩:Str).cps.toList<("a":Str).cps.toList) && !decide (("z":Str).cps.toList<(⟨#[c]⟩:Str).cps.toList)
noncomputable def fA(x:Str):Bool:=decide (1<=x.length/\x.length<=8) && x.cps.toList.all nI
def ny(vs:List V)(_:Hp):Prop:=∃x,vs=[.str x]/\fA x=true
section
variable{K:W.Frag}
theorem wa{st:Stmt}{N:O Str}{k:Nat}(D:bG K mg x st)(S:aA N ps (zf st))(a:∀(f:Y)(cdv:I)(A:Around)(outer:O Env)(s:Shared)(H:Hp)(vs:O V)(Q:VK)(E:XK),aQ k (A.deeper (envOfC x (zf st) s.heap.objs.size f cdv))->sp vs H Q E-> let X:=(iQ fR P w K mg base N x (zf st) f cdv A outer s H E).nox;∃t,eG X (wr st) t/\t (.of Q) (start N vs) H) (b:autoParam (∀vs H Q E,sp vs H Q E->vs.length=ps.length) uQ._auto_1) (i:autoParam (∀(kV c d:I)(m:Option Y)(cdv l:I)(us:O I),us.length=ps.length->bindArgs (W.fnOf x x (jd st) (wr st) (zf st) .none kV c d m cdv l) ⟨us,[]⟩=pure (ps.zip us)) uO._auto_1):Ok P w K mg base x (k+1) ps sp:=by obtain⟨f,j,F,g⟩:=D;exact⟨f,j,F.ok S b (λcdv A outer s H vs Q E e h=>a f cdv A outer s H vs Q E e h),F.binds i,F.kp,g⟩
theorem I9:aA ["thing","least","most"] ["thing","least","most"] (zf Yy):=.of
theorem Mb(D:bG K mg "is_within" Yy)(c:Ok P w K mg base "is_whole" 1 ["thing"] (mt (λ_=>True) qA)):Ok P w K mg base "is_within" 2 ["thing","least","most"] (spT mC):=by refine wa D I9 ?_;rintro f j A a s H m Q E d ⟨⟨i,lo,e,rfl,h,g⟩,k⟩ X;refine⟨_,zg (zk (ky (yc c d (za (pv 0) zc)) (j3 (Vv Vw Vw (pv 1) (pv 0) (pv 2))))),?_⟩;refine⟨.int i,_,J,J,trivial,λl b=>⟨_,J,wf ⟨lo,i,J,J,_,J,?_⟩⟩⟩;rw[bj h];refine wf ⟨i,e,J,J,?_⟩;rw[bj g];exact k l b
theorem DK:aA ["thing","least","most"] ["thing","least","most"] (zf jm):=.of
theorem Wj(D:bG K mg "is_tuple_within" jm)(T:Txt K mg):Ok P w K mg base "is_tuple_within" 1 ["thing","least","most"] (spT pe):=by refine wa D DK ?_;rintro f m A b s H n Q E o ⟨⟨h,v,lo,j,rfl,c,e,d⟩,k⟩ X;refine⟨_,zg (zk (ky (Y4 T.isi T.tuple Xj (pv 0)) (j3 (Vv Vw Vw (pv 1) (yf yg J T.len we (za (pv 0) zc)) (pv 2))))),?_⟩;refine⟨v,"tuple",_,_,J,c.ty,BO K (.tup h),_,J,wf ?_⟩;obtain⟨a,g,rfl,l,i⟩:=c;rw[<-i.length]at e d;refine⟨a,g,J,.inr (aE.of l),lo,_,J,J,_,J,?_⟩;rw[bj e];refine wf ⟨_,j,J,J,?_⟩;rw[bj d];exact k H (Same.refl H)
theorem Ep:aA ["thing","house"] ["thing","house"] (zf Kv):=.of
theorem JJ(D:bG K mg "is_box" Kv)(T:Txt K mg)(e:Ok P w K mg base "is_within" 2 ["thing","least","most"] (spT mC)):Ok P w K mg base "is_box" 3 ["thing","house"] (spT Cs):=by refine wa D Ep ?_;rintro f n A b s H o Q E j ⟨⟨x,v,h,rfl,g,l,p⟩,k⟩ X;obtain⟨a,c,u,rfl,d,m,i⟩:=Is.at (i:=0) g J;cases(i);exact⟨_,zg (zk (yc e j (za (pv 0) (za ze (za (ya Y6 (zr zt (pv 1) (y8 T.BOXES)) ze) zc))))),a,c,_,_,J,J,d,m,_,_,J,J,⟨x,0,h.b-1,J,l,by omega⟩,k⟩
theorem Lk:aA ["thing"] ["thing"] (zf Zb):=.of
theorem Mu(D:bG K mg "is_letters" Zb)(T:Txt K mg):Ok P w K mg base "is_letters" 1 ["thing"] (spT ny):=by
 refine wa D Lk ?_;rintro f q A j s H u Q E v ⟨⟨x,rfl,a⟩,k⟩ X;refine⟨_,zb (ye (PW.pt (Xz (xt (y7 (Y4 T.isi T.str k7 (pv 0)))) (Z1 (zm y0 (yf Yr (by rfl) T.len we (za (pv 0) zc)) ze (zu _))))) (zg (zk jy)) zn) (zg (zk (yf (kx J) J T.all Xk (za (qc (own:=["letter"]) (cap:=[]) J (yt (zf Zb) J J (by decide+kernel) (by decide+kernel) (by decide+kernel) trivial) (xZ (pv 0)) (λ_ _ _ _=>zp (i:=0) (by show(["letter"]:O Str).Nodup;decide+kernel)) (λ_ _ _ _=>xu) (λ_ _ _ _=>Vv Xp Xp zi (pv 0) zi)) zc)))),?_⟩
 unfold fA at a;rw[cg,decide_eq_true_eq,db]at a;obtain⟨⟨t,r⟩,a⟩:=a;have l:x.length<=sizeLine:=wz (by omega);refine⟨.str x,"str",_,_,J,(show Is H (.str x) (.str x)from rfl).ty,J2 K (.str x),_,J,yi ⟨x,J,l,J,_,J,?_⟩⟩;rw[ua];refine jw (λc=>absurd (show x.length=0 by simpa using c) (by omega)) (λ_=>⟨x,J,?_⟩);have m:x.cps.size<=sizeLine:=l;refine xV (λi b h=>h=H/\b=List.replicate i (V.bl true)) ⟨J,J⟩ (λi b h y ⟨_,e⟩=>by rw[e,fc];omega) ?_ ?_
 . rintro i c b h o ⟨rfl,rfl⟩;refine V3 ?_;have g:=a c (bv (by rw[Array.getElem?_toList];exact o));unfold nI at g;rw[cg]at g;refine⟨"a",_,J,J,_,J,jw (λ_=>⟨_,"z",J,J,J,?_⟩) (λd=>absurd g.1 d)⟩;rw[g.2];exact List.replicate_succ'.symm
 . rintro b h ⟨rfl,rfl⟩ p n;refine⟨p,List.replicate x.cps.size true,J,aG.of (by rw[zd,List.map_replicate]),?_⟩;have e:(List.replicate x.cps.size true).all id=true:=by simp
   rw[e];exact k _ (Same.new n _)
theorem FQ:aA ["thing"] ["thing"] (zf Qj):=.of
theorem KP(D:bG K mg "is_word" Qj)(T:Txt K mg)(e:Ok P w K mg base "is_letters" 1 ["thing"] (spT ny)):Ok P w K mg base "is_word" 2 ["thing"] (spT ny):=by refine wa D FQ ?_;rintro f h A b s H j Q E g ⟨⟨x,rfl,c⟩,k⟩ X;refine⟨_,zg (zk (ky (yc e g (za (pv 0) zc)) (j3 (qa Vw (yf Yr (by rfl) T.len we (za (pv 0) zc)) (y8 T.MOST_LETTERS) (zu _))))),?_⟩;have a:=c;unfold fA at a;rw[cg,decide_eq_true_eq]at a;refine⟨⟨x,J,c⟩,λi d=>⟨_,J,wf ⟨x,J,wz (by omega),_,8,J,J,?_⟩⟩⟩;rw[bj (by omega)];exact k i d
end
noncomputable abbrev uk:Stmt:=aX 122
noncomputable abbrev sX:Stmt:=aX 123
inductive lO(vs:List V)(H:Hp)(Q:VK)(e0:XK):Prop|mk:∀c p:Int,vs=[.int c,.int p]->0<=p->(∀r,0<=r->Q (.int r) H)->lO vs H Q e0
def bS(a:Addr)(H G:Hp):Prop:=∀b o,b≠a->H b=some o->G b=some o
theorem bS.refl(a:Y)(H:Hp):bS a H H:=λ_ _ _ e=>e
theorem bS.trans{d c:Hp}(x:bS a H d)(y:bS a d c):bS a H c:=λb o n e=>y b o n (x b o n e)
theorem _root_.L2.Same.but(s:Same H H'):bS a H H':=λb o _ e=>s b o e
theorem bS.upd{a:Y}{H:Hp}{o:HO}:bS a H (upd H a o):=λb u n e=>by rw[upd_ne n];exact e
theorem bS.seq{K:W.Frag}(x:bS a H H')(n:s≠a)(h:aG K H s xs):aG K H' s xs:=by
 rcases h with(h|⟨o,h⟩)|h
 . exact .inl (.inl (x _ _ n h))
 . exact .inl (.inr ⟨o,x _ _ n h⟩)
 . exact .inr h
structure cT(K:W.Frag)(H:Hp)(a s:Addr)(ns:List Int):Prop where
 at':∃p r:Int,H a=some (.lst [.ref s,.int p,.int r])/\0<=p/\0<=r
 seq:aG K H s (ns.map V.int)
 ne:s≠a
 len:ns.length<=63
theorem cT.same{K:W.Frag}(t:cT K H a s ns)(h:Same H H'):cT K H' a s ns:=by obtain⟨⟨p,r,e,c,b⟩,q,n,l⟩:=t;exact⟨⟨p,r,h _ _ e,c,b⟩,h.seq q,n,l⟩
theorem Iw(h0:0<j)(h:j<2^70):j.natAbs.log2<9000:=by
 have b:j.natAbs<2^70:=by omega
 have a:j.natAbs≠0:=by omega
 have c:j.natAbs.log2<70:=(Nat.log2_lt a).mpr b;omega
theorem Hv:cI X (binaryOp .FloorDiv) (rI (λ_ j=>0<j/\j<2^70) λi j=>.int (i/j)):=oQ λi j _ _ _ _ _ a q=>by have b:(0:Int)<j:=a.1;exact floordiv_int (by omega) (by rw[Int.fdiv_eq_ediv_of_nonneg i (by omega)];exact q) (.inl (PyProof.noPylong_of_log2 (Iw a.1 a.2)))
inductive jN(K:W.Frag)(vs:List V)(H:Hp)(Q:VK)(e0:XK):Prop|mk:∀(a s:Addr)(ns:List Int)(many:Int),vs=[.ref a,.int many]->cT K H a s ns->0<many->many<2^70->(∀d H',0<=d->d<many->bS a H H'->cT K H' a s ns->Q (.int d) H')->jN K vs H Q e0
section
variable{K:W.Frag}
theorem jF(h: -(2^64)<j/\j<2^64):iN i j:=.inr h
theorem Q6(h: -(2^64)<i/\i<2^64):iN i j:=.inl h
theorem Bn:aA ["cell","place","one","two","more"] ["cell","place"] (zf uk):=.of
theorem GU(D:bG K mg "_law_e_mixed" uk):Ok P w K mg base "_law_e_mixed" 1 ["cell","place"] lO:=by
 refine wa D Bn λf o A e s H r Q E t h=>?_;intro X;obtain⟨c,p,rfl,u,k⟩:=h;have g:=Bn.nd;refine⟨_,zb (ye (zm rZ (aN 0) (ya EO ze ze) (zu _)) (zg (zk (aN 0))) zn) (zb (zo (i:=2) g (ya Y7 (ya xv (ya xv (ya wb (ya Y7 (aN 0) ze) ze) (ya wb (aN 1) ze)) ze) ze)) (zb (zo (i:=3) g (ya Y7 (ya xv (ya xv (ya xv (ya wb (aN 2) (aN 2)) (ya wb ze (aN 2))) (ya wb ze (aN 1))) ze) ze)) (zb (zo (i:=4) g (ya Y7 (ya xv (ya xv (ya wb (aN 3) (aN 3)) (ya wb ze (aN 1))) (aN 2)) ze)) (zg (zk (ya xv (ya wb (aN 3) ze) (aN 4))))))),?_⟩
 refine⟨_,J,10,18,J,J,⟨by decide,by decide,by decide⟩,_,_,J,J,_,J,?_⟩;refine jw (λd=>?_) (λ_=>?_)
 . have d:=cm d;refine⟨_,J,k c ?_⟩;have:(0:Int)<=(10:Int)^(18:Int).toNat:=by decide
   omega
 . refine⟨_,J,_,_,J,J,(by show(0:Int)<1000000009;decide),_,_,J,J,jF (by decide),_,J,_,_,J,J,jF (by decide),_,_,J,J,_,_,J,J,_,_,J,J,(by show(0:Int)<1999999973;decide),?_⟩;have n:=eq (c%1000000009*75353+p*4099+17) (show(1999999973:Int)≠0 by decide);have m:=fe (c%1000000009*75353+p*4099+17) (show(0:Int)<1999999973 by decide);generalize (c%1000000009*75353+p*4099+17)%1999999973=a at n m⊢;refine⟨_,J,_,J,_,_,J,J,Q6 (by omega),_,J,_,_,J,J,Q6 (by decide),_,_,J,J,_,J,_,_,J,J,Q6 (by decide),_,_,J,J,_,_,J,J,_,_,J,J,(by show(0:Int)<2147483549;decide),?_⟩;have l:=eq (a*a+8191*a+3*p+1) (show(2147483549:Int)≠0 by decide);have j:=fe (a*a+8191*a+3*p+1) (show(0:Int)<2147483549 by decide);generalize (a*a+8191*a+3*p+1)%2147483549=b at l j⊢;refine⟨_,J,_,J,_,_,J,J,Q6 (by omega),_,J,_,_,J,J,Q6 (by decide),_,_,J,J,_,J,_,_,J,J,_,_,J,J,(by show(0:Int)<2147483497;decide),?_⟩;have i:=eq (b*b+127*p+a) (show(2147483497:Int)≠0 by decide);generalize (b*b+127*p+a)%2147483497=q at i⊢;exact⟨_,J,_,_,J,J,jF (by decide),_,J,_,_,J,J,k _ (by omega)⟩
theorem Al:aA ["deck","many","place","cell","picked"] ["deck","many"] (zf sX):=.of
theorem Fo (D:bG K mg "_law_e_pick" sX) (T:Txt K mg) (G:Ok P w K mg base "_law_e_mixed" 1 ["cell","place"] lO):Ok P w K mg base "_law_e_pick" 2 ["deck","many"] (jN K):=by
 refine wa D Al λf R A x U H S Q E L h=>?_;obtain⟨a,s,c,F,rfl,hT,b,j,k⟩:=h;obtain⟨p,r,d,i,y⟩:=hT.at';have o:=Al.nd;refine⟨_,zb (ye (zm mV (zr y4 (aN 0) ze) (aN 1) (zu _)) (zb (zo (i:=2) o (zr y4 (aN 0) ze)) (zb (zo (i:=3) o (ya wb ze (aN 2))) (zb (ye (zm mV (aN 2) (yf yg (by rfl) T.len we (za (zr y4 (aN 0) ze) zc)) (zu _)) (zg (zo (i:=3) o (zr y4 (zr y4 (aN 0) ze) (aN 2))))
    (zg (ye (zm Je (yf yg (by rfl) T.len we (za (zr y4 (aN 0) ze) zc)) ze (zu _)) (zg (zo (i:=3) o (ya xv (ya Y7 (zr y4 (zr y4 (aN 0) ze) (ya Y7 (ya wb (aN 2) ze) (yf yg (by rfl) T.len we (za (zr y4 (aN 0) ze) zc)))) ze) (ya wb (aN 2) ze)))) zn)))
   (zb (tF (ya xv (aN 2) ze) (tD (aN 0) ze W7)) (zg (tF (yc G L (za (aN 3) (za (aN 2) zc))) (tD (aN 0) ze W7))))))) zn)
  (zb (zo (i:=4) o (ya Y7 (zr y4 (aN 0) ze) (aN 1))) (zb (tF (ya Hv (zr y4 (aN 0) ze) (aN 1)) (tD (aN 0) ze W7)) (zg (zk (aN 4))))),?_⟩
 refine⟨_,J,a,_,_,_,J,J,aG.of d,J,_,J,_,_,J,J,_,J,?_⟩;refine jw (λ_=>?_) (λ_=>?_)
 . have u:(c.map V.int).length=c.length:=aa _;refine⟨_,J,a,_,_,_,J,J,aG.of d,J,_,J,_,_,J,J,Q6 (by decide),?_⟩;refine⟨_,J,_,J,a,_,_,_,J,J,aG.of d,J,s,_,J,.inl hT.seq,_,_,J,J,_,J,?_⟩;refine jw (λv=>?_) (λv=>?_)
   . have v:=cm v;rw[u]at v;have z:p.toNat<c.length:=by omega
     have C:p=((p.toNat:Nat):Int):=by omega
     have n:cE (c.map V.int) p=some (.int c[p.toNat]):=by have q:cE (c.map V.int) ((p.toNat:Nat):Int)=some (.int c[p.toNat]):=y9 (by rw[au,bo z];rfl);rw[<-C]at q;exact q
     refine⟨_,J,a,_,_,_,J,J,aG.of d,J,_,J,s,_,_,_,J,J,hT.seq,n,?_⟩;refine⟨_,J,_,_,J,J,_,J,a,_,_,_,J,J,d,J,?_⟩;refine⟨_,J,_,J,_,p,J,i,λl e=>⟨_,J,a,_,_,_,J,J,zd,J,?_⟩⟩;have g:(upd (upd H a (.lst (([.ref s,.int p,.int r]:O V).set 1 (.int (p+1))))) a (.lst ((([.ref s,.int p,.int r]:O V).set 1 (.int (p+1))).set 2 (.int l)))) a=some (.lst [.ref s,.int (p+1),.int l]):=zd;refine⟨_,J,a,_,_,_,J,J,aG.of g,J,_,J,_,_,J,J,b,?_⟩;refine⟨_,J,a,_,_,_,J,J,aG.of g,J,_,J,_,_,J,J,⟨b,j⟩,_,J,a,_,_,_,J,J,g,J,?_⟩;refine⟨_,J,k _ _ (eq _ (by omega)) (fe _ b) ((bS.refl a H).trans (bS.upd.trans (bS.upd.trans bS.upd))) ⟨⟨_,_,zd,(by omega),Int.ediv_nonneg e (by omega)⟩,bS.seq ((bS.refl a H).trans (bS.upd.trans (bS.upd.trans bS.upd))) hT.ne hT.seq,hT.ne,hT.len⟩⟩
   . refine⟨_,J,a,_,_,_,J,J,aG.of d,J,s,_,J,.inl hT.seq,_,_,J,J,_,J,?_⟩;refine jw (λt=>?_) (λt=>?_)
     . have t:=cm t;rw[u]at t;have m:(0:Int)<(c.length:Int):=t;have N:=eq (p*11) (show(c.length:Int)≠0 by omega);have M:=fe (p*11) m;have z:(p*11%(c.length:Int)).toNat<c.length:=by omega
       have C:p*11%(c.length:Int)=(((p*11%(c.length:Int)).toNat:Nat):Int):=by omega
       have n:cE (c.map V.int) (p*11%(c.length:Int))=some (.int c[(p*11%(c.length:Int)).toNat]):=by have q:cE (c.map V.int) (((p*11%(c.length:Int)).toNat:Nat):Int)=some (.int c[(p*11%(c.length:Int)).toNat]):=y9 (by rw[au,bo z];rfl);rw[<-C]at q;exact q
       refine⟨_,J,a,_,_,_,J,J,aG.of d,J,_,J,_,_,J,J,jF (by decide),_,J,a,_,_,_,J,J,aG.of d,J,s,_,J,.inl hT.seq,_,_,J,J,?_,s,_,_,_,J,J,hT.seq,(by rw[u];exact n),_,_,J,J,(by show(0:Int)<999999937;decide),_,J,_,_,J,J,jF (by decide),_,_,J,J,?_⟩
       . show(0:Int)<(((c.map V.int).length:Nat):Int);rw[u];exact m
       refine⟨_,J,_,_,J,J,_,J,a,_,_,_,J,J,d,J,?_⟩;refine⟨_,J,_,J,_,p,J,i,λl e=>⟨_,J,a,_,_,_,J,J,zd,J,?_⟩⟩;have g:(upd (upd H a (.lst (([.ref s,.int p,.int r]:O V).set 1 (.int (p+1))))) a (.lst ((([.ref s,.int p,.int r]:O V).set 1 (.int (p+1))).set 2 (.int l)))) a=some (.lst [.ref s,.int (p+1),.int l]):=zd;refine⟨_,J,a,_,_,_,J,J,aG.of g,J,_,J,_,_,J,J,b,?_⟩;refine⟨_,J,a,_,_,_,J,J,aG.of g,J,_,J,_,_,J,J,⟨b,j⟩,_,J,a,_,_,_,J,J,g,J,?_⟩;refine⟨_,J,k _ _ (eq _ (by omega)) (fe _ b) ((bS.refl a H).trans (bS.upd.trans (bS.upd.trans bS.upd))) ⟨⟨_,_,zd,(by omega),Int.ediv_nonneg e (by omega)⟩,bS.seq ((bS.refl a H).trans (bS.upd.trans (bS.upd.trans bS.upd))) hT.ne hT.seq,hT.ne,hT.len⟩⟩
     . skip
       refine⟨_,J,_,_,J,J,_,J,a,_,_,_,J,J,d,J,?_⟩;refine⟨_,J,_,J,_,p,J,i,λl e=>⟨_,J,a,_,_,_,J,J,zd,J,?_⟩⟩;have g:(upd (upd H a (.lst (([.ref s,.int p,.int r]:O V).set 1 (.int (p+1))))) a (.lst ((([.ref s,.int p,.int r]:O V).set 1 (.int (p+1))).set 2 (.int l)))) a=some (.lst [.ref s,.int (p+1),.int l]):=zd;refine⟨_,J,a,_,_,_,J,J,aG.of g,J,_,J,_,_,J,J,b,?_⟩;refine⟨_,J,a,_,_,_,J,J,aG.of g,J,_,J,_,_,J,J,⟨b,j⟩,_,J,a,_,_,_,J,J,g,J,?_⟩;refine⟨_,J,k _ _ (eq _ (by omega)) (fe _ b) ((bS.refl a H).trans (bS.upd.trans (bS.upd.trans bS.upd))) ⟨⟨_,_,zd,(by omega),Int.ediv_nonneg e (by omega)⟩,bS.seq ((bS.refl a H).trans (bS.upd.trans (bS.upd.trans bS.upd))) hT.ne hT.seq,hT.ne,hT.len⟩⟩
 . refine⟨_,J,a,_,_,_,J,J,aG.of d,J,_,J,_,_,J,J,b,?_⟩;refine⟨_,J,a,_,_,_,J,J,aG.of d,J,_,J,_,_,J,J,⟨b,j⟩,_,J,a,_,_,_,J,J,d,J,?_⟩;refine⟨_,J,k _ _ (eq _ (by omega)) (fe _ b) bS.upd ⟨⟨_,_,zd,i,Int.ediv_nonneg y (by omega)⟩,bS.seq bS.upd hT.ne hT.seq,hT.ne,hT.len⟩⟩
end
end My
namespace My
open PySem
variable{ps:List Str}
noncomputable def jn(c:Nat):List (List Nat)->List Nat|[]=>[]|[x]=>x|x::y::r=>x++c::jn c (y::r)
theorem xL{c:Nat}:∀{p q a b:List Nat},c ∉ p->c ∉ q->p++c::a=q++c::b->p=q/\a=b| [],[],a,b,_,_,h=>by simp at h;exact⟨J,h⟩| [],x::q,a,b,_,d,h=>by simp at h;exact absurd h.1 (λz=>d (by rw[z];exact bp))| x::p,[],a,b,e,_,h=>by simp at h;exact absurd h.1.symm (λz=>e (by rw[z];exact bp))| x::p,y::q,a,b,e,d,h=>by simp only[List.cons_append,List.cons.injEq]at h;obtain⟨g,f⟩:=xL (λz=>e (bq _ z)) (λz=>d (bq _ z)) h.2;exact⟨by rw[h.1,g],f⟩
theorem xE{c:Nat}:∀{ps a:List (List Nat)},ps≠[]->a≠[]->(∀p∈ps,c ∉ p)->(∀q∈a,c ∉ q)->jn c ps=jn c a->ps=a|[],_,h,_,_,_,_=>absurd J h|_,[],_,h,_,_,_=>absurd J h| [p],[q],_,_,_,_,h=>by have h:p=q:=h;rw[h]| [p],q::e::r,_,_,d,_,h=>by have h:p=q++c::jn c (e::r):=h;exact absurd (by rw[h];exact cu _ bp) (d p bp)| p::f::r,[q],_,_,_,b,h=>by have h:p++c::jn c (f::r)=q:=h;exact absurd (by rw[<-h];exact cu _ bp) (b q bp)| p::f::r,q::e::i,_,_,d,b,h=>by have h:p++c::jn c (f::r)=q++c::jn c (e::i):=h;obtain⟨l,j⟩:=xL (d p bp) (b q bp) h;rw[l,xE (by simp) (by simp) (λx g=>d x (bq _ g)) (λx g=>b x (bq _ g)) j]
noncomputable def cA(c:Nat):Str:=⟨#[c]⟩
theorem V0(c:Nat):∀ps:List Str,((cA c).join ps).cps.toList=jn c (ps.map λp=>p.cps.toList)
 |[]=>rfl
 |[p]=>rfl
 | p::q::r=>by
   have f:=V0 c (q::r);have e:(cA c).join (p::q::r)=p++cA c++(cA c).join (q::r):=rfl;rw[e];show((p++cA c)++(cA c).join (q::r)).cps.toList=_;have d:∀a b:Str,(a++b).cps.toList=a.cps.toList++b.cps.toList:=λa b=>by show(a.cps++b.cps).toList=_;simp
   rw[d,d,f];show p.cps.toList++[c]++jn c _=p.cps.toList++c::jn c _;simp
theorem HA(x:Str)(c:Nat):Txt.split x (cA c)≠[]:=by
 unfold Txt.split;split
 . simp
 . split
   . simp
   . intro h;unfold Builtin.Str.partsBetween at h;have:=congrArg List.length h;simp at this
theorem fi{a b:Str}(h:a.cps.toList=b.cps.toList):a=b:=Str.ext' (Array.toList_inj.mp h)
theorem X6{c:Nat}(h:ps≠[])(g:∀p∈ps,c ∉ p.cps.toList):Txt.split (Txt.join (cA c) ps) (cA c)=ps:=by
 have l:Txt.join (cA c) ps=(cA c).join ps:=StrLaws.glued_eq_join _ _;rw[l];have j:=StrLaws.join_split ((cA c).join ps) (cA c);have f:=congrArg (λs:Str=>s.cps.toList) j;rw[V0,V0]at f;have i:=xE (by intro z;exact HA _ c (List.map_eq_nil_iff.mp z)) (by intro z;exact h (List.map_eq_nil_iff.mp z)) (λp e=>by obtain⟨q,d,rfl⟩:=bu.mp e;exact StrLaws.split_free _ c q d) (λp e=>by obtain⟨q,d,rfl⟩:=bu.mp e;exact g q d) f
 exact(List.map_inj_right λa b h=>fi h).mp i
end My
namespace My
open PySem PySem.Spec PyProof.Rows L2
variable{P:Program}{mg:Str->Option Value}
noncomputable abbrev Yi:Stmt:=aX 51
noncomputable abbrev Wc:Stmt:=aX 53
noncomputable abbrev Zq:Stmt:=aX 54
noncomputable def dS(n:Nat):Str:=Str.ofString (toString (n:Int))
noncomputable def vN(c:Nat):Bool:= !decide ((⟨#[c]⟩:Str).cps.toList<("0":Str).cps.toList) && !decide (("9":Str).cps.toList<(⟨#[c]⟩:Str).cps.toList)
theorem Eh:∀n,n<10->dS n=⟨#[48+n]⟩/\vN (48+n)=true:=by decide+kernel
theorem EU:∀n,n<10->PySem.Txt.startswith (dS n) "0"=true->dS n="0":=by decide+kernel
def Cn(vs:List V)(_:Hp):Prop:=∃n,vs=[.str (dS n)]/\n<10
inductive gc(f x:Str)(v:V):Prop|num:∀n,f="number"->x=dS n->n<10->v=.int n->gc f x v|let:f≠"number"->f≠"hand"->fA x=true->v=.str x->gc f x v
theorem gc.flat{f x:Str}{v:V}(h:gc f x v):Xe v=true/\jV v .non=false:=by rcases h with⟨_,_,_,_,rfl⟩|⟨_,_,_,rfl⟩<;>exact⟨J,J⟩
theorem HF{K:W.Frag}{H b:Hp}{a:Y}{xs:O V}(h:aE K H a xs)(s:Same H b):aE K b a xs:=by
 rcases h with h|h
 . rcases h with h|⟨o,h⟩
   . exact .inl (.inl (s _ _ h))
   . exact .inl (.inr ⟨o,s _ _ h⟩)
 . exact .inr h
inductive lQ(vs:List V)(H:Hp)(Q:VK)(e0:XK):Prop|mk:∀f x v,vs=[.str f,.str x]->gc f x v->(∀H',Same H H'->Q v H')->lQ vs H Q e0
structure M6(K:W.Frag)(H:Hp)(a b:Addr)(rows:List (Str×Str×V)):Prop where
 each:∀r∈rows,gc r.1 r.2.1 r.2.2
 few:rows.length<=10
 fa:aE K H a (rows.map λr=>V.str r.1)
 fb:H b=some (.lst (rows.map λr=>V.str r.2.1))
inductive gY(K:W.Frag)(vs:List V)(H:Hp)(Q:VK)(e0:XK):Prop|mk:∀a b rows,vs=[.ref a,.ref b]->M6 K H a b rows->(∀l H',Same H H'->H' l=some (.lst (rows.map λr=>r.2.2))->Q (.ref l) H')->gY K vs H Q e0
theorem ki{a b:Str}(h:a≠b):decide (V.str a=V.str b)=false:=c6 λe=>h (by injection e)
section
variable{w:World}{K:W.Frag}{base:Heap}
theorem LY:aA ["word"] ["word"] (zf Yi):=.of
theorem LR(D:bG K mg "is_number" Yi)(T:Txt K mg)(hF:∃t,mg "MOST_FIGURES"=some (.int 30 t)):Ok P w K mg base "is_number" 1 ["word"] (spT Cn):=by
 refine wa D LY ?_;rintro f y A h s H z Q E C ⟨⟨n,rfl,hn⟩,k⟩ X;refine⟨_,zb (ye (PW.pt (Xz (xt (Hi Vw Vw ze (yf Yr (by rfl) T.len we (za (pv 0) zc)) (y8 hF))) (Z1 (PW.pt (Qr (y7 (ja PySem.F.plainAttrs_str PySem.F.slot_str_startswith PySem.F.type_str_startswith IA (pv 0) (za zi zc))) (Vl (zm X1 (pv 0) zi (zu _)))))))) (zg xn) zn) (zg (zk (yf (kx J) J T.all Xk (za (qc (own:=["sign"]) (cap:=[]) J (yt (zf Yi) J J (by decide+kernel) (by decide+kernel) (by decide+kernel) trivial) (xZ (pv 0)) (λ_ _ _ _=>zp (i:=0) (by show(["sign"]:O Str).Nodup;decide+kernel)) (λ_ _ _ _=>xu) (λ_ _ _ _=>Vv Xp Xp zi (pv 0) zi)) zc)))),?_⟩
 have j:=EU n hn;obtain⟨o,b⟩:=Eh n hn;generalize dS n=x at *;have q:x.length=1:=by rw[o];rfl
 have m:x.length<=sizeLine:=wz (by omega);refine⟨x,J,m,1,_,J,J,_,J,?_⟩;rw[q];refine wf ⟨_,30,J,J,_,J,yi ⟨J,x,"0",J,J,_,J,?_⟩⟩;cases u:PySem.Txt.startswith x "0"
 case' false=>refine yi (yi ⟨x,J,?_⟩)
 case' true=>refine wf ⟨J,_,J,?_⟩;rw[bj (congrArg V.str (j u))];refine yi ⟨x,J,?_⟩
 all_goals
  have r:x.cps.size<=sizeLine:=m;refine xV (λi a g=>g=H/\a=List.replicate i (V.bl true)) ⟨J,J⟩ (λi a g F ⟨_,e⟩=>by rw[e,fc];omega) ?_ ?_
  . rintro i c a g l ⟨rfl,rfl⟩;refine V3 ?_;have l:c=48+n:=by have:=bv (show x.cps.toList[i]?=some c by rw[Array.getElem?_toList];exact l);rw[o]at this;simpa using this
    subst l;unfold vN at b;rw[cg]at b;refine⟨"0",_,J,J,_,J,jw (λ_=>⟨_,"9",J,J,J,?_⟩) (λd=>absurd b.1 d)⟩;rw[b.2];exact List.replicate_succ'.symm
  . rintro a g ⟨rfl,rfl⟩ p v;refine⟨p,List.replicate x.cps.size true,J,aG.of (by rw[zd,List.map_replicate]),?_⟩;have e:(List.replicate x.cps.size true).all id=true:=by simp
    rw[e];exact k _ (Same.new v _)
theorem Jc:aA ["form","word","fits"] ["form","word"] (zf Wc):=.of
theorem LJ(D:bG K mg "read_word" Wc)(T:Txt K mg)(i:Ok P w K mg base "is_number" 1 ["word"] (spT Cn))(h:Ok P w K mg base "is_word" 2 ["thing"] (spT ny))(g:Ok P w K mg base "is_letters" 1 ["thing"] (spT ny)):Ok P w K mg base "read_word" 3 ["form","word"] lQ:=by
 refine wa (k:=2) D Jc ?_;rintro f q A b s H r Q E e ⟨f,x,v,rfl,m,k⟩ X;have j:=Jc.nd;have d:=e.mono (show 1<=2 by decide);refine⟨_,zb (ye (zm y0 (pv 0) zi (zu _)) (zg (zk (qo (y7 (yc i d (za (pv 1) zc))) (yx LV J T.int xI (za (pv 1) zc)) Z2))) zn) (zb (ye (zm y0 (pv 0) zi (zu _)) (zg xn) zn) (zb (zo (i:=2) j (qo (zm y0 (pv 0) zi (zu _)) (yc h e (za (pv 1) zc)) (yc g d (za (pv 1) zc)))) (zg (zk (qo (y7 (pv 2)) (pv 1) Z2))))),?_⟩
 rcases m with⟨n,rfl,rfl,hn,rfl⟩|⟨p,o,l,rfl⟩
 . refine⟨J,_,J,?_⟩;rw[bj J];exact wf ⟨⟨n,J,hn⟩,λc a=>⟨_,J,wf ⟨n,J,by omega,by omega,k c a⟩⟩⟩
 . refine⟨J,_,J,?_⟩;rw[ki p];refine yi ⟨J,_,J,?_⟩;rw[ki o];refine yi ⟨J,_,J,?_⟩;refine jw (λ_=>?_) λ_=>?_
   all_goals exact⟨⟨x,J,l⟩,λc a=>⟨_,J,wf (k c a)⟩⟩
theorem W9:aA ["forms","words","values"] ["forms","words"] (zf Zq):=.of
theorem Md(D:bG K mg "read_words" Zq)(T:Txt K mg)(U:Ok P w K mg base "read_word" 3 ["form","word"] lQ):Ok P w K mg base "read_words" 4 ["forms","words"] (gY K):=by
 refine wa (k:=3) D W9 ?_;rintro f af A t s H vs Q E j ⟨a,b,c,rfl,R,k⟩ X;have W:=W9.nd;have g:(["form","word"]:O Str).Nodup:=by decide+kernel
 refine⟨_,zb (ye (zm X1 (yf yg J T.len we (za (pv 0) zc)) (yf yg J T.len we (za (pv 1) zc)) (zu _)) (zg xn) zn) (zb (Vn (i:=2) (own:=["form","word"]) (cap:=[]) (g:=eT K 2 (bR (js 0) (bR (js 1) lr))) J (yt (zf Zq) J J (by decide+kernel) (by decide+kernel) (by decide+kernel) trivial)
   (F6 J T.zip (za (pv 0) (za (pv 1) zc)))
   (λ_ _ _ _=>j2 J (yv (zp (i:=0) g) (yv (zp (i:=1) g) qv))) (λ_ _ _ _=>xu)
   (λ_ _ _ _=>yc U j (za (pv 0) (za (pv 1) zc))) W J J (by with_unfolding_all rfl))
  (zg (zk (qo (zm Z8 Z2 (pv 2) J) Z2 (pv 2))))),?_⟩
 have hl:=R.few;refine⟨a,_,J,.inr R.fa,b,_,J,.inl (aG.of R.fb),J,_,J,?_⟩;rw[aa,aa,bj J];refine yi ⟨a,b,_,_,J,R.fa,R.fb,?_⟩;refine FJ (by rw[aa,aa]) (λi n m=>Same H m/\n=(c.take i).map λr=>r.2.2) ⟨Same.refl H,J⟩ (λi n m L ⟨o,e⟩=>⟨HF R.fa o,o _ _ R.fb,by rw[e,aa,d5];exact wz (by omega)⟩) ?_ ?_
 . rintro i x1 z1 n m r h u ⟨o,rfl⟩ y;rw[au]at h u;cases p:c[i]? with|none=>rw[p]at h;cases h|some d=>rw[p]at h u;cases h;cases u;have Z:=R.each d (bv p);have F:=Same.new y (.tup [.str d.1,.str d.2.1]);have M:upd m r (.tup [.str d.1,.str d.2.1]) r=some (.tup [.str d.1,.str d.2.1]):=zd;generalize upd m r (.tup [.str d.1,.str d.2.1])=ap at F M⊢;refine⟨r,_,J,aE.of M,J,_,_,J,_,_,J,J,?_⟩;refine uJ ?_;refine⟨_,_,_,J,Z,λah q=>⟨o.trans (F.trans q),?_⟩⟩;rw[cq,p,ax];rfl
 rintro n N ⟨S,rfl⟩ l z;rw[aa,cr];have G:=Same.new z (.lst (c.map λr=>r.2.2));have C:upd N l (.lst (c.map λr=>r.2.2)) l=some (.lst (c.map λr=>r.2.2)):=zd;generalize upd N l (.lst (c.map λr=>r.2.2))=H2 at G C⊢;have hf:(c.map λr=>r.2.2).all Xe=true:=db.mpr λv x=>by obtain⟨r,j,rfl⟩:=bu.mp x;exact(R.each r j).flat.1
 have L:ng .non (c.map λr=>r.2.2)=false:=by unfold ng;rw[List.any_eq_false];intro v x;obtain⟨r,j,rfl⟩:=bu.mp x;rw[(R.each r j).flat.2];decide
 refine⟨l,_,J,.inl (aG.of C),J,hf,_,J,?_⟩;rw[if_neg br,L];exact yi (k l H2 (S.trans G) C)
end
end My
namespace L2
open PySem PySem.Spec PyProof.Rows
theorem GD{X:Cx}:mF X "str.partition" (λx xs H Q=>∃a b,x=.str a/\xs=[.str b]/\(b.length==0)=false/\a.length<=sizeLine/\Builtin.Str.occurrences a b 0 a.length 1=[]/\∀p H',Same H H'->H' p=some (.tup [.str a,.str Str.empty,.str Str.empty])->Q (.ref p) H'):=by intro f s r H x xs v w Q I i j h;obtain⟨a,b,rfl,rfl,m,n,l,q⟩:=h;obtain⟨t,rfl⟩:=i;obtain⟨u,rfl,g,rfl⟩:=ql j;have d:=I.hok.fresh (ae s.heap.objs.size);refine call_meets F.slot_str_partition (typeIs_str s a t) F.entry_str_partition (F.args_str_partition_2 _ _) (meets_str_partition a b t g m n) ?_;rw[l];exact⟨.ref s.heap.objs.size,_,I.laid (a:=s.heap.objs.size) (o:=.tup [.str a,.str Str.empty,.str Str.empty]) (λc o e=>aj _ e) (ae _) ⟨by show 3<=sizeLine;decide,_,.cons ⟨_,J⟩ (.cons ⟨_,J⟩ (.cons ⟨_,J⟩ .nil)),⟨_,bf _ J,J,_,J⟩,gp.push⟩,J,q _ _ (Same.new d _) zd⟩
end L2
namespace My
open PySem PySem.Spec PyProof.Rows L2
variable{base:Heap}{H:Hp}{cap:List Nat}{r:List V}{P:Program}{f:Str}{mg:Str->Option Value}{x:V}{w:World}
noncomputable abbrev Qh:Stmt:=aX 116
theorem GI{a:Str}{c:Nat}(h:c ∉ a.cps.toList):Builtin.Str.occurrences a (cA c) 0 a.length 1=[]:=by have:=StrLaws.found_one a c;rw[c6 h]at this;exact List.isEmpty_iff.mp ((Bool.not_eq_false' ..).mp this)
theorem zI{c d:Nat}(b:c≠d):∀{ps:List (List Nat)},(∀p∈ps,c ∉ p)->c ∉ jn d ps
 |[],_,a=>by simp[jn]at a
 |[p],h,a=>h p (by simp) (by simpa[jn]using a)
 | p::q::ps,h,a=>by
   simp only[jn,ce,ag]at a;rcases a with m|m|m
   . exact h p (by simp) m
   . exact b m
   . exact zI b (ps:=q::ps) (λr e=>h r (by simp[e])) m
theorem fq:cE (x::r) 0=some x:=(show cE (x::r) ((0:Nat):Int)=_ from y9 J)
theorem mB{y:V}:cE (x::y::r) 1=some y:=(show cE (x::y::r) ((1:Nat):Int)=_ from y9 J)
theorem uM{y z:V}:cE (x::y::z::r) 2=some z:=(show cE (x::y::z::r) ((2:Nat):Int)=_ from y9 J)
theorem At(x:V)(l:O V):jG (x::l) (some 1) none=l:=by
 have b:HT.bV (x::l).length 0 (some 1)=1:=by unfold HT.bV;simp
 have a:HT.bV (x::l).length (x::l).length none=(x::l).length:=by unfold HT.bV;rfl
 unfold jG;rw[b,a,List.drop_one,List.tail_cons,d7,Nat.add_sub_cancel,cr]
structure RowW(w:World)(K:W.Frag)(mg:Str->Option Value)(x w0:Str)(rows:List (Str×Str×V)):Prop where
 e:x=Txt.join (cA 32) (w0::rows.map λr=>r.2.1)
 len:x.length<=100
 sp:∀p∈w0::rows.map (λr=>r.2.1),32 ∉ p.cps.toList
 nl:10 ∉ x.cps.toList
 ne:w0≠"house"
 get:∃ad kvs b,mg "ROWS"=some (.ref ad)/\nM w K ad kvs/\yq kvs w0=some (.ref b)/\∀H,aE K H b (rows.map λr=>V.str r.1)
 each:∀r∈rows,gc r.1 r.2.1 r.2.2
 few:rows.length<=10
inductive lR(w:World)(K:W.Frag)(mg:Str->Option Value)(vs:List V)(H:Hp)(Q:VK)(e0:XK):Prop|mk:∀x w0 rows,vs=[.str x]->RowW w K mg x w0 rows->(∀q l H',Same H H'->H' l=some (.lst (rows.map λr=>r.2.2))->H' q=some (.tup [.str w0,.ref l,.str Str.empty])->Q (.ref q) H')->lR w K mg vs H Q e0
section
variable{K:W.Frag}
theorem Km:aA ["row","parts","words","has_text","forms","said"] ["row"] (zf Qh):=.of
theorem KR(D:bG K mg "read_row" Qh)(T:Txt K mg)(N:Ok P w K mg base "read_words" 4 ["forms","words"] (gY K)):Ok P w K mg base "read_row" 5 ["row"] (lR w K mg):=by
 refine wa (k:=4) D Km ?_;rintro f af A t s H vs Q E U ⟨x,j,a,rfl,R,k⟩ X;have d:=Km.nd;obtain⟨ad,u,b,y,v,S,W⟩:=R.get;refine⟨_,zb (ye (xt (y7 (Y4 T.isi T.str k7 (pv 0)))) (zg xn) zn) (zb (zo (i:=1) d (ja PySem.F.plainAttrs_str PySem.F.slot_str_partition PySem.F.type_str_partition GD (pv 0) (za zi zc))) (zb (zo (i:=2) d (ja PySem.F.plainAttrs_str PySem.F.slot_str_split PySem.F.type_str_split A3 (zr zt (pv 1) ze) (za zi zc))) (zb (zo (i:=3) d (qa y0 (zr zt (pv 1) ze) zi (zu _))) (zb (zo (i:=4) d (Hw (tT (v:=.ref ad) J y J) (zr y4 (pv 2) ze) ⟨J,J,J,J⟩)) (zb (zo (i:=5) d (qo (zm yB (pv 4) Z2 (zu _)) Z2 (yc N U (za (pv 4) (za (kr Jt (pv 2) (Zu ze) Zv) zc))))) (zb (ye (PW.pt (Xz (zm yB (pv 5) Z2 (zu _)) (Z1 (zm X1 (pv 3) (qa y0 (zr y4 (pv 2) ze) zi (zu _)) (zu _))))) (zg xn) zn) (zg (zk (xi (za (zr y4 (pv 2) ze) (za (pv 5) (za (zr zt (pv 1) ze) zc)))))))))))),?_⟩
 have hx:=R.len;refine⟨.str x,"str",_,_,J,(show Is H (.str x) (.str x)from rfl).ty,J2 K (.str x),_,J,yi ?_⟩;refine⟨J,x,_,J,J,J,wz (by omega),GI (c:=10) R.nl,λp H1 M L=>?_⟩;refine⟨p,_,_,_,J,J,aE.of L,fq,J,x,_,J,J,J,wz (by omega),?_,?_⟩
 . have e:=X6 (c:=32) (ps:=j::a.map λr=>r.2.1) (by simp) R.sp;rw[<-R.e]at e;have hf:=R.few;refine c9 (Nat.le_of_eq (congrArg List.length e)) (wz ?_);rw[d7,aa];omega
 intro c z F n2 h;have e:=X6 (c:=32) (ps:=j::a.map λr=>r.2.1) (by simp) R.sp;rw[<-R.e]at e;have h:z c=some (.lst (.str j::a.map λr=>V.str r.2.1)):=by refine h.trans (congrArg (λl=>some (HO.lst l)) ((congrArg (List.map V.str) e).trans ?_));rw[c4,bn];rfl
 have i:=F _ _ L;refine⟨p,_,_,_,J,J,aE.of i,mB,J,?_⟩;refine⟨ad,u,J,v,c,_,_,_,J,J,aG.of h,fq,j,J,?_⟩;rw[S];refine⟨J,_,J,yi ⟨1,J,c,_,J,aG.of h,λn Z=>?_⟩⟩;rw[At];have m:=Same.new Z (.lst (a.map λr=>V.str r.2.1));have G:upd z n (.lst (a.map λr=>V.str r.2.1)) n=some (.lst (a.map λr=>V.str r.2.1)):=zd;generalize upd z n (.lst (a.map λr=>V.str r.2.1))=H3 at m G⊢;refine⟨b,n,a,J,⟨R.each,R.few,W H3,G⟩,λl H4 o g4=>?_⟩;have g:=o _ _ (m _ _ h);refine⟨J,_,J,yi ⟨c,_,_,_,J,J,aG.of g,fq,J,J,_,J,?_⟩⟩;rw[ki R.ne,ki (by decide)];refine yi ⟨c,_,_,_,J,J,aG.of g,fq,p,_,_,_,J,J,aE.of (o _ _ (m _ _ i)),uM,by show 3<=1000;decide,λq H5 C n5 g5=>?_⟩;exact k q l H5 (M.trans (F.trans (m.trans (o.trans C)))) (C _ _ g4) g5
end
def jY(b:Int):aI->Prop|.rai x k=>0<=x/\x<b/\1<=k/\k<=99|.awa x m=>0<=x/\x<b/\1<=m/\m<=9999|.say x=>x="come"\/x="go"|_=>False
def gy:aI->Prop|.com _=>False|.goo _=>False|.lea _=>False|.beg _ _=>False|_=>True
theorem jY.no{b:Int}{d:aI}(h:jY b d):gy d:=by cases d<;>first|trivial|exact h.elim
structure pz(h:aB):Prop where
 b0:0<=h.b
 b99:h.b<=99
 w0:h.w=0
 n1:1<=h.ss.length
 n20:h.ss.length<=20
 f1:1<=h.fs.length
 f17:h.fs.length<=17
 call:∀c∈h.fs,c.1<h.ss.length/\c.2=[]
 len:∀s∈h.ss,s.length<=30
 pl:∀s∈h.ss,∀d∈s,jY h.b d
def Co(vs:List V)(H:Hp):Prop:=∃v G,vs=[v,G]/\Is H (nh []) v
def Cr(vs:List V)(H:Hp):Prop:=∃(i:Nat)(v:V)(G:Int)(h:aB)(U:V),vs=[v,.int G,U]/\Is H (eC (i,[])) v/\Is H (eH h) U/\G<=(i:Int)/\i<h.ss.length
def Cq(vs:List V)(H:Hp):Prop:=∃d v G h U,vs=[v,.int G,U]/\Is H (eD d) v/\Is H (eH h) U/\jY h.b d
def Cl(vs:List V)(H:Hp):Prop:=∃s v G h U,vs=[v,.int G,U]/\Is H (eS s) v/\Is H (eH h) U/\s.length<=80/\∀d∈s,jY h.b d
def jX(vs:List V)(H:Hp):Prop:=∃h v,vs=[v]/\Is H (eH h) v/\pz h
def Ct(vs:List V)(H:Hp):Prop:=∃d G u,vs=[G,u]/\Is H (eD d) G/\gy d
def Cp(vs:List V)(H:Hp):Prop:=∃(ss:List yz)(G:V)(j:Nat)(U:V),vs=[G,U]/\Is H (.tup (ss.map eS)) G/\Is H (eC (j,[])) U/\j<ss.length/\∀s∈ss,∀d∈s,gy d
def Cy(G:List yz)(lo:Nat)(H:Hp)(d:Addr):Prop:=∃kvs:List (aJ×V),H d=some (.dK kvs)/\kvs.length<=G.length-lo/\∀j,lo<=j->j<G.length->∃p,yq kvs (Sum.inl (j:Int):aJ)=some (.ref p)/\H p=some (.tup [.int 1,.int ((G.getD j []).length:Int)])
inductive mq(vs:List V)(H:Hp)(Q:VK)(e0:XK):Prop|mk:∀(ss:List yz)(v:V),vs=[v]->Is H (.tup (ss.map eS)) v->ss.length<=20->(∀s∈ss,∀d∈s,gy d)->(∀d H',Same H H'->Cy ss 0 H' d->Q (.ref d) H')->mq vs H Q e0
section
variable{K:W.Frag}
theorem X7:aA ["thing","house","last","member"] ["thing","house"] (zf Z0):=.of
theorem K2(D:bG K mg "are_members" Z0)(T:Txt K mg):Ok P w K mg base "are_members" 1 ["thing","house"] (spT Co):=by
 refine wa (k:=0) D X7 ?_;rintro f n A d s H o Q E q ⟨⟨v,p,rfl,g⟩,k⟩ X;refine⟨_,zb (ye (xt (y7 (Y4 T.isi T.tuple Xj (pv 0)))) (zg (zk jy)) zn) (zb (zo (i:=2) X7.nd (rQ tK ze)) (zb (wy PassesOwn.never J (j1 (pv 0)) (zp (i:=3) X7.nd) yo) (zg (zk jy)))),?_⟩
 refine⟨v,"tuple",_,_,J,Is.ty (t:=.tup []) g,BO K (.tup []),_,J,yi ?_⟩;obtain⟨a,j,rfl,h,m⟩:=g;cases(show j=[]from m);refine⟨_,J,a,J,⟨[],aE.of h⟩,V4 (xs:=[]) (λi c b=>b=H) J (λi c b _ e=>by rw[e];exact aE.of h) (λi x c b l _=>by cases l) λc b e=>by rw[e];exact k H (Same.refl H)⟩
theorem Lh:aA ["thing","least","house"] ["thing","least","house"] (zf Yg):=.of
theorem Mt(D:bG K mg "is_calling" Yg)(T:Txt K mg)(W:Ok P w K mg base "is_tuple_within" 1 ["thing","least","most"] (spT pe))(U:Ok P w K mg base "is_within" 2 ["thing","least","most"] (spT mC))(S:Ok P w K mg base "are_members" 1 ["thing","house"] (spT Co)):Ok P w K mg base "is_calling" 6 ["thing","least","house"] (spT Cr):=by
 refine wa (k:=5) D Lh ?_;rintro f af A n s H vs Q E r ⟨⟨i,v,o,h,hv,rfl,F,Z,h1,h2⟩,k⟩ X;refine⟨_,zb (ye (xt (y7 (yc W (r.mono (by decide)) (za (pv 0) (za ze (za ze zc)))))) (zg (zk jy)) zn) (zg (zk (ky (yc U (r.mono (by decide)) (za (zr zt (pv 0) ze) (za (pv 1) (za (ya Y6 (yf yg J T.len we (za (zr zt (pv 2) (y8 T.SCRIPTS)) zc)) ze) zc)))) (j3 (yc S (r.mono (by decide)) (za (zr zt (pv 0) ze) (za (pv 2) zc))))))),?_⟩
 refine⟨⟨_,v,2,2,J,F,dz _,dz _⟩,λH1 m=>⟨_,J,yi ?_⟩⟩;have d:=F.mono m;obtain⟨a,G,M,rfl,N,ea,p⟩:=Is.at (i:=0) d J;cases(show M=.int (i:Int)from p);obtain⟨ah,L,uh,rfl,j,y,q⟩:=Is.at (i:=3) (Z.mono m) J;obtain⟨as,e,rfl,x,t⟩:=q;have u:=t.length;rw[aa]at u;refine⟨a,G,_,_,J,J,N,ea,ah,L,_,_,J,J,j,y,as,e,J,.inr (aE.of x),_,_,J,J,⟨_,_,_,J,h1,by omega⟩,λH2 C=>⟨_,J,wf ?_⟩⟩;obtain⟨a2,g,b,e2,l,z,c⟩:=Is.at (i:=1) (d.mono C) J;cases e2;exact⟨a,g,_,b,J,J,l,z,⟨b,_,J,c⟩,λH3 R=>k H3 (m.trans (C.trans R))⟩
theorem Aj:aA ["thing","number","house","word"] ["thing","number","house"] (zf Qk):=.of
theorem KN(D:bG K mg "is_deed" Qk)(T:Txt K mg)(o1:Ok P w K mg base "is_tuple_within" 1 ["thing","least","most"] (spT pe))(o2:Ok P w K mg base "is_within" 2 ["thing","least","most"] (spT mC))(o4:Ok P w K mg base "is_box" 3 ["thing","house"] (spT Cs))(o6:Ok P w K mg base "is_word" 2 ["thing"] (spT ny)):Ok P w K mg base "is_deed" 7 ["thing","number","house"] (spT Cq):=by
 refine wa (k:=6) D Aj ?_;rintro f ah A L s H vs Q E U ⟨⟨d,v,af,h,hv,rfl,ht,hH,i⟩,k⟩ X;have r1:=U.mono (show 1<=6 by decide);have G:=U.mono (show 2<=6 by decide);have r3:=U.mono (show 3<=6 by decide);refine⟨_,zb (ye (PW.pt (Xz (xt (y7 (yc o1 r1 (za (pv 0) (za ze (za ze zc)))))) (Z1 (xt (y7 (Y4 T.isi T.str k7 (zr zt (pv 0) ze))))))) (zg (zk jy)) zn) (zb (zo (i:=3) Aj.nd (zr zt (pv 0) ze)) (zb (ye (zm y0 (pv 3) zi (zu _)) yo zn) (zb (ye (zm y0 (pv 3) zi (zu _)) (zg (zk (ky (qa y0 (yf yg (by rfl) T.len we (za (pv 0) zc)) ze (zu _)) (ky (yc o4 r3 (za (zr zt (pv 0) ze) (za (pv 2) zc))) (j3 (yc o2 G (za (zr zt (pv 0) ze) (za ze (za (y8 T.MOST_RAISED) zc))))))))) zn) (zb (ye (zm y0 (pv 3) zi (zu _)) (zg (zk (ky (qa y0 (yf yg (by rfl) T.len we (za (pv 0) zc)) ze (zu _)) (ky (yc o4 r3 (za (zr zt (pv 0) ze) (za (pv 2) zc))) (j3 (yc o2 G (za (zr zt (pv 0) ze) (za ze (za (y8 T.MOST_AWAITED) zc))))))))) zn) (zb (ye (zm X1 (yf yg (by rfl) T.len we (za (pv 0) zc)) ze (zu _)) yo zn) (zb (ye (zm Z8 (pv 3) (je (za zi (za zi (za zi zc)))) J) yo zn) (zb (ye (zm y0 (pv 3) zi (zu _)) yo zn) (zg (zk (ky (qa y0 (pv 3) zi (zu _)) (j3 (yc o6 G (za (zr zt (pv 0) ze) zc))))))))))))),?_⟩
 obtain⟨r,o⟩:=Yb d;have hl:(r.length=1/\∃x,d=.say x)\/r.length=2:=by cases d<;>first|exact i.elim|(injection o with e;injection e with _ e;rw[<-e];simp)
 refine⟨⟨_,v,2,3,J,o▸ht,by rw[d7];omega,by rw[d7];omega⟩,λH1 q=>⟨_,J,yi ?_⟩⟩;have g:=ht.mono q;have u:=hH.mono q;obtain⟨a,xs,u0,rfl,sq,ea,S⟩:=Is.at (K:=K) (i:=0) (t:=.str (dw d)) (o▸g) J;cases(show u0=.str (dw d)from S);refine⟨a,xs,_,_,J,J,sq,ea,.str (dw d),"str",_,_,J,(show Is H1 (.str (dw d)) (.str (dw d))from rfl).ty,J2 K (.str (dw d)),_,J,yi ⟨a,xs,_,_,J,J,sq,ea,J,_,J,?_⟩⟩;cases d with
 | rai C m=>obtain⟨Z,W,N,M⟩:=i;obtain⟨a',j,z,c,l⟩:=g;cases z;have b:j.length=3:=l.length;refine yi ⟨J,_,J,wf ⟨a,j,J,.inr (aE.of c),J,_,J,?_⟩⟩;rw[b];obtain⟨_,_,rfl,_,_,_,rfl,t,_,_,rfl,R,_⟩:=id l;cases(t);cases(R);refine wf ⟨a,_,1,.int C,J,J,aE.of c,(show cE _ ((1:Nat):Int)=_ from y9 J),⟨C,hv,h,J,u,Z,W⟩,λH2 n=>⟨_,J,wf ⟨a,_,2,.int m,J,J,aE.of (n _ _ c),(show cE _ ((2:Nat):Int)=_ from y9 J),⟨m,1,99,J,N,M⟩,λH3 F=>k H3 (q.trans (n.trans F))⟩⟩⟩
 | awa C m=>obtain⟨Z,W,N,M⟩:=i;obtain⟨a',j,z,c,l⟩:=g;cases z;have b:j.length=3:=l.length;refine yi ⟨J,_,J,yi ⟨J,_,J,wf ⟨a,j,J,.inr (aE.of c),J,_,J,?_⟩⟩⟩;rw[b];obtain⟨_,_,rfl,_,_,_,rfl,t,_,_,rfl,R,_⟩:=id l;cases(t);cases(R);refine wf ⟨a,_,1,.int C,J,J,aE.of c,(show cE _ ((1:Nat):Int)=_ from y9 J),⟨C,hv,h,J,u,Z,W⟩,λH2 n=>⟨_,J,wf ⟨a,_,2,.int m,J,J,aE.of (n _ _ c),(show cE _ ((2:Nat):Int)=_ from y9 J),⟨m,1,9999,J,N,M⟩,λH3 F=>k H3 (q.trans (n.trans F))⟩⟩⟩
 | say x=>
   obtain⟨a',j,z,c,l⟩:=g;cases z;have b:j.length=2:=l.length;refine yi ⟨J,_,J,yi ⟨J,_,J,yi ⟨a,j,J,.inr (aE.of c),J,_,J,?_⟩⟩⟩;rw[b];obtain⟨_,_,rfl,_,_,_,rfl,t,_⟩:=id l;cases(t);refine yi ⟨by decide,λp hp=>⟨p,_,J,.inr (aE.of zd),J,J,_,J,yi ⟨J,_,J,yi ⟨J,_,J,wf ?_⟩⟩⟩⟩;have sp:=Same.new hp (.tup [.str "come",.str "go",.str "leave"]);have wx:fA x=true:=by rcases i with rfl|rfl<;>decide+kernel
   exact⟨a,_,1,.str x,J,J,aE.of (sp _ _ c),(show cE _ ((1:Nat):Int)=_ from y9 J),⟨x,J,wx⟩,λH2 n=>k H2 (q.trans (sp.trans n))⟩
 |com x=>exact i.elim
 |goo x=>exact i.elim
 |lea x=>exact i.elim
 |beg x y=>exact i.elim
 |wor x=>exact i.elim
theorem IZ:aA ["thing","number","house"] ["thing","number","house"] (zf Zr):=.of
theorem Ma(D:bG K mg "is_script" Zr)(T:Txt K mg)(z:Ok P w K mg base "is_tuple_within" 1 ["thing","least","most"] (spT pe))(y:Ok P w K mg base "is_deed" 7 ["thing","number","house"] (spT Cq)):Ok P w K mg base "is_script" 8 ["thing","number","house"] (spT Cl):=by
 refine wa (k:=7) D IZ ?_;rintro f Z A e s H vs Q E o ⟨⟨l,v,g,h,L,rfl,n,S,W,U⟩,k⟩ X;refine⟨_,zb (ye (xt (y7 (yc z (o.mono (by decide)) (za (pv 0) (za ze (za (y8 T.MOST_DEEDS_OF_SCRIPT) zc)))))) (zg (zk jy)) zn) (zg (zk (yf (kx J) J T.all Xk (za (qc (own:=["deed"]) (cap:=[1,2]) J (yt (zf Zr) J J (by decide+kernel) (by decide+kernel) (by decide+kernel) ⟨⟨_,J,.inl J,v8 J⟩,⟨_,J,.inl J,v8 J⟩,trivial⟩) (j1 (pv 0)) (λ_ _ _ _=>zp (i:=0) (by show(["deed","number","house"]:O Str).Nodup;decide+kernel)) (λ_ _ _ _=>xu)
   (λ_ _ _ _=>yc y o (za (pv 0) (za (pv 1) (za (pv 2) zc))))) zc)))),?_⟩
 have M:(l.map eD).length=l.length:=aa _;refine⟨⟨_,v,0,80,J,n,by omega,by omega⟩,λH1 c=>⟨_,J,yi ?_⟩⟩;obtain⟨a,t,rfl,q,p⟩:=n.mono c;have F:=p.length;refine⟨a,J,⟨t,aE.of q⟩,ud q (by omega) (λi x r R G m C=>?_) λr u=>k r (c.trans u)⟩;obtain⟨tt,b,j⟩:=p.get' G;rw[au]at b;obtain⟨d,N,rfl⟩:=cw.mp b;exact⟨⟨d,x,g,h,L,J,j.mono m,S.mono (c.trans m),U d (bv N)⟩,C⟩
theorem HS:aA ["thing"] ["thing"] (zf Wf):=⟨J,J,J,by simp,J,by decide+kernel,by decide+kernel⟩
theorem LS(D:bG K mg "is_frame" Wf)(T:Txt K mg)(i:Ok P w K mg base "is_tuple_within" 1 ["thing","least","most"] (spT pe))(x:Ok P w K mg base "is_within" 2 ["thing","least","most"] (spT mC)):Ok P w K mg base "is_frame" 3 ["thing"] (spT jX):=by
 refine wa (k:=2) D HS ?_;rintro f ah A g s H vs Q E n ⟨⟨h,v,rfl,y,F⟩,k⟩ X;have c:=n.mono (show 1<=2 by decide);obtain⟨b0,t,w0,n1,W,f1,af,_⟩:=F;refine⟨_,zb (ye (xt (y7 (yc i c (za (pv 0) (za ze (za ze zc)))))) (zg (zk jy)) zn) (zb (ye (PW.pt (Xz (xt (y7 (yc x n (za (zr zt (pv 0) (y8 T.BOXES)) (za ze (za (y8 T.MOST_BOXES) zc)))))) (Z1 (xt (y7 (yc x n (za (zr zt (pv 0) (y8 T.WALLS)) (za ze (za (y8 T.MOST_WALLS) zc))))))))) (zg (zk jy)) zn)
  (zg (zk (ky (yc i c (za (zr zt (pv 0) (y8 T.FIRSTS)) (za ze (za (y8 T.MOST_FIRSTS) zc)))) (j3 (yc i c (za (zr zt (pv 0) (y8 T.SCRIPTS)) (za ze (za (y8 T.MOST_SCRIPTS) zc))))))))),?_⟩
 refine⟨⟨_,v,4,4,J,y,dz _,dz _⟩,λH1 b=>⟨_,J,yi ?_⟩⟩;have j:∀{G:Hp},Same H G->∃p q r,v=.ref p/\G p=some (.tup [.int h.b,.int h.w,q,r])/\Is G (.tup (h.fs.map eC)) q/\Is G (.tup (h.ss.map eS)) r:=λ{G} M=>by obtain⟨p,xs,rfl,hp,u1,c,rfl,i1,u2,r2,rfl,i2,L,R,rfl,m,C,e,rfl,l,Z⟩:=y.mono M;cases(i1);cases(i2);cases(show e=[]from Z);exact⟨p,L,C,J,hp,m,l⟩
 obtain⟨p,q,r,rfl,z,_,_⟩:=j b;have lf:(h.fs.map eC).length=h.fs.length:=aa _;have ls:(h.ss.map eS).length=h.ss.length:=aa _;refine⟨p,_,_,_,J,J,aE.of z,J,⟨_,0,99,J,b0,t⟩,λH2 a=>⟨_,J,yi ?_⟩⟩;refine⟨p,_,_,_,J,J,aE.of (a _ _ z),J,⟨_,0,6,J,by omega,by omega⟩,λH3 d=>⟨_,J,yi ?_⟩⟩;obtain⟨U,S,R,o,h3,m,_⟩:=j (b.trans (a.trans d));cases o;refine⟨p,_,_,_,J,J,aE.of h3,J,⟨_,S,1,40,J,m,by omega,by omega⟩,λH4 u=>⟨_,J,wf ?_⟩⟩;obtain⟨U,q4,e,o,h4,_,l⟩:=j (b.trans (a.trans (d.trans u)));cases o;exact⟨p,_,_,_,J,J,aE.of h4,J,⟨_,e,1,20,J,l,by omega,by omega⟩,λH5 N=>k H5 (b.trans (a.trans (d.trans (u.trans N))))⟩
end
section
variable{K:W.Frag}
theorem r9:aA ["thing","number","script"] ["thing"] (zf qu):=.of
theorem Vx(D:bG K mg "is_well_formed" qu)(T:Txt K mg)(o1:Ok P w K mg base "is_frame" 3 ["thing"] (spT jX))(o2:Ok P w K mg base "is_script" 8 ["thing","number","house"] (spT Cl))(o3:Ok P w K mg base "is_calling" 6 ["thing","least","house"] (spT Cr)):Ok P w K mg base "is_well_formed" 9 ["thing"] (spT jX):=by
 refine wa (k:=8) D r9 ?_;rintro f ay A C s H vs Q E hr ⟨⟨h,v,rfl,l,F⟩,k⟩ X;refine⟨_,zb (ye (xt (y7 (yc o1 (hr.mono (by decide)) (za (pv 0) zc)))) (zg (zk jy)) zn) (zb (wy PassesOwn.never J (Jv J T.enumerate (za (zr zt (pv 0) (y8 T.SCRIPTS)) zc)) (j2 J (yv (zp (i:=1) r9.nd) (yv (zp (i:=2) r9.nd) qv))) (zg (ye (xt (y7 (yc o2 hr (za (pv 2) (za (pv 1) (za (pv 0) zc)))))) (zg (zk jy)) zn)))
  (zg (zk (yf (kx J) J T.all Xk (za (qc (own:=["calling"]) (cap:=[0]) J (yt (zf qu) J J (by decide+kernel) (by decide+kernel) (by decide+kernel) ⟨⟨_,J,.inl J,v8 J⟩,trivial⟩) (j1 (zr zt (pv 0) (y8 T.FIRSTS))) (λ_ _ _ _=>zp (i:=0) (by show(["calling","thing"]:O Str).Nodup;decide+kernel)) (λ_ _ _ _=>xu)
   (λ_ _ _ _=>yc o3 (hr.mono (by decide)) (za (pv 0) (za ze (za (pv 1) zc))))) zc))))),?_⟩
 refine⟨⟨h,v,J,l,F⟩,λH1 z=>⟨_,J,yi ?_⟩⟩;obtain⟨a,xs,us,rfl,sq,ea,U⟩:=Is.at (K:=K) (i:=3) (l.mono z) J;obtain⟨as,r,rfl,n,ah⟩:=U;refine⟨a,xs,_,_,J,J,sq,ea,as,r,J,aE.of n,?_⟩;refine uz (K:=K) (λi q e=>∃G t,q=[some (.ref a),G,t]/\Same H1 e) ⟨none,none,J,Same.refl H1⟩ (λi q e _ ⟨_,_,_,j⟩=>aE.of (j _ _ n)) ?_ ?_
 . rintro i x q e p S ⟨G,t,rfl,j⟩ hp;obtain⟨tt,b,M⟩:=ah.get' S;rw[au]at b;obtain⟨y,Z,rfl⟩:=cw.mp b;have hm:=bv Z;have g:=j.trans (Same.new hp (.tup [.int i,x]));refine⟨p,_,J,aE.of zd,J,_,_,J,_,_,J,J,?_⟩;exact⟨⟨y,x,i,h,_,J,M.mono g,l.mono (z.trans g),by have:=F.len y hm;omega,F.pl y hm⟩,λH4 s4=>⟨_,J,yi ⟨_,_,J,g.trans s4⟩⟩⟩
 rintro q H2 ⟨G,t,rfl,j⟩;have d:=z.trans j;obtain⟨a',xf,uf,e',u,av,W⟩:=Is.at (K:=K) (i:=2) (l.mono d) J;cases e';obtain⟨af,xf,rfl,o,m⟩:=W;have ap:=m.length;rw[aa]at ap;have aw:=F.f17;refine⟨a,_,_,_,J,J,u,av,af,J,⟨xf,aE.of o⟩,ud o (by omega) (λi x e R S g kk=>?_) λe s'=>k e (d.trans s')⟩;obtain⟨tt,b,L⟩:=m.get' S;rw[au]at b;obtain⟨c,hc,rfl⟩:=cw.mp b;obtain⟨c1,c2⟩:=F.call c (bv hc);have N:Is e (eC (c.1,[])) x:=c2▸L.mono g;exact⟨⟨c.1,x,0,h,_,J,N,l.mono (d.trans g),by omega,c1⟩,kk⟩
theorem j0:aA ["scripts","brought","number","hands","deeds","deed"] ["scripts"] (zf Qp):=.of
theorem KJ(D:bG K mg "brought_by_scripts" Qp)(T:Txt K mg):Ok P w K mg base "brought_by_scripts" 1 ["scripts"] mq:=by
 refine wa (k:=0) D j0 ?_;rintro f bg A ap s H vs Q E hr ⟨c,v,rfl,ht,bd,hN,k⟩ X;have hu:=ji hr;refine⟨_,zb (zo (i:=1) j0.nd Vt) (zb (wy PassesOwn.never J (F5 J T.range (za (ya Y6 (yf yg (by rfl) T.len we (za (pv 0) zc)) ze) (za (rQ tK ze) (za (rQ tK ze) zc)))) (zp (i:=2) j0.nd) (zb (zo (i:=3) j0.nd ze) (zb (zo (i:=4) j0.nd (yf yg (by rfl) T.len we (za (zr zt (pv 0) (pv 2)) zc))) (zb (wy PassesOwn.never J (j1 (zr zt (pv 0) (pv 2))) (zp (i:=5) j0.nd) (zg (ye (zm y0 (zr zt (pv 5) ze) zi (zu _)) yo zn)))
   (zg (Yj hu (pv 1) (pv 2) (je (za (pv 3) (za (pv 4) zc))) J))))))
  (zg (zk (pv 1)))),?_⟩
 obtain⟨a,h,rfl,ha,hl⟩:=ht;have L:=hl.length;rw[aa]at L;intro d hd;have s0:=Same.new hd (.dK []);refine⟨a,h,J,.inr (aE.of (s0 _ _ ha)),_,_,J,J,_,J,_,J,h.length,J,(by omega),?_⟩;refine Gh (lo:=(h.length:Int)-1) (n:=h.length) (λi σ C=>(∃x2 x3 x4 l,σ=[some (.ref a),some (.ref d),x2,x3,x4,l])/\Same H C/\Cy c (c.length-i) C d) ⟨⟨none,none,none,none,J⟩,s0,[],zd,be _,λj h1 h2=>absurd h2 (by omega)⟩ ?_ ?_
 . rintro i σ C hi ⟨⟨x2,x3,x4,l,rfl⟩,y,aw,n,bc,a7⟩;obtain⟨m,hm⟩:∃m:Nat,m+i+1=c.length:=⟨c.length-i-1,by omega⟩
   have em:(h.length:Int)-1-(i:Int)=((m:Nat):Int):=by omega
   rw[em];have S:m<c.length:=by omega
   have R:c[m]?=some c[m]:=bo S;have a8:c.getD m []=c[m]:=by rw[c7,R];rfl
   obtain⟨u,eu,aS⟩:=hl.get (i:=m) (t:=eS c[m]) (by rw[au,R];rfl);have Z:cE h ((m:Nat):Int)=some u:=y9 eu;obtain⟨as,F,rfl,t,U⟩:=aS.mono y;have G:=U.length;rw[aa]at G;refine⟨a,h,_,_,J,J,aE.of (y _ _ ha),Z,as,F,J,.inr (aE.of t),?_⟩;refine⟨a,h,_,_,J,J,aE.of (y _ _ ha),Z,as,J,⟨F,aE.of t⟩,?_⟩;refine V4 (K:=K) (a:=as) (xs:=F) (λj g H2=>H2=C/\∃l,g=[some (.ref a),some (.ref d),some (.int (m:Int)),some (.int 1),some (.int (F.length:Int)),l]) ⟨J,_,J⟩ (λj g H2 _ ⟨e,_⟩=>by rw[e];exact aE.of t) ?_ ?_
   . rintro j x g H2 hx ⟨rfl,l,rfl⟩;obtain⟨tt,M,ay⟩:=U.get' hx;rw[au]at M;obtain⟨dd,ba,rfl⟩:=cw.mp M;have hn:=hN _ (List.getElem_mem S) dd (bv ba);obtain⟨r,a3⟩:=Yb dd;obtain⟨a5,af,u5,rfl,ah,bb,aK⟩:=Is.at (K:=K) (i:=0) (t:=.str (dw dd)) (a3▸ay) J;cases(show u5=.str (dw dd)from aK);refine⟨a5,af,_,_,J,J,ah,bb,J,_,J,?_⟩;cases dd<;>first|exact hn.elim|exact yi ⟨J,_,J⟩
   rintro g H2 ⟨rfl,l,rfl⟩;refine⟨bF,λp hp=>?_⟩;have sp:=Same.new hp (.tup [.int 1,.int (F.length:Int)]);have W:=sp _ _ n;have av:p≠d:=λz=>by rw[z,n]at hp;cases hp
   refine⟨d,_,J,Q7.k (k:=(Sum.inl (m:Int):aJ)) W (xy (by omega)),⟨_,_,_,_,J⟩,(λb o e=>by rw[upd_ne (zj e hd)];exact sp _ _ (y _ _ e)),_,zd,?_,λj h1 h2=>?_⟩
   . have:=wc aw (Sum.inl (m:Int):aJ) (.ref p);omega
   rw[kj];by_cases ej:j=m
   . subst ej;exact⟨p,if_pos J,by rw[upd_ne av,zd,a8,G]⟩
   . obtain⟨q,a6,N⟩:=a7 j (by omega) h2;exact⟨q,by rw[if_neg (λz=>ej (by have:=Sum.inl.inj z;omega))];exact a6,by rw[upd_ne (Y8 N n (by intro z;cases z))];exact sp _ _ N⟩
 rintro σ C ⟨⟨x2,x3,x4,l,rfl⟩,y,hB⟩;rw[L,Nat.sub_self]at hB;exact k d C y hB
end
theorem Ae{f:Nat->Nat}{M:Nat}(h:∀i,f i<=M):∀n,0<=((List.range n).map λj=>(f j:Int)).sum/\((List.range n).map λj=>(f j:Int)).sum<=((M*n:Nat):Int)|0=>⟨dz _,dz _⟩| n+1=>by have:=Ae h n;have:=h n;rw[List.range_succ,ax,List.sum_append,Nat.mul_succ];simp only[c4,List.map_nil,List.sum_cons,List.sum_nil];omega
theorem xW{K:W.Frag}{h:Y}{xs:O V}{e:TE}{k:Nat}{d:L2.St}{Q:VK}(c:H h=some (.tup xs))(g:xs.length<=100){f:Nat->Nat}{M:Nat}(r:∀i,f i<=M)(hs:∀(i:Nat)(x:V)(R:VK),xs[i]?=some x->R (.int (f i:Int)) H->e ((bQ k cap d).set 0 (some x)) H R)(l:∀p (ns:O Int) H',Same H H'->aG K H' p (ns.map V.int)->(∀n∈ns,0<=n)->ns.sum<=((M*xs.length:Nat):Int)->Q (.ref p) H'):bX (nD K h) (js 0) nL e k cap d H Q:=by
 refine nX (xs:=xs) (λi a b=>b=H/\a=((List.range i).map λj=>(f j:Int)).map V.int) ⟨J,J⟩ (λi a b u ⟨t,s⟩=>⟨by rw[t];exact aE.of c,by rw[s,aa,aa,da];exact wz (by omega)⟩) ?_ ?_
 . rintro i x a b m ⟨rfl,rfl⟩;refine V3 (hs i x _ m ⟨J,?_⟩);rw[List.range_succ,ax,ax];rfl
 . rintro a b ⟨rfl,rfl⟩ p o;have q:=Ae r xs.length;refine l p _ _ (Same.new o _) (aG.of zd) (λn g=>?_) q.2;obtain⟨j,_,rfl⟩:=bu.mp g;exact Int.natCast_nonneg _
section
variable{K:W.Frag}
theorem W8:aA ["house","brought","hands","deeds"] ["house"] (zf Zj):=.of
theorem LF(D:bG K mg "is_small_enough" Zj)(T:Txt K mg)(o1:Ok P w K mg base "brought_by_scripts" 1 ["scripts"] mq):Ok P w K mg base "is_small_enough" 2 ["house"] (spT jX):=by
 refine wa (k:=1) D W8 ?_;rintro f bB A av s H vs Q E hr ⟨⟨h,v,rfl,ht,F⟩,k⟩ X;have hu:=ji hr;refine⟨_,zb (zo (i:=1) W8.nd (yc o1 hr (za (zr zt (pv 0) (y8 T.SCRIPTS)) zc))) (zb (zo (i:=2) W8.nd (yf (By J) J T.sum xJ (za (qc (own:=["calling"]) (cap:=[1]) J (yt (zf Zj) J J (by decide+kernel) (by decide+kernel) (by decide+kernel) ⟨⟨_,J,.inl J,v8 J⟩,trivial⟩) (j1 (zr zt (pv 0) (y8 T.FIRSTS))) (λ_ _ _ _=>zp (i:=0) (by show(["calling","brought"]:O Str).Nodup;decide+kernel)) (λ_ _ _ _=>xu)
   (λ_ _ _ _=>zr (r:=cO K) zt (wg hu (pv 1) (zr (r:=cO K) zt (pv 0) ze (λ_ _=>rfl))) ze (λ_ _=>rfl))) zc)))
  (zb (zo (i:=3) W8.nd (yf (By J) J T.sum xJ (za (qc (own:=["calling"]) (cap:=[1]) J (yt (zf Zj) J J (by decide+kernel) (by decide+kernel) (by decide+kernel) ⟨⟨_,J,.inl J,v8 J⟩,trivial⟩) (j1 (zr zt (pv 0) (y8 T.FIRSTS))) (λ_ _ _ _=>zp (i:=0) (by show(["calling","brought"]:O Str).Nodup;decide+kernel)) (λ_ _ _ _=>xu)
   (λ_ _ _ _=>zr (r:=cO K) zt (wg hu (pv 1) (zr (r:=cO K) zt (pv 0) ze (λ_ _=>rfl))) ze (λ_ _=>rfl))) zc)))
  (zg (zk (ky (qa Vw (pv 2) (y8 T.MOST_HANDS) (zu _)) (j3 (qa Vw (pv 3) (y8 T.MOST_DEEDS) (zu _)))))))),?_⟩
 obtain⟨a,xs,us,rfl,sq,ea,a5⟩:=Is.at (K:=K) (i:=3) ht J;refine⟨a,xs,_,_,J,J,sq,ea,h.ss,us,J,a5,F.n20,λs hs d hd=>(F.pl s hs d hd).no,λd H1 s1 ⟨bi,ba,bw,a8⟩=>?_⟩;have bx:=F.f17;have L:∀{G:Hp},Same H1 G->∃m n g,aE K G a m/\cE m ((2:Nat):Int)=some (.ref n)/\G n=some (.tup g)/\g.length<=17/\∀(i:Nat) x,g[i]?=some x->∃b r j p,x=.ref b/\G b=some (.tup (.int ((j:Nat):Int)::r))/\DGet G d (.int (j:Int)) (some (.ref p))/\G p=some (.tup [.int 1,.int ((h.ss.getD ((h.fs.getD i (0,[])).1) []).length:Int)]):=λ{G} W=>by obtain⟨a',m,uf,e',U,bd,a7⟩:=Is.at (K:=K) (i:=2) (ht.mono (s1.trans W)) J;cases e';obtain⟨n,g,rfl,bc,z⟩:=a7;have bb:=z.length;rw[aa]at bb;refine⟨m,n,g,U,bd,bc,by omega,λi x q=>?_⟩;obtain⟨tt,u,a3⟩:=z.get' q;rw[au]at u;obtain⟨c,hc,rfl⟩:=cw.mp u;obtain⟨p,t,y⟩:=a8 c.1 (be _) (F.call c (bv hc)).1;obtain⟨b,_,rfl,C,u6,r6,rfl,i6,_⟩:=a3;cases(show u6=.int (c.1:Int)from i6);exact⟨b,r6,c.1,p,J,C,t▸DGet.k (k:=(Sum.inl (c.1:Int):aJ)) (W _ _ ba),by rw[show h.fs.getD i (0,[])=c from by rw[c7,hc];rfl];exact W _ _ y⟩
 have l:∀i,(h.ss.getD ((h.fs.getD i (0,[])).1) []).length<=30:=λi=>by rw[c7];cases e:h.ss[(h.fs.getD i (0,[])).1]? with|none=>simp|some s=>exact F.len s (bv e)
 obtain⟨m,n,g,q1,q2,q3,q4,q5⟩:=L (Same.refl _);refine⟨a,m,_,_,J,J,q1,q2,n,J,⟨g,aE.of q3⟩,xW q3 (by omega) (f:=λ_=>1) (M:=1) (λ_=>ae _) (λi x R q kR=>?_) λp1 ay H2 s2 S aS bl=>⟨p1,ay,J,S,aS,by omega,?_⟩⟩
 . obtain⟨b,r,j,p,rfl,C,dg,y⟩:=q5 i x q;exact⟨b,_,0,_,J,J,aE.of C,(show cE (_::r) ((0:Nat):Int)=_ from y9 J),d,_,J,dg,p,_,_,_,J,J,aE.of y,J,kR⟩
 obtain⟨x3,bg,M,ap,ah,o,bh,Z⟩:=L s2;refine⟨a,x3,_,_,J,J,ap,ah,bg,J,⟨M,aE.of o⟩,xW o (by omega) (M:=30) l (λi x R q kR=>?_) λp2 aw H3 s3 N aK bk=>⟨p2,aw,J,N,aK,by omega,?_⟩⟩
 . obtain⟨b,r,j,p,rfl,C,dg,y⟩:=Z i x q;exact⟨b,_,0,_,J,J,aE.of C,(show cE (_::r) ((0:Nat):Int)=_ from y9 J),d,_,J,dg,p,_,_,_,J,J,aE.of y,J,kR⟩
 refine⟨_,_,J,J,_,J,?_⟩;rw[bj (by omega)];refine wf ⟨_,_,J,J,?_⟩;rw[bj (by omega)];exact k _ (s1.trans (s2.trans s3))
theorem Kp:aA ["deed","had","word"] ["deed","had"] (zf Yh):=.of
theorem Ms(D:bG K mg "is_allowed" Yh):Ok P w K mg base "is_allowed" 1 ["deed","had"] (spT Ct):=by
 refine wa (k:=0) D Kp ?_;rintro f n A b s H o Q E t ⟨⟨d,v,u,rfl,l,hn⟩,k⟩ X;refine⟨_,zb (zo (i:=2) Kp.nd (zr zt (pv 0) ze)) (zb (ye (zm Z8 (pv 2) (je (za zi (za zi zc))) J) yo zn) (zb (ye (zm y0 (pv 2) zi (zu _)) yo zn) (zb (ye (zm y0 (pv 2) zi (zu _)) yo zn) (zg (zk jy))))),?_⟩
 obtain⟨r,e⟩:=Yb d;obtain⟨a,g,q,rfl,h,m,c⟩:=Is.at (K:=K) (i:=0) (t:=.str (dw d)) (e▸l) J;cases(c);refine⟨a,g,_,_,J,J,h,m,(by decide),λp j=>⟨p,_,J,.inr (aE.of zd),J,J,_,J,?_⟩⟩;have i:=Same.new j (.tup [.str "come",.str "go"]);cases d<;>first|exact hn.elim|exact yi ⟨J,_,J,yi ⟨J,_,J,yi (k _ i)⟩⟩
theorem ur:aA ["scripts","calling","had","deed"] ["scripts","calling"] (zf sU):=.of
theorem Fl(D:bG K mg "fits" sU)(T:Txt K mg)(o1:Ok P w K mg base "is_allowed" 1 ["deed","had"] (spT Ct)):Ok P w K mg base "fits" 2 ["scripts","calling"] (spT Cp):=by
 refine wa (k:=1) D ur ?_;rintro f aS A M s H vs Q E hr ⟨⟨F,sv,c,cv,rfl,hs,o,p,hN⟩,k⟩ X;refine⟨_,zb (zo (i:=2) ur.nd (yx (JS J) J T.dict Ka (za (zr zt (pv 1) ze) zc))) (zb (wy PassesOwn.never J (j1 (zr zt (pv 0) (zr zt (pv 1) ze))) (zp (i:=3) ur.nd) (zb (ye (xt (y7 (yc o1 hr (za (pv 3) (za (pv 2) zc))))) yo zn) (zb (ye (zm y0 (zr zt (pv 3) ze) zi (zu _)) yo zn) (zg (ye (PW.pt (Qr (zm y0 (zr zt (pv 3) ze) zi (zu _)) (Vl (xt (y7 Y3))))) yo zn)))))
  (zg (zk jy))),?_⟩
 obtain⟨ac,xc,um,rfl,L,aK,S⟩:=Is.at (K:=K) (i:=1) (t:=nh []) o J;obtain⟨am,xm,rfl,aw,af⟩:=S;cases(show xm=[]from af);refine⟨ac,xc,_,_,J,J,L,aK,am,J,aw,λdh ap=>?_⟩;have v:=Same.new ap (.dK []);generalize upd H dh (.dK [])=H0 at v⊢;obtain⟨a3,z,un,e',h,q,R⟩:=Is.at (K:=K) (i:=0) (t:=.int (c:Int)) (o.mono v) J;cases e';cases(show un=.int (c:Int)from R);have W:F[c]?=some F[c]:=bo p;obtain⟨as,y,us,rfl,G,ay,N⟩:=Is.at (K:=K) (i:=c) (t:=eS F[c]) (hs.mono v) (by rw[au,W];rfl)
 obtain⟨ad,xd,rfl,a,ah⟩:=N;refine⟨ac,z,_,_,J,J,h,q,as,y,_,_,J,J,G,ay,ad,J,⟨xd,aE.of a⟩,?_⟩;refine V4 (K:=K) (a:=ad) (xs:=xd) (λi u H'=>(∃C,u=[some (.ref as),some (.ref ac),some (.ref dh),C])/\Same H0 H')
  ⟨⟨none,J⟩,Same.refl H0⟩ (λi u H' _ ⟨_,b⟩=>aE.of (b _ _ a)) ?_ (λu H1 ⟨⟨C,e⟩,b⟩=>by subst e;exact k H1 (v.trans b))
 rintro i x u H1 hx ⟨⟨C,rfl⟩,b⟩;obtain⟨tt,n,m⟩:=ah.get' hx;rw[au]at n;obtain⟨d,av,rfl⟩:=cw.mp n;have hn:=hN _ (List.getElem_mem p) d (bv av);refine⟨⟨d,x,.ref dh,J,m.mono b,hn⟩,λH2 s2=>⟨_,J,yi ?_⟩⟩;have l:=b.trans s2;obtain⟨r,Z⟩:=Yb d;obtain⟨a5,g,u5,rfl,j,t,U⟩:=Is.at (K:=K) (i:=0) (t:=.str (dw d)) (Z▸m.mono l) J;cases(show u5=.str (dw d)from U);refine⟨a5,g,_,_,J,J,j,t,J,_,J,?_⟩;cases d<;>first|exact hn.elim|exact yi ⟨a5,g,_,_,J,J,j,t,J,_,J,yi (yi ⟨⟨_,J⟩,l⟩)⟩
theorem HV:aA ["thing"] ["thing"] (zf Yf):=.of
theorem LT(D:bG K mg "is_house" Yf)(T:Txt K mg)(o1:Ok P w K mg base "is_well_formed" 9 ["thing"] (spT jX))(o2:Ok P w K mg base "is_small_enough" 2 ["house"] (spT jX))(o3:Ok P w K mg base "fits" 2 ["scripts","calling"] (spT Cp)):Ok P w K mg base "is_house" 22 ["thing"] (spT jX):=by
 refine wa (k:=21) D HV ?_;rintro f ap A o s H vs Q E u ⟨⟨h,v,rfl,l,F⟩,k⟩ X;refine⟨_,zb (ye (PW.pt (Xz (xt (y7 (yc o1 (u.mono (by decide)) (za (pv 0) zc)))) (Z1 (xt (y7 (yc o2 (u.mono (by decide)) (za (pv 0) zc))))))) (zg (zk jy)) zn) (zg (zk (yf (kx J) J T.all Xk (za (qc (own:=["calling"]) (cap:=[0]) J (yt (zf Yf) J J (by decide+kernel) (by decide+kernel) (by decide+kernel) ⟨⟨_,J,.inl J,v8 J⟩,trivial⟩) (j1 (zr zt (pv 0) (y8 T.FIRSTS))) (λ_ _ _ _=>zp (i:=0) (by show(["calling","thing"]:O Str).Nodup;decide+kernel)) (λ_ _ _ _=>xu)
   (λ_ _ _ _=>yc o3 (u.mono (by decide)) (za (zr (r:=cO K) zt (pv 1) (y8 T.SCRIPTS) (λ_ _=>rfl)) (za (pv 0) zc)))) zc)))),?_⟩
 refine⟨⟨h,v,J,l,F⟩,λH1 L=>⟨_,J,yi ⟨⟨h,v,J,l.mono L,F⟩,λH2 W=>⟨_,J,yi ?_⟩⟩⟩⟩;have b:=L.trans W;obtain⟨a,M,uf,rfl,U,ea,t⟩:=Is.at (i:=2) (l.mono b) J;obtain⟨af,N,rfl,j,g⟩:=t;have y:=g.length;rw[aa]at y;have ah:=F.f17;refine⟨a,M,_,_,J,J,U,ea,af,J,⟨N,aE.of j⟩,ud j (by omega) (λi x C R hx G kk=>?_) λC Z=>k C (b.trans Z)⟩;obtain⟨tt,e,p⟩:=g.get' hx;rw[au]at e;obtain⟨c,hc,rfl⟩:=cw.mp e;obtain⟨c1,c2⟩:=F.call c (bv hc);obtain⟨a',m,S,e',n,z,r⟩:=Is.at (i:=3) (l.mono (b.trans G)) J;cases e';have q:Is C (eC (c.1,[])) x:=c2▸p.mono G;exact⟨a,m,_,_,J,J,n,z,⟨h.ss,S,c.1,x,J,r,q,c1,λs hs d hd=>(F.pl s hs d hd).no⟩,kk⟩
end
noncomputable def xx:Stmt->List Stmt|.ClassDef _ _ _ b _ _ _ _ _ _ _=>b|_=>[]
noncomputable def dH:Stmt:=.Pass ⟨0,0,0,0⟩
noncomputable def Ef:Stmt:=aX 66
noncomputable abbrev Wb:Stmt:=(xx Ef).getD 0 dH
noncomputable abbrev Kt:Stmt:=aX 67
noncomputable def aT:List Str:=["calling","script","call","begins","needs","came"]
structure aH(K:W.Frag)(C:Addr)(fs:List Str):Prop where
 cls:ge K C
 no:∀f∈fs,Yt K C f
theorem aH.n{K:W.Frag}{C:Y}{fs:O Str}(c:aH K C fs)(h:f∈fs:=by decide+kernel):Yt K C f:=c.no f h
def eX(P:Program)(w:World)(K:W.Frag)(mg:Str->Option Value)(base:Heap)(x:Str)(C:Addr)(k:Nat)(ps:List Str)(sp:Sp):Prop:=∃f fd,cF P w K mg base fR k f fd ps sp/\Yc K fd ps []/\Mk K C f/\mg x=some (.ref C)
def bU(P:Program)(w:World)(K:W.Frag)(mg:Str->Option Value)(base:Heap)(C:Addr)(m:Str)(k:Nat)(ps:List Str)(sp:Sp):Prop:=∃f fd,cF P w K mg base fR k f fd ps sp/\Yc K fd ps []/\iJ K C m f
def kB(K:W.Frag)(mg:Str->Option Value)(x q:Str)(C:Addr)(st:Stmt):Prop:=∃f fd,iK K "__init__" q st f fd/\Mk K C f/\mg x=some (.ref C)
def qk(K:W.Frag)(C:Addr)(m q:Str)(st:Stmt):Prop:=∃f fd,iK K m q st f fd/\iJ K C m f
noncomputable def lb(U vs G:V)(ab Z ac:Addr):List (Str×V):=[("calling",U),("script",vs),("call",G),("begins",.ref ab),("needs",.ref Z),("came",.ref ac)]
inductive lS(cR:Addr)(xs:List V)(H:Hp)(Q:VK)(e0:XK):Prop|mk:∀(x dx:Addr)(vc vs vl:V),xs=[.ref x,vc,vs,vl]->H x=some (.ins cR dx [])->(∀ab an ac H',ab≠ac->H ab=none->H an=none->H ac=none->(∀b o,b≠x->H b=some o->H' b=some o)->H' x=some (.ins cR dx (lb vc vs vl ab an ac))->H' ab=some (.dK [])->H' an=some (.lst [])->H' ac=some (.dT [])->Q .non H')->lS cR xs H Q e0
theorem y6{g:Str}{v:V}{r:O (Str×V)}(h:g≠f):qb f v ((g,x)::r)=(g,x)::qb f v r:=if_neg h
section
variable{K:W.Frag}
theorem LZ:aA ["self","calling","script","call"] ["self","calling","script","call"] (zf Wb):=.of
theorem LK{cR:Y}(D:kB K mg "Role" "Role.__init__" cR Wb)(C:aH K cR aT):eX P w K mg base "Role" cR 1 ["self","calling","script","call"] (lS cR):=by
 obtain⟨f,fd,F,M,hm⟩:=D;refine⟨f,fd,F.ok LZ (λc H Q E h=>by cases h;subst_vars;rfl) (λap A af s H c Q E hr h=>?_),F.binds (λ_ _ _ _ _ _ us hl=>(by obtain⟨_,_,_,_,rfl⟩:=B7 hl;rfl)),M,hm⟩;obtain⟨x,d,a,c,i,rfl,hx,kk⟩:=h;refine⟨_,zb (vb (pv 0) (pv 1) J) (zb (vb (pv 0) (pv 2) J) (zb (vb (pv 0) (pv 3) J) (zb (vb (pv 0) Vt J) (zb (vb (pv 0) (Qv zc) J) (zg (vb (pv 0) Y5 J)))))),?_⟩;have n:=λg hg=>C.no g hg;refine⟨x,cR,d,[],J,hx,C.cls,n _ (by simp[aT]),(by simp),?_⟩;rw[show qb "calling" (a) []=[(("calling":Str),a)] by rfl];have g1:upd H x (.ins cR d [(("calling":Str),a)]) x=some (.ins cR d [(("calling":Str),a)]):=zd;have w1:∀b o,b≠x->H b=some o->upd H x (.ins cR d [(("calling":Str),a)]) b=some o:=λb o z e=>by rw[upd_ne z];exact e
 generalize upd H x (.ins cR d [(("calling":Str),a)])=H1 at g1 w1⊢;refine⟨x,cR,d,[(("calling":Str),a)],J,g1,C.cls,n _ (by simp[aT]),(by simp),?_⟩;rw[show qb "script" (c) [(("calling":Str),a)]=[(("calling":Str),a),("script",c)] by rfl];have g2:upd H1 x (.ins cR d [(("calling":Str),a),("script",c)]) x=some (.ins cR d [(("calling":Str),a),("script",c)]):=zd;have w2:∀b o,b≠x->H1 b=some o->upd H1 x (.ins cR d [(("calling":Str),a),("script",c)]) b=some o:=λb o z e=>by rw[upd_ne z];exact e
 generalize upd H1 x (.ins cR d [(("calling":Str),a),("script",c)])=H2 at g2 w2⊢;refine⟨x,cR,d,[(("calling":Str),a),("script",c)],J,g2,C.cls,n _ (by simp[aT]),(by simp),?_⟩;rw[show qb "call" (i) [(("calling":Str),a),("script",c)]=[(("calling":Str),a),("script",c),("call",i)] by rfl];have g3:upd H2 x (.ins cR d [(("calling":Str),a),("script",c),("call",i)]) x=some (.ins cR d [(("calling":Str),a),("script",c),("call",i)]):=zd;have w3:∀b o,b≠x->H2 b=some o->upd H2 x (.ins cR d [(("calling":Str),a),("script",c),("call",i)]) b=some o:=λb o z e=>by rw[upd_ne z];exact e
 generalize upd H2 x (.ins cR d [(("calling":Str),a),("script",c),("call",i)])=H3 at g3 w3⊢;intro j N;have p:j≠x:=λz=>by simp_all
 have t3:∀b o,H3 b=some o->upd H3 j (.dK []) b=some o:=λb o e=>by rw[upd_ne (zj e N)];exact e
 have u3:upd H3 j (.dK []) j=some (.dK []):=zd;generalize upd H3 j (.dK [])=W at t3 u3⊢;refine⟨x,cR,d,[(("calling":Str),a),("script",c),("call",i)],J,t3 _ _ g3,C.cls,n _ (by simp[aT]),(by simp),?_⟩;rw[show qb "begins" (.ref j) [(("calling":Str),a),("script",c),("call",i)]=[(("calling":Str),a),("script",c),("call",i),("begins",.ref j)] by rfl];have g4:upd W x (.ins cR d [(("calling":Str),a),("script",c),("call",i),("begins",.ref j)]) x=some (.ins cR d [(("calling":Str),a),("script",c),("call",i),("begins",.ref j)]):=zd;have R:∀b o,b≠x->W b=some o->upd W x (.ins cR d [(("calling":Str),a),("script",c),("call",i),("begins",.ref j)]) b=some o:=λb o z e=>by rw[upd_ne z];exact e
 generalize upd W x (.ins cR d [(("calling":Str),a),("script",c),("call",i),("begins",.ref j)])=Z at g4 R⊢;refine⟨(by simp),λm L=>?_⟩;have r:m≠x:=λz=>by simp_all
 have t4:∀b o,Z b=some o->upd Z m (.lst []) b=some o:=λb o e=>by rw[upd_ne (zj e L)];exact e
 have u4:upd Z m (.lst []) m=some (.lst []):=zd;generalize upd Z m (.lst [])=U at t4 u4⊢;refine⟨x,cR,d,[(("calling":Str),a),("script",c),("call",i),("begins",.ref j)],J,t4 _ _ g4,C.cls,n _ (by simp[aT]),(by simp),?_⟩;rw[show qb "needs" (.ref m) [(("calling":Str),a),("script",c),("call",i),("begins",.ref j)]=[(("calling":Str),a),("script",c),("call",i),("begins",.ref j),("needs",.ref m)] by rfl];have g5:upd U x (.ins cR d [(("calling":Str),a),("script",c),("call",i),("begins",.ref j),("needs",.ref m)]) x=some (.ins cR d [(("calling":Str),a),("script",c),("call",i),("begins",.ref j),("needs",.ref m)]):=zd;have w5:∀b o,b≠x->U b=some o->upd U x (.ins cR d [(("calling":Str),a),("script",c),("call",i),("begins",.ref j),("needs",.ref m)]) b=some o:=λb o z e=>by rw[upd_ne z];exact e
 generalize upd U x (.ins cR d [(("calling":Str),a),("script",c),("call",i),("begins",.ref j),("needs",.ref m)])=X at g5 w5⊢;intro ac t;have u:ac≠x:=λz=>by simp_all
 have t5:∀b o,X b=some o->upd X ac (.dT []) b=some o:=λb o e=>by rw[upd_ne (zj e t)];exact e
 have u5:upd X ac (.dT []) ac=some (.dT []):=zd;generalize upd X ac (.dT [])=S at t5 u5⊢;refine⟨x,cR,d,[(("calling":Str),a),("script",c),("call",i),("begins",.ref j),("needs",.ref m)],J,t5 _ _ g5,C.cls,n _ (by simp[aT]),(by simp),?_⟩;rw[show qb "came" (.ref ac) [(("calling":Str),a),("script",c),("call",i),("begins",.ref j),("needs",.ref m)]=[(("calling":Str),a),("script",c),("call",i),("begins",.ref j),("needs",.ref m),("came",.ref ac)] by rfl];have g6:upd S x (.ins cR d [(("calling":Str),a),("script",c),("call",i),("begins",.ref j),("needs",.ref m),("came",.ref ac)]) x=some (.ins cR d [(("calling":Str),a),("script",c),("call",i),("begins",.ref j),("needs",.ref m),("came",.ref ac)]):=zd;have w6:∀b o,b≠x->S b=some o->upd S x (.ins cR d [(("calling":Str),a),("script",c),("call",i),("begins",.ref j),("needs",.ref m),("came",.ref ac)]) b=some o:=λb o z e=>by rw[upd_ne z];exact e
 generalize upd S x (.ins cR d [(("calling":Str),a),("script",c),("call",i),("begins",.ref j),("needs",.ref m),("came",.ref ac)])=H6 at g6 w6⊢;have k3:=λb o z e=>w3 b o z (w2 b o z (w1 b o z e));have k4:=λb o z e=>R b o z (t3 b o e);have k5:=λb o z e=>w5 b o z (t4 b o e);have k6:=λb o z e=>w6 b o z (t5 b o e);have l:∀{b:Y}{G:Hp},b≠x->(∀b o,b≠x->H b=some o->G b=some o)->G b=none->H b=none:=λ{b G} z h e=>by cases q:H b with|none=>rfl|some o=>simp_all
 have ah:=k3;have y:=λb o z e=>k4 b o z (k3 b o z e);have v:=λb o z e=>k5 b o z (y b o z e);exact kk j m ac H6 (zj (k5 _ _ p (R _ _ p u3)) t) (l p ah N) (l r y L) (l u v t) (λb o z e=>k6 b o z (v b o z e)) g6 (k6 _ _ p (k5 _ _ p (R _ _ p u3))) (k6 _ _ r (w5 _ _ r u4)) (w6 _ _ u u5)
end
noncomputable def Z9:aI->V|.awa _ m=>.int m|_=>.non
inductive lW(vs:List V)(H:Hp)(Q:VK)(e0:XK):Prop|mk:∀(d:aI)(v tv:V),vs=[v,tv]->Is H (eD d) v->gy d->Q (Z9 d) H->lW vs H Q e0
section
variable{K:W.Frag}
theorem IX:aA ["deed","tally"] ["deed","tally"] (zf Kt):=.of
theorem JL(D:bG K mg "need_of" Kt):Ok P w K mg base "need_of" 1 ["deed","tally"] lW:=by
 refine wa D IX ?_;rintro f x A i s H y Q E G ⟨d,v,F,rfl,t,j,k⟩ X;refine⟨_,zb (ye (zm y0 (zr zt (pv 0) ze) zi (zu _)) (zg (zk (zr zt (pv 0) ze))) zn) (zb (ye (zm y0 (zr zt (pv 0) ze) zi (zu _)) yo zn) (zg (zk Z2))),?_⟩
 obtain⟨r,o⟩:=Yb d;obtain⟨q,a,C,rfl,c,e,n⟩:=Is.at (i:=0) (o▸t) J;cases(n);refine⟨q,a,_,_,J,J,c,e,J,_,J,?_⟩;cases d with| awa b m=>refine wf ?_;obtain⟨L,g,z,u,h,p,l⟩:=Is.at (i:=2) t J;cases u;cases(l);exact⟨q,g,_,_,J,J,h,p,k⟩|goo w=>exact j.elim|com w=>exact j.elim|lea w=>exact j.elim|_=>exact yi ⟨q,a,_,_,J,J,c,e,J,_,J,yi k⟩
end
theorem xa{a:Hp}(s:Same H a){l:Addr}(h:a l=none):H l=none:=by cases e:H l with|none=>rfl|some o=>rw[s l o e]at h;cases h
noncomputable abbrev Xn:Stmt:=aX 46
noncomputable abbrev Ku:Stmt:=aX 72
noncomputable def pP:aI->Option Str|.say x=>some x|_=>none
noncomputable def k8(s:yz):List Str:=s.filterMap pP
theorem Ld{s:yz}{i:Nat}{d:aI}(h:s[i]?=some d):k8 (s.take (i+1))=k8 (s.take i)++(pP d).toList:=by unfold k8;rw[cq,h,List.filterMap_append];cases e:pP d with|none=>simp[e]|some x=>simp[e]
theorem IV(s:yz):(k8 s).length<=s.length:=List.length_filterMap_le ..
inductive jK(vs:List V)(H:Hp)(Q:VK)(e0:XK):Prop|mk:∀(v:V)(ds:yz),vs=[v]->Is H (eS ds) v->ds.length<=1000->(∀l H',Same H H'->H l=none->H' l=some (.lst ((k8 ds).map V.str))->Q (.ref l) H')->jK vs H Q e0
inductive ma(vs:List V)(H:Hp)(Q:VK)(e0:XK):Prop|mk:∀l n:Int,vs=[.int l,.int n]->Q (.bl (decide (n<=l))) H->ma vs H Q e0
section
variable{K:W.Frag}
theorem Lm:aA ["deeds"] ["deeds"] (zf Xn):=.of
theorem Lu(D:bG K mg "said_in" Xn)(T:Txt K mg):Ok P w K mg base "said_in" 1 ["deeds"] jK:=by
 refine wa D Lm ?_;rintro f af A y s H vs Q E hr ⟨v,m,rfl,iv,hl,kk⟩ X;refine⟨_,zg (zk (qc (own:=["deed"]) (cap:=[]) J (yt (zf Xn) J J (by decide+kernel) (by decide+kernel) (by decide+kernel) trivial) (j1 (pv 0)) (λ_ _ _ _=>zp (i:=0) (by show(["deed"]:List Str).Nodup;decide+kernel)) (λ_ _ _ _=>jp (zm y0 (zr (r:=cO K) zt (pv 0) ze (λ_ _=>rfl)) zi (zu _))) (λ_ _ _ _=>zr (r:=cO K) zt (pv 0) ze (λ_ _=>rfl)))),?_⟩
 obtain⟨a,xs,rfl,U,R⟩:=iv;have c:=R.length;rw[aa]at c;refine⟨a,J,⟨xs,aE.of U⟩,?_⟩;refine nX (λi j n=>Same H n/\j=(k8 (m.take i)).map V.str) ⟨Same.refl H,J⟩ (λi j n S ⟨b,e⟩=>⟨aE.of (b _ _ U),?_⟩) ?_ ?_;rw[e,aa];refine c9 (IV _) ?_;have:=List.length_take_le i m;rw[sizeLine_eq];omega;rintro i z j n N ⟨b,rfl⟩;have S:i<m.length:=by rw[<-c];exact(ci.mp N).1
 have Z:=bo S;obtain⟨t,W,g⟩:=R.get' N;rw[au,Z]at W;cases W;have g:=g.mono b;rw[Ld Z];generalize m[i]=d at g⊢;obtain⟨r,G⟩:=Yb d;obtain⟨a5,p,u5,rfl,u,M,F⟩:=Is.at (i:=0) (G▸g) J;cases(F);refine⟨a5,p,_,_,J,J,u,M,J,_,J,?_⟩;cases d with| say x=>refine wf ?_;obtain⟨a6,o,u6,e6,q,L,C⟩:=Is.at (i:=1) g J;cases e6;cases(C);exact⟨a5,o,_,_,J,J,q,L,b,by rw[ax];rfl⟩|_=>exact yi ⟨b,by rw[show(pP _).toList=[]from rfl,cp]⟩
 rintro j n ⟨b,rfl⟩ l h;rw[c,cr];exact kk l _ (b.trans (Same.new h _)) (xa b h) zd
theorem IW:aA ["level","need"] ["level","need"] (zf Ku):=.of
end
section
variable{K:W.Frag}
theorem JK(D:bG K mg "is_met" Ku):Ok P w K mg base "is_met" 1 ["level","need"] ma:=by refine wa D IW ?_;rintro f b A a s H c Q E d ⟨l,n,rfl,k⟩ X;refine⟨_,zg (zk (pS (tz (qC (pv 0))) (j3 (qa rZ (pv 0) (pv 1) (zu _))))),?_⟩;exact⟨_,J,yi ⟨_,_,J,J,k⟩⟩
end
end My
namespace My
structure dG(A D:Type) where
 scr:A->List D
 bg:A->Nat->Option A
 ra:D->Option (Nat×Int)
 aw:D->Option (Nat×Int)
section
variable{A D:Type}[DecidableEq A]
noncomputable def yb(l:List (A×Nat))(h:A):Nat:=match l with|[]=>0|(g,n)::r=>if g=h then n else yb r h
noncomputable def vm(l:List (A×Nat))(h:A)(n:Nat):List (A×Nat):=match l with|[]=>[(h,n)]|(g,m)::r=>if g=h then(g,n)::r else(g,m)::vm r h n
noncomputable def zh(l:List (A×Nat)):List A:=l.map (·.1)
noncomputable def Ws(l:List (A×Nat)):Nat:=(l.map (·.2)).sum
theorem Xv{h:A}:∀{l:List (A×Nat)},h ∉ zh l->yb l h=0|[],_=>rfl| (g,m)::r,hn=>by have b:g≠h:=λe=>hn (by rw[<-e];exact bp);unfold yb;rw[if_neg b];exact Xv λa=>hn (bq _ a)
theorem Zz{h:A}{n:Nat}:∀{l:List (A×Nat)},h∈zh l->zh (vm l h n)=zh l
 |[],a=>nomatch a
 | (g,m)::r,a=>by
   unfold vm;by_cases c:g=h;rw[if_pos c];rfl;rw[if_neg c];have:h∈zh r:=by
    rcases ag.mp a with e|e
    simp_all
    exact e
   show g::zh (vm r h n)=g::zh r;rw[Zz this]
theorem Vm{h:A}{n:Nat}:∀{l:List (A×Nat)},h ∉ zh l->vm l h n=l++[(h,n)]|[],_=>rfl| (g,m)::r,hn=>by have b:g≠h:=λe=>hn (by rw[<-e];exact bp);unfold vm;rw[if_neg b,Vm λa=>hn (bq _ a)];rfl
theorem ke{h:A}{n:Nat}(x:A):∀{l:List (A×Nat)},yb (vm l h n) x=if h=x then n else yb l x
 |[]=>by rfl
 | (g,m)::r=>by
   unfold vm;by_cases c:g=h;rw[if_pos c];subst c;unfold yb
   simp_all
   rw[if_neg c];unfold yb;by_cases e:g=x;rw[if_pos e,if_pos e,if_neg (λz=>c (e.trans z.symm))];rw[if_neg e,if_neg e];exact ke x
theorem Ad{h:A}{n:Nat}:∀{l:List (A×Nat)},h∈zh l->Ws (vm l h n)+yb l h=Ws l+n
 |[],a=>nomatch a
 | (g,m)::r,a=>by
   unfold vm yb;by_cases c:g=h;rw[if_pos c,if_pos c];show(n+Ws r)+m=(m+Ws r)+n;omega;rw[if_neg c,if_neg c];have:h∈zh r:=by
    rcases ag.mp a with e|e
    simp_all
    exact e
   have q:=Ad (n:=n) this;show(m+Ws (vm r h n))+yb r h=(m+Ws r)+n;omega
theorem HH{l:O (A×Nat)}{h:A}{n:Nat}:Ws (l++[(h,n)])=Ws l+n:=by unfold Ws;simp
theorem Iu{l:O (A×Nat)}{h:A}{n:Nat}:zh (l++[(h,n)])=zh l++[h]:=by unfold zh;simp
theorem Gm{h:A}{n:Nat}(x:A){l:O (A×Nat)}(a:h ∉ zh l):yb (l++[(h,n)]) x=if h=x then n else yb l x:=by rw[<-Vm a];exact ke x
theorem yG{f:A->Nat}:∀{l:List (A×Nat)},(zh l).Nodup->(∀h∈zh l,yb l h<=f h)->Ws l<=((zh l).map f).sum
 |[],_,_=>ae _
 | (g,m)::r,d,c=>by
   have a:=bz.mp d;have i:yb ((g,m)::r) g=m:=by unfold yb;rw[if_pos J]
   have j:=c g bp;rw[i]at j;have n:=yG a.2 λh b=>by have e:g≠h:=λz=>a.1 (by rw[z];exact b);have q:=c h (bq _ b);unfold yb at q;rw[if_neg e]at q;exact q
   show m+Ws r<=f g+((zh r).map f).sum;omega
theorem W4{f:A->Nat}:∀{l all:List A},l.Nodup->(∀x∈l,x∈all)->(l.map f).sum<=(all.map f).sum
 |[],_,_,_=>be _
 | x::r,all,b,d=>by
   have a:=bz.mp b;have c:=d x bp;have q:(r.map f).sum<=((all.erase x).map f).sum:=W4 a.2 λy e=>by grind
   have p:=(List.perm_cons_erase c).map f
   grind
noncomputable def Yw(l:List (Nat×List A))(b:Nat):List A:=match l with|[]=>[]|(c,hs)::r=>if c=b then hs else Yw r b
noncomputable def Zg(l:List (Nat×List A))(b:Nat):List (Nat×List A):=match l with|[]=>[]|(c,hs)::r=>if c=b then r else(c,hs)::Zg r b
noncomputable def jv(l:List (Nat×List A))(b:Nat)(h:A):List (Nat×List A):=match l with|[]=>[(b,[h])]|(c,hs)::r=>if c=b then(c,hs++[h])::r else(c,hs)::jv r b h
noncomputable def jz(l:List (Nat×List A)):Nat:=(l.map (·.2.length)).sum
def eY(l:List (Nat×List A))(p:A->Prop):Prop:=∀r∈l,∀h∈r.2,p h
theorem Kc{b:Nat}:∀{l:List (Nat×List A)},jz (Zg l b)+(Yw l b).length=jz l|[]=>rfl| (c,a)::r=>by unfold Zg Yw;by_cases e:c=b;rw[if_pos e,if_pos e];show jz r+a.length=a.length+jz r;omega;rw[if_neg e,if_neg e];have q:=Kc (b:=b) (l:=r);show a.length+jz (Zg r b)+_=a.length+jz r;omega
theorem Bk{b:Nat}{h:A}:∀{l:List (Nat×List A)},jz (jv l b h)=jz l+1
 |[]=>rfl
 | (c,a)::r=>by
   unfold jv;by_cases e:c=b;rw[if_pos e];show(a++[h]).length+jz r=a.length+jz r+1
   grind
   rw[if_neg e];have q:=Bk (b:=b) (h:=h) (l:=r);show a.length+jz (jv r b h)=a.length+jz r+1;omega
theorem Bh{b:Nat}{p:A->Prop}:∀{l:List (Nat×List A)},eY l p->∀h∈Yw l b,p h|[],_,_,a=>nomatch a| (c,g)::r,d,h,a=>by unfold Yw at a;by_cases e:c=b;rw[if_pos e]at a;exact d _ bp h a;rw[if_neg e]at a;exact Bh (λx f=>d x (bq _ f)) h a
theorem Bg{b:Nat}{p:A->Prop}:∀{l:List (Nat×List A)},eY l p->eY (Zg l b) p|[],a=>a| (c,g)::r,a=>by unfold Zg;by_cases e:c=b;rw[if_pos e];exact λx d=>a x (bq _ d);rw[if_neg e];intro x d;rcases ag.mp d with z|z;rw[z];exact a _ bp;exact Bg (λy f=>a y (bq _ f)) x z
theorem Bf{b:Nat}{h:A}{p:A->Prop}(g:p h):∀{l:List (Nat×List A)},eY l p->eY (jv l b h) p
 | [],_=>λx d y a=>by
   rw[ak.mp d]at a
   simp_all
 | (c,i)::r,f=>by
   unfold jv;by_cases e:c=b;rw[if_pos e];intro x d y a;rcases ag.mp d with z|z;rw[z]at a;rcases ce.mp a with q|q;exact f _ bp y q
   simp_all
   exact f x (bq _ z) y a;rw[if_neg e];intro x d;rcases ag.mp d with z|z;rw[z];exact f _ bp;exact Bf g (λy a=>f y (bq _ a)) x z
structure WS(A:Type) where
 done:List (A×Nat)
 sums:List Int
 ready:List A
 wait:List (Nat×List A)
 stop:List A
 wov:List A
variable(M:dG A D)
noncomputable def dW(s:WS A)(h:A):Option D:=(M.scr h)[yb s.done h]?
noncomputable def Yl(s:WS A)(h:A):Bool:=match dW M s h with|none=>false| some d=>match M.aw d with|none=>true|some (b,m)=>decide (m<=s.sums.getD b 0)
noncomputable def pc(l:List (A×Nat))(g:Option A):List (A×Nat):=match g with|none=>l|some g=>vm l g 0
noncomputable def aO(l:List Int)(r:Option (Nat×Int)):List Int:=match r with|none=>l|some (b,k)=>l.set b (l.getD b 0+k)
noncomputable def Zo(s:WS A)(h:A):List (A×Nat):=pc (vm s.done h (yb s.done h+1)) (M.bg h (yb s.done h))
noncomputable def kh(s:WS A)(r:Option (Nat×Int)):List A:=match r with|none=>[]|some (b,_)=>Yw s.wait b
noncomputable def qm(s:WS A)(r:Option (Nat×Int)):List (Nat×List A):=match r with|none=>s.wait|some (b,_)=>Zg s.wait b
noncomputable def Z5(s:WS A)(h:A)(d:D):WS A:={ done:=Zo M s h,sums:=aO s.sums (M.ra d),ready:=s.ready++kh s (M.ra d)++[h]++(M.bg h (yb s.done h)).toList,wait:=qm s (M.ra d),stop:=s.stop,wov:=s.wov++[h]}
noncomputable def q8(held:A->Nat->Bool)(s:WS A)(h:A):WS A:=
 match dW M s h with
 |none=>if held h (yb s.done h)then{s with stop:=s.stop++[h]}else s
 | some d=>
   if held h (yb s.done h)then{s with stop:=s.stop++[h]}
   else if Yl M s h then Z5 M s h d
   else match M.aw d with
    |some (b,_)=>{s with wait:=jv s.wait b h}
    |none=>s
structure Wv(all:List A)(s:WS A):Prop where
 nd:(zh s.done).Nodup
 sub:∀h∈zh s.done,h∈all
 rdy:∀h∈s.ready,h∈zh s.done
 wai:eY s.wait (· ∈zh s.done)
 low:∀h∈zh s.done,yb s.done h<=(M.scr h).length
 bgn:∀h g p,M.bg h p=some g->g∈zh s.done->h∈zh s.done/\p<yb s.done h
 len:s.ready.length+jz s.wait+s.stop.length<=s.done.length
 wov:s.wov.length=Ws s.done
 cnt:∀h,s.wov.count h=yb s.done h
structure uZ(all:List A):Prop where
 inj:∀h p h' p' g,M.bg h p=some g->M.bg h' p'=some g->h=h'/\p=p'
 new:∀h p g,M.bg h p=some g->g∈all/\g≠h
 nd:all.Nodup
noncomputable def tot(all:List A):Nat:=(all.map λh=>(M.scr h).length).sum
theorem Wv.most{all:O A}{s:WS A}(W:Wv M all s):s.wov.length<=tot M all:=by rw[W.wov];exact c9 (yG W.nd W.low) (W4 W.nd W.sub)
theorem sC{all:O A}{s:WS A}(W:Wv M all s):s.done.length<=all.length:=by
 have q:=W4 (f:=λ_=>1) W.nd W.sub;have e:∀l:O A,(l.map λ_=>1).sum=l.length:=λl=>by induction l with|nil=>rfl|cons a r b=>grind
 rw[e,e]at q;unfold zh at q
 simp_all
noncomputable def Qz(all:List A)(s:WS A):Nat:=(tot M all-s.wov.length)*(all.length+1)+s.ready.length
theorem uB{l:O (A×Nat)}:(zh l).length=l.length:=aa ..
variable{M}
theorem Wv.pop{all:O A}{s:WS A}(W:Wv M all s){r:O A}{h:A}(b:s.ready=r++[h]):Wv M all {s with ready:=r}/\h∈zh s.done/\r.length+jz s.wait+s.stop.length+1<=s.done.length:=by
 have a:=W.len;rw[b,cj]at a;have c:r.length+1+jz s.wait+s.stop.length<=s.done.length:=a;refine⟨⟨W.nd,W.sub,λx d=>W.rdy x (by simp_all),W.wai,W.low,W.bgn,?_,W.wov,W.cnt⟩,W.rdy h (by simp_all),by omega⟩
 grind
theorem KU(l:O A)(h x:A):(l++[h]).count x=l.count x+if h=x then 1 else 0:=by grind
theorem Wv.step{all:List A}{s:WS A}(P:uZ M all)(W:Wv M all s){h:A}{d:D}(hk:h∈zh s.done)(hl:s.ready.length+jz s.wait+s.stop.length+1<=s.done.length)(C:dW M s h=some d):Wv M all (Z5 M s h d):=by
 have S:=(ci.mp C).1;have f:zh (vm s.done h (yb s.done h+1))=zh s.done:=Zz hk;have Q:(vm s.done h (yb s.done h+1)).length=s.done.length:=by rw[<-uB,f,uB]
 have N:=Ad (n:=yb s.done h+1) hk;have K:(kh s (M.ra d)).length+jz (qm s (M.ra d))=jz s.wait:=by
  cases M.ra d with
  |none=>exact Nat.zero_add _
  |some p=>have:=Kc (b:=p.1) (l:=s.wait);show(Yw s.wait p.1).length+jz (Zg s.wait p.1)=_;omega
 have L:∀x∈kh s (M.ra d),x∈zh s.done:=by
  cases M.ra d with
  |none=>exact λx a=>nomatch a
  |some p=>exact λx a=>Bh W.wai x a
 have t:eY (qm s (M.ra d)) (· ∈zh s.done):=by
  cases M.ra d with
  |none=>exact W.wai
  |some p=>exact Bg W.wai
 have H:∀x,(s.wov++[h]).count x=yb (vm s.done h (yb s.done h+1)) x:=λx=>by
  rw[KU,ke,W.cnt]
  grind
 have u:(s.wov++[h]).length=Ws (vm s.done h (yb s.done h+1)):=by
  rw[cj,W.wov]
  grind
 cases m:M.bg h (yb s.done h)with
 | none=>
   have e:Z5 M s h d={done:=vm s.done h (yb s.done h+1),sums:=aO s.sums (M.ra d),ready:=s.ready++kh s (M.ra d)++[h]++[],wait:=qm s (M.ra d),stop:=s.stop,wov:=s.wov++[h]}:=by unfold Z5 Zo;rw[m];rfl
   rw[e];refine⟨?_,?_,?_,?_,?_,?_,?_,u,H⟩;rw[f];exact W.nd;rw[f];exact W.sub;rw[f,cp];intro x a;rcases ce.mp a with q|q;rcases ce.mp q with q|q;exact W.rdy x q
   simp_all
   simp_all
   simp_all
   rw[f];intro x a;rw[ke];by_cases c:h=x
   grind
   rw[if_neg c];exact W.low x a;rw[f];intro x g p l j;obtain⟨o,v⟩:=W.bgn x g p l j;refine⟨o,?_⟩;rw[ke]
   grind
   grind
 | some g=>
   have E:=λj=>cy _ (W.bgn h g _ m j).2;have n:g ∉ zh (vm s.done h (yb s.done h+1)):=by simp_all
   obtain⟨U,F⟩:=P.new h _ g m;have e:Z5 M s h d={done:=vm s.done h (yb s.done h+1)++[(g,0)],sums:=aO s.sums (M.ra d),ready:=s.ready++kh s (M.ra d)++[h]++[g],wait:=qm s (M.ra d),stop:=s.stop,wov:=s.wov++[h]}:=by unfold Z5 Zo;rw[m];show({done:=vm (vm s.done h (yb s.done h+1)) g 0,..}:WS A)=_;rw[Vm n];rfl
   rw[e];have i:zh (vm s.done h (yb s.done h+1)++[(g,0)])=zh s.done++[g]:=by rw[Iu,f]
   have G:=Xv E;have b:∀x,yb (vm s.done h (yb s.done h+1)++[(g,0)]) x=yb (vm s.done h (yb s.done h+1)) x:=λx=>by rw[Gm x n];by_cases c:g=x;subst c;rw[if_pos J,ke,if_neg (λz=>F z.symm),G];rw[if_neg c]
   have inl:∀x∈zh s.done,x∈zh s.done++[g]:=λx a=>dk _ a;refine⟨?_,?_,?_,?_,?_,?_,?_,?_,λx=>?_⟩;rw[i];refine List.nodup_append.mpr ⟨W.nd,by simp,λx a y R z=>?_⟩
   simp_all
   rw[i];intro x a;rcases ce.mp a with q|q;exact W.sub x q
   simp_all
   rw[i];intro x a;rcases ce.mp a with q|q;rcases ce.mp q with q|q;rcases ce.mp q with q|q;exact inl x (W.rdy x q)
   simp_all
   simp_all
   simp_all
   rw[i];exact λr w x a=>inl x (t r w x a);rw[i];intro x a;rw[b,ke];by_cases c:h=x
   grind
   rw[if_neg c];rcases ce.mp a with q|q;exact W.low x q
   simp_all
   rw[i];intro x y p l j;rw[b,ke];rcases ce.mp j with q|q;obtain⟨o,v⟩:=W.bgn x y p l q
   grind
   rw[ak.mp q]at l;obtain⟨Z,X⟩:=P.inj x p h _ g l m
   simp_all
   grind
   rw[HH];omega
   simp_all
theorem Wv.turn{all:List A}{held:A->Nat->Bool}{s:WS A}(P:uZ M all)(W:Wv M all s){r:List A}{h:A}(n:s.ready=r++[h]):Wv M all (q8 M held {s with ready:=r} h)/\Qz M all (q8 M held {s with ready:=r} h)<Qz M all s:=by
 obtain⟨a,hk,o⟩:=W.pop n;have q:s.ready.length=r.length+1:=by simp_all
 have b:∀e:WS A,e.wov=s.wov->e.ready=r->Qz M all e<Qz M all s:=λe x w=>by unfold Qz;simp_all
 have y:Wv M all {s with ready:=r,stop:=s.stop++[h]}:=⟨a.nd,a.sub,a.rdy,a.wai,a.low,a.bgn,by grind,a.wov,a.cnt⟩
 unfold q8;cases hn:dW M {s with ready:=r} h with
 | none=>grind
 | some d=>
   show Wv M all (if held h (yb s.done h)then _ else _)/\Qz M all (if held h (yb s.done h)then _ else _)<_;by_cases c:held h (yb s.done h)=true
   simp_all
   rw[if_neg c];by_cases j:Yl M {s with ready:=r} h=true;rw[if_pos j];have f:=a.step P hk o hn;refine⟨f,?_⟩;have m:=f.most;have u:=sC M f;have t:=f.len;have l:(Z5 M {s with ready:=r} h d).wov.length=s.wov.length+1:=by show(s.wov++[h]).length=_;simp
   unfold Qz;rw[l]at m⊢;obtain⟨k,i⟩:∃k,tot M all-s.wov.length=k+1:=⟨tot M all-s.wov.length-1,by omega⟩
   have g:tot M all-(s.wov.length+1)=k:=by omega
   rw[i,g,Nat.add_mul];omega;rw[if_neg j];cases v:M.aw d with
   |none=>simp_all
   | some p=>refine⟨⟨a.nd,a.sub,a.rdy,Bf hk a.wai,a.low,a.bgn,?_,a.wov,a.cnt⟩,b _ J J⟩;show r.length+jz (jv s.wait p.1 h)+s.stop.length<=s.done.length;rw[Bk];omega
end
end My
namespace My
noncomputable def jo(fs:List Nat):List (List Nat×Nat):=fs.zipIdx.map λq=>([q.2],q.1)
theorem Bl:∀(l:List Nat)(n:Nat),(l.zipIdx n).map (λq=>[q.2])=(List.range' n l.length).map λi=>[i]|[],_=>rfl| x::l,n=>by rw[List.zipIdx_cons,c4,Bl l (n+1)];rfl
theorem Qs(fs:O Nat):zh (jo fs)=(List.range fs.length).map λi=>[i]:=by unfold zh jo;rw[bn,List.range_eq_range'];exact Bl fs 0
theorem Kz(fs:O Nat):(zh (jo fs)).Nodup:=by rw[Qs];exact List.Pairwise.map _ (λa b h e=>h (by injection e)) List.nodup_range
section
variable{D:Type}{ss:List (List D)}
theorem E8{i:Nat}{p:Nat}{d:D}(h:(ss.getD i [])[p]?=some d):ss[i]?=some (ss.getD i []):=by rw[c7]at h⊢;cases c:ss[i]? with|none=>rw[c]at h;cases h|some s=>rfl
noncomputable def qB(U Z:D->Option (Nat×Int))(G:List (List D))(R:List (List Nat×Nat)):dG (List Nat) D where
 scr:=λh=>if h∈zh R then G.getD (yb R h) []else[]
 bg:=λ_ _=>none
 ra:=U
 aw:=Z
noncomputable def Q4(G:List (List D))(l:List (List Nat×Nat)):Nat:=(l.map λr=>(G.getD r.2 []).length).sum
theorem W0{d i:D->Option (Nat×Int)}{R:List (List Nat×Nat)}(m:(zh R).Nodup):tot (qB d i ss R) (zh R)=Q4 ss R:=by
 have c:∀(l:List (List Nat×Nat)),(∀r∈l,r.1∈zh R/\yb R r.1=r.2)->((zh l).map λh=>((qB d i ss R).scr h).length).sum=Q4 ss l:=by
  intro l;induction l with|nil=>exact λ_=>rfl| cons a r f=>
    intro j;obtain⟨q,p⟩:=j a bp;have e:(qB d i ss R).scr a.1=ss.getD a.2 []:=by show(if a.1∈zh R then ss.getD (yb R a.1) []else[])=_;rw[if_pos q,p]
    show(List.map _ (a.1::zh r)).sum=(List.map _ (a::r)).sum;rw[c4,c4,List.sum_cons,List.sum_cons,e];exact congrArg _ (f λx n=>j x (bq _ n))
 refine c R λr g=>⟨List.mem_map_of_mem g,?_⟩
 clear c;induction R with|nil=>nomatch g| cons a l f=>have b:=bz.mp m;show(if a.1=r.1 then a.2 else yb l r.1)=r.2;rcases ag.mp g with e|e;rw[e,if_pos J];have o:r.1∈zh l:=List.mem_map_of_mem e;rw[if_neg (λz=>b.1 (by show a.1∈_;rw[z];exact o))];exact f b.2 e
noncomputable def nS(F:List (List Nat))(G:List Int):WS (List Nat):={done:=F.map λh=>(h,0),sums:=G,ready:=F,wait:=[],stop:=[],wov:=[]}
theorem Gg{M:dG (List Nat) D}{all F:List (List Nat)}{b:List Int}(d:F.Nodup)(sub:∀h∈F,h∈all)(f:∀h p g,M.bg h p=some g->g ∉ F):Wv M all (nS F b):=by
 have k:zh (nS F b).done=F:=by show(F.map λh=>(h,0)).map (·.1)=F;rw[bn];exact List.map_id F
 have z:∀h,yb (nS F b).done h=0:=λh=>by clear k d sub f;induction F with|nil=>rfl| cons a r e=>show(if a=h then 0 else _)=0;by_cases c:a=h;rw[if_pos c];rw[if_neg c];exact e
 refine⟨by rw[k];exact d,by rw[k];exact sub,by rw[k];exact λ_ h=>h,λr j=>(nomatch j),λh _=>by rw[z];exact be _,λh g p l i=>absurd (by rw[k]at i;exact i) (f h p g l),?_,?_,λh=>by rw[z];rfl⟩;show F.length+0+0<=(F.map _).length;rw[aa];exact ae _;show 0=Ws (F.map λh=>(h,0));clear k z d sub f;induction F with|nil=>rfl|cons a r e=>show 0=0+Ws (r.map λh=>(h,0));rw[<-e]
end
end My
namespace My
open PySem PySem.Spec PyProof.Rows L2
noncomputable def dB:aI->Option (Nat×Int)|.rai b k=>some (b.toNat,k)|_=>none
noncomputable def qV:aI->Option (Nat×Int)|.awa b m=>some (b.toNat,m)|_=>none
noncomputable def MR(G:List yz)(R:List (List Nat×Nat)):dG (List Nat) aI:=qB dB qV G R
noncomputable def hZ(h:List Nat):List Int:=h.map Int.ofNat
theorem qr:∀{a b:List Nat},hZ a=hZ b->a=b|[],[],_=>rfl|[],_::_,e=>by cases e|_::_,[],e=>by cases e| x::g,y::f,e=>by injection e with d c;rw[Int.ofNat.inj d,qr c]
end My
namespace L2
open PySem PySem.Spec PyProof.Rows
def Bt(M:List Addr)(H G:Hp):Prop:=∀b o,b ∉ M->H b=some o->G b=some o
section
variable{M N:List Addr}{H H1 H2 H0:Hp}{p:Addr}{o:HO}
theorem Bt.refl:Bt M H H:=λ_ _ _ e=>e
theorem Bt.trans(a:Bt M H H1)(b:Bt M H1 H2):Bt M H H2:=λc u n e=>b c u n (a c u n e)
theorem Same.bt(s:Same H H1):Bt M H H1:=λc u _ e=>s c u e
theorem Bt.upd(h:p∈M):Bt M H (upd H p o):=λc u n e=>by rw[upd_ne (λz=>n (by rw[z];exact h))];exact e
theorem Bt.same(a:Bt M H H1)(s:Same H0 H)(n:∀x∈M,H0 x=none):Same H0 H1:=λb u e=>a b u (λz=>by rw[n b z]at e;cases e) (s b u e)
theorem Bt.tups(a:Bt M H H1)(n:∀x∈M,∀xs,H x≠some (.tup xs)):yu H H1:=λb xs e=>a b _ (λz=>n b z xs e) e
end
end L2
namespace My
open PySem PySem.Spec PyProof.Rows L2
variable{C ab ac an ar cP cR r:Addr}{A:Around}{base:Heap}{H H':Hp}{es:List Expr}{h:List Nat}{N ps:List Str}{P:Program}{sp:Sp}{st:Stmt}{mg:Str->Option Value}{vc vh vl vs:V}{w:World}
section
variable{X:Cx}{m x:Str}{k:Nat}{p apos aD:Pos}{o e:Expr}{ta:TE}{t:TA}
theorem v6{d:Sem Bool}(h:bU X.prog X.w X.K X.mg X.base C m k ps sp)(c:ge X.K C)(i:aQ k X.A)(he:PE X o ta)(n:PA X (e::es) t)(a:starEach (e::es) X.env=(false,eval e X.env)::starEach es X.env:=by rfl) (b:(backTo aD (starEach es X.env)).any (·.1)=false:=by rfl)
  (g:eval (.Call (.Attribute o m apos) (e::es) [] aD) X.env=(do
   let ov<-eval o X.env
   standAt apos.atName
   let(f,first)<-holding [ov] (getMethod ov m d)
   callWith aD f first (backTo aD (starEach (e::es) X.env)) (backToKw aD (keywordEach [] X.env))):=by rfl):
  PE X (.Call (.Attribute o m apos) (e::es) [] aD) (pW C m sp [] E0 ta t):=by obtain⟨f,p,F,l,j⟩:=h;exact FC he c j F i l .nil nO n a b g
theorem Vq{a:Sem Bool}(h:bU X.prog X.w X.K X.mg X.base C m k ps sp)(c:ge X.K C)(d:aQ k X.A)(he:PE X o ta)(b:eval (.Call (.Attribute o m apos) [] [] aD) X.env=(do
   let ov<-eval o X.env
   standAt apos.atName
   let(f,first)<-holding [ov] (getMethod ov m a)
   callWith aD f first (backTo aD (starEach [] X.env)) (backToKw aD (keywordEach [] X.env))):=by rfl):
  PE X (.Call (.Attribute o m apos) [] [] aD) (pW C m sp [] E0 ta kE):=by obtain⟨f,i,F,g,e⟩:=h;exact G7 he c e F d g .nil nO b
theorem mW(h:eX X.prog X.w X.K X.mg X.base x C k ps sp)(c:aQ (k+1) X.A)(j:PA X (e::es) t)(g:Gl X x:=by rfl)(b:(x==("__debug__":Str))=false:=by decide)
  (he:starEach (e::es) X.env=(false,eval e X.env)::starEach es X.env:=by rfl) (a:(backTo aD (starEach es X.env)).any (·.1)=false:=by rfl):
  PE X (.Call (.Name x p) (e::es) [] aD) (pV C sp [] E0 t):=by obtain⟨f,l,F,i,M,d⟩:=h;exact FA M F c g d i .nil nO j b he a
end
section
variable{K:W.Frag}
theorem ku{m q:Str}{k:Nat}(D:qk K C m q st)(S:aA N ps (zf st))(a:∀(f:Y)(cdv:I)(A:Around)(outer:O Env)(s:Shared)(H:Hp)(vs:O V)(Q:VK)(E:XK),aQ k (A.deeper (envOfC q (zf st) s.heap.objs.size f cdv))->sp vs H Q E-> let X:=(iQ fR P w K mg base N q (zf st) f cdv A outer s H E).nox;∃t,eG X (wr st) t/\t (.of Q) (start N vs) H) (b:autoParam (∀vs H Q E,sp vs H Q E->vs.length=ps.length) uQ._auto_1) (i:autoParam (∀(kV c d:I)(n:Option Y)(cdv l:I)(us:O I),us.length=ps.length->bindArgs (W.fnOf m q (jd st) (wr st) (zf st) .none kV c d n cdv l) ⟨us,[]⟩=pure (ps.zip us)) uO._auto_1):bU P w K mg base C m (k+1) ps sp:=by obtain⟨f,j,F,g⟩:=D;exact⟨f,j,F.ok S b (λcdv A outer s H vs Q E e h=>a f cdv A outer s H vs Q E e h),F.binds i,g⟩
theorem nQ{x q:Str}{k:Nat}(D:kB K mg x q C st)(S:aA N ps (zf st))(a:∀(f:Y)(cdv:I)(A:Around)(outer:O Env)(s:Shared)(H:Hp)(vs:O V)(Q:VK)(E:XK),aQ k (A.deeper (envOfC q (zf st) s.heap.objs.size f cdv))->sp vs H Q E-> let X:=(iQ fR P w K mg base N q (zf st) f cdv A outer s H E).nox;∃t,eG X (wr st) t/\t (.of Q) (start N vs) H) (b:autoParam (∀vs H Q E,sp vs H Q E->vs.length=ps.length) uQ._auto_1) (j:autoParam (∀(kV c d:I)(n:Option Y)(cdv m:I)(us:O I),us.length=ps.length->bindArgs (W.fnOf "__init__" q (jd st) (wr st) (zf st) .none kV c d n cdv m) ⟨us,[]⟩=pure (ps.zip us)) uO._auto_1):eX P w K mg base x C (k+1) ps sp:=by obtain⟨f,l,F,i,e⟩:=D;exact⟨f,l,F.ok S b (λcdv A outer s H vs Q E g h=>a f cdv A outer s H vs Q E g h),F.binds j,i,e⟩
end
theorem qd:(lb vc vs vl ab an ac).lookup ("script":Str)=some vs:=rfl
theorem F8:(lb vc vs vl ab an ac).lookup ("call":Str)=some vl:=rfl
theorem IU:(lb vc vs vl ab an ac).lookup ("begins":Str)=some (.ref ab):=rfl
theorem AV:(lb vc vs vl ab an ac).lookup ("needs":Str)=some (.ref an):=rfl
theorem tU:(lb vc vs vl ab an ac).lookup ("came":Str)=some (.ref ac):=rfl
noncomputable def ip(G:V)(U:Addr):List (Str×V):=[(("house":Str),G),("roles",.ref U)]
theorem Vp:(ip vh ar).lookup ("house":Str)=some vh:=rfl
theorem vi:(ip vh ar).lookup ("roles":Str)=some (.ref ar):=rfl
noncomputable def aZ:List Str:=["house","roles"]
noncomputable def nY:Stmt:=aX 68
noncomputable abbrev Wd:Stmt:=(xx nY).getD 0 dH
noncomputable abbrev tW:Stmt:=(xx nY).getD 1 dH
noncomputable abbrev Xo:Stmt:=(xx nY).getD 2 dH
theorem ju(g:O Int):dQ (tI g):=uA g
theorem qG(a:aI):dQ (eD a):=by cases a with| beg j b=>refine⟨trivial,trivial,?_,trivial⟩;show qt (b.map pE);rw[qt.all];intro t c;obtain⟨m,_,rfl⟩:=bu.mp c;exact⟨trivial,trivial,trivial⟩|_=>first|exact⟨trivial,trivial,trivial⟩|exact⟨trivial,trivial,trivial,trivial⟩
theorem Wo(s:yz):dQ (eS s):=by show qt (s.map eD);rw[qt.all];intro t a;obtain⟨d,_,rfl⟩:=bu.mp a;exact qG d
theorem E7(a:O gu):dQ (nh a):=by show qt (a.map pE);rw[qt.all];intro t b;obtain⟨m,_,rfl⟩:=bu.mp b;exact⟨trivial,trivial,trivial⟩
theorem sQ(c:Kb):dQ (eC c):=⟨trivial,E7 c.2,trivial⟩
theorem Wp(h:aB):dQ (eH h):=by refine⟨trivial,trivial,?_,?_,trivial⟩;show qt (h.fs.map eC);rw[qt.all];intro t a;obtain⟨d,_,rfl⟩:=bu.mp a;exact sQ d;show qt (h.ss.map eS);rw[qt.all];intro t a;obtain⟨d,_,rfl⟩:=bu.mp a;exact Wo d
inductive bP(N:Addr->Prop)(H:Hp)(cR:Addr)(s:yz)(r:Addr):Prop|mk:∀dx vc vs ab an ac,H r=some (.ins cR dx (lb vc vs .non ab an ac))->Is H (eS s) vs->H ab=some (.dK [])->H an=some (.lst (s.map Z9))->H ac=some (.dT [])->N r->N ab->N an->N ac->bP N H cR s r
theorem bP.keep{N h:Y->Prop}{s:yz}(x:bP N H cR s r)(c:∀a o,N a->H a=some o->H' a=some o)(t:yu H H')(b:∀a,N a->h a):bP h H' cR s r:=by obtain⟨u,j,i,w,v,ac,q,p,n,m,l,g,f,e,d⟩:=x;exact⟨u,j,i,w,v,ac,c _ _ g q,p.tups t (Wo s),c _ _ f n,c _ _ e m,c _ _ d l,b _ g,b _ f,b _ e,b _ d⟩
theorem bP.same{N:Y->Prop}{s:yz}(x:bP N H cR s r)(b:Same H H'):bP N H' cR s r:=x.keep (λa o _ e=>b a o e) b.tups λ_ n=>n
abbrev RL:=List ((List Nat×Nat)×Addr)
noncomputable def yw(L:RL):List (List aJ×V):=L.map λq=>(kI (hZ q.1.1),.ref q.2)
noncomputable def vp(L:RL):List (List Nat):=L.map (·.1.1)
theorem MD{L:RL}(a:h ∉ vp L):yq (yw L) (kI (hZ h))=none:=by induction L with|nil=>rfl| cons q r b=>have d:q.1.1≠h:=λe=>a (by rw[<-e];exact bp);show yq ((kI (hZ q.1.1),V.ref q.2)::yw r) _=none;rw[xl (λz=>d (qr (aR z)))];exact b λc=>a (bq _ c)
theorem ME{L:RL}{q:(List Nat×Nat)×Addr}(d:q∈L)(b:(vp L).Nodup):yq (yw L) (kI (hZ q.1.1))=some (.ref q.2):=by induction L with|nil=>grind| cons p r c=>have a:=bz.mp b;show yq ((kI (hZ p.1.1),V.ref p.2)::yw r) _=_;rcases ag.mp d with e|e;rw[e];exact xz J;have f:p.1.1≠q.1.1:=λz=>a.1 (by simp_all);rw[xl (λz=>f (qr (aR z)))];exact c e a.2
theorem kz{v:V}(i:Is H (tI (hZ h)) v):∃b,v=.ref b/\H b=some (.tup ((kI (hZ h)).map kV)):=by
 obtain⟨b,d,rfl,c,a⟩:=i;rw[IsL.ints.mp a,<-lx]at c
 simp_all
structure vB(hs:aB):Prop where
 deeds:∀s∈hs.ss,∀d∈s,gy d
 len:∀s∈hs.ss,s.length<=1000
 w:hs.w=0
inductive me(cP cR:Addr)(vs:List V)(H:Hp)(Q:VK)(e0:XK):Prop| mk:∀(x dx ar av:Addr) (vh vhd vc:V) (hs:aB) (hd:List Nat) (c:Kb) (L0:RL),vs=[.ref x,vhd,vc,.non,.ref av]->H x=some (.ins cP dx (ip vh ar))->H ar=some (.dT (yw L0))->H av=some (.dK [])->Is H (eH hs) vh->Is H (tI (hZ hd)) vhd->Is H (eC c) vc->vB hs->c.2=[]->c.1<hs.ss.length->hd ∉ vp L0->L0.length<1000->
   (∀rl H',Bt [ar] H H'->H' ar=some (.dT (yw (L0++[((hd,c.1),rl)])))->bP (λa=>H a=none) H' cR (hs.ss.getD c.1 []) rl->Q .non H')->me cP cR vs H Q e0
theorem C2{a:aI}(h:gy a):ng (.str (dw a)) [.str "come",.str "go"]=false:=by cases a<;>first|rfl|exact h.elim
noncomputable def MW:List Str:=["self","hand","calling","call","tally","role","wall","mode","place","deed","begun"]
theorem A2:aA MW ["self","hand","calling","call","tally"] (zf tW):=.of
section
variable{K:W.Frag}
theorem GO(D:qk K cP "enter" "Plan.enter" tW)(T:Txt K mg)(CP:aH K cP aZ)(CR:aH K cR aT)(oR:eX P w K mg base "Role" cR 1 ["self","calling","script","call"] (lS cR))(o1:Ok P w K mg base "need_of" 1 ["deed","tally"] lW):bU P w K mg base cP "enter" 23 ["self","hand","calling","call","tally"] (me cP cR):=by
 refine ku (k:=22) D A2 ?_;rintro f d1 A ca s H vs Q E hr ⟨x,dx,ar,av,vh,dt,vc,a,hd,c,L0,rfl,hx,Z,dV,ih,cb,ic,W,de,bc,c3,dN,k⟩ X;have hu:=ji hr;have nd:=A2.nd;refine⟨_,zb (zo (i:=5) nd (mW oR (hr.mono (by decide)) (za (pv 2) (za (zr zt (zr zt (zx (pv 0) J) (y8 T.SCRIPTS)) (zr zt (pv 2) ze)) (za (pv 3) zc))))) (zb (Yj hu (zx (pv 0) J) (pv 1) (pv 5) J) (zb (wy PassesOwn.never J (j1 (zr zt (pv 2) ze)) (j2 J (yv (zp (i:=6) nd) (yv (zp (i:=7) nd) qv))) yo) (zg (wy PassesOwn.never J (Jv J T.enumerate (za (zx (pv 5) J) zc)) (j2 J (yv (zp (i:=8) nd) (yv (zp (i:=9) nd) qv))) (zb (wo (ja PySem.F.plainAttrs_list PySem.F.slot_list_append PySem.F.type_list_append qf (zx (pv 5) J) (za (yc o1 (hr.mono (by decide)) (za (pv 9) (za (pv 4) zc))) zc))) (zb (ye (zm y0 (zr zt (pv 9) ze) zi (zu _)) yo zn)
   (zg (ye (zm Z8 (zr zt (pv 9) ze) (je (za zi (za zi zc))) J) yo zn)))))))),?_⟩
 have bB:a.ss[c.1]?=some a.ss[c.1]:=bo bc;have bJ:a.ss.getD c.1 []=a.ss[c.1]:=by rw[c7,bB];rfl
 have dv:∀{b:Y}{ys:O V},H b=some (.tup ys)->b≠ar:=λ{b ys} e z=>by rw[z,Z]at e;cases e
 obtain⟨N,xc,un,rfl,b9,dp,cl⟩:=Is.at (K:=K) (i:=0) (t:=.int (c.1:Int)) ic J;cases(show un=.int (c.1:Int)from cl);obtain⟨ah,xh,us,rfl,b8,dn,ck⟩:=Is.at (K:=K) (i:=3) (t:=.tup (a.ss.map eS)) ih J;obtain⟨as,b1,du,rfl,b7,dh,bw⟩:=Is.at (K:=K) (i:=c.1) (t:=eS a.ss[c.1]) ck (by rw[au,bB];rfl);refine⟨x,cP,dx,_,_,J,hx,CP.cls,CP.n,Vp,ah,xh,_,_,J,J,b8,dn,N,xc,_,_,J,J,b9,dp,as,b1,_,_,J,J,b7,dh,?_⟩;intro d dr q bK dK;refine⟨d,dr,_,_,_,J,zd,λab n ac H1 dT ap v af kp bC aS ay aK=>⟨J,?_⟩⟩;have s0:∀{b:Y},(upd (upd H dr (.own d)) d (.ins cR dr [])) b=none->H b=none:=λ{b} e=>by by_cases c1:b=d;rw[c1];exact q;by_cases c2:b=dr;rw[c2];exact bK;rw[upd_ne c1,upd_ne c2]at e;exact e
 have s1:Same H H1:=λb o e=>kp b o (zj e q) (by rw[upd_ne (zj e q),upd_ne (zj e bK)];exact e);have ap:=s0 ap;have v:=s0 v;have af:=s0 af;clear s0 kp;obtain⟨bh,rfl,dg⟩:=kz cb;refine⟨x,cP,dx,_,_,J,s1 _ _ hx,CP.cls,CP.n,vi,ar,_,J,Q7.t (s1 _ _ Z) (s1 _ _ dg) (by unfold yw;rw[aa];exact xy (by omega)),?_⟩;rw[Zl _ (MD c3)];have er:yw L0++[(kI (hZ hd),V.ref d)]=yw (L0++[((hd,c.1),d)]):=by unfold yw;rw[ax];rfl
 rw[er];have k2:∀{b:Y}{o:HO},H1 b=some o->H b=none->upd H1 ar (.dT (yw (L0++[((hd,c.1),d)]))) b=some o:=λ{b o} e z=>by rw[upd_ne (ai (zj Z z))];exact e
 have t:=k2 bC q;have L:=k2 aS ap;have l:=k2 ay v;have F:=k2 aK af;have b2:Bt [ar] H (upd H1 ar (.dT (yw (L0++[((hd,c.1),d)])))):=s1.bt.trans (Bt.upd (ak.mpr J));have u:upd H1 ar (.dT (yw (L0++[((hd,c.1),d)]))) ar=some (.dT (yw (L0++[((hd,c.1),d)]))):=zd;clear k2 bC aS ay aK s1;generalize upd H1 ar (.dT (yw (L0++[((hd,c.1),d)])))=H2 at t L l F b2 u⊢;have bg:∀{M:O Y}{G:Hp},Bt M H G->(∀m∈M,m=ar\/H m=none)->yu H G:=λ{M G} b hM=>b.tups λm U xs e=>by rcases hM m U with z|z;rw[z,Z]at e;cases e;rw[z]at e;cases e
 have t2:yu H H2:=bg b2 (λm U=>.inl (ak.mp U));obtain⟨a',b6,um,e',bi,bN,cn⟩:=Is.at (K:=K) (i:=1) (t:=nh c.2) (ic.tups t2 (sQ c)) J;cases e';obtain⟨am,xm,rfl,bM,bI⟩:=cn;rw[de]at bI;cases(show xm=[]from bI);refine⟨N,b6,_,_,J,J,bi,bN,am,J,⟨[],aE.of bM⟩,?_⟩;let dq:Nat->L2.St->Hp->Prop:=λi R g=>H2=g/\R=[some (.ref x),some (.ref bh),some (.ref N),some .non,some (.ref av),some (.ref d),none,none,none,none,none];refine V4 (K:=K) (a:=am) (xs:=[]) dq ⟨J,J⟩ (λi R g _ ⟨e,_⟩=>by rw[<-e];exact aE.of bM) (λi y R g hy _=>by cases hy) ?_;rintro R g ⟨rfl,rfl⟩;obtain⟨ad,xd,rfl,C,ba⟩:=bw;have bL:=ba.length;rw[aa]at bL;refine⟨d,cR,dr,_,_,J,t,CR.cls,CR.n,qd,ad,xd,J,aE.of (t2 _ _ C),?_⟩;have dE:a.ss[c.1].length<=1000:=W.len _ (List.getElem_mem bc);have S:∀{b:Y}{o:HO},H2 b=some o->(∀ys,o≠ .lst ys)->b ∉ [n]:=λ{b o} e z U=>by rw[ak.mp U,l]at e;exact z _ (Option.some.inj e).symm
 have a6:∀{G:Hp},Bt [n] H2 G->yu H2 G:=λ{G} b=>b.tups λm U xs e=>by rw[ak.mp U,l]at e;cases e
 have bl:=S t (λ_ z=>by cases z);refine uz (K:=K) (a:=ad) (xs:=xd) (λi R g=>∃x8 x9 a3:Option V,R=[some (.ref x),some (.ref bh),some (.ref N),some .non,some (.ref av),some (.ref d),none,none,x8,x9,a3]/\Bt [n] H2 g/\g n=some (.lst ((a.ss[c.1].take i).map Z9)))
  ⟨none,none,none,J,Bt.refl,l⟩ (λi R g _ ⟨_,_,_,_,b,_⟩=>aE.of (a6 b _ _ (t2 _ _ C))) ?_ ?_
 rintro i y R g p hy ⟨x8,x9,a3,rfl,b3,j⟩ hp;obtain⟨tt,bx,cc⟩:=ba.get' hy;rw[au]at bx;obtain⟨dd,bb,rfl⟩:=cw.mp bx;have hi:i<a.ss[c.1].length:=(ci.mp bb).1;have sp:=Same.new hp (.tup [.int i,y]);have bD:upd g p (.tup [.int i,y]) p=some (.tup [.int i,y]):=zd;have b4:Bt [n] H2 (upd g p (.tup [.int i,y])):=b3.trans sp.bt;have h:=sp _ _ j;generalize upd g p (.tup [.int i,y])=H4 at sp bD b4 h⊢;have i4:Is H4 (eD dd) y:=(cc.tups t2 (qG _)).tups (a6 b4) (qG _);refine⟨p,_,J,aE.of bD,J,_,_,J,_,_,J,J,?_⟩;refine⟨d,cR,dr,_,_,J,b4 _ _ bl t,CR.cls,CR.n,AV,?_⟩;have a7:=W.deeds _ (List.getElem_mem bc) dd (bv bb);have a8:(a.ss[c.1].take i).map Z9++[Z9 dd]=(a.ss[c.1].take (i+1)).map Z9:=by rw[cq,bb,ax];rfl
 have bE:((a.ss[c.1].take i).map Z9).length<sizeLine:=by rw[aa,d5];exact xy (by omega)
 refine⟨.inl ⟨J,_,aG.of h⟩,dd,y,.ref av,J,i4,a7,n,_,_,J,J,h,bE,?_⟩;rw[a8];have t5:yu H4 (upd H4 n (.lst ((a.ss[c.1].take (i+1)).map Z9))):=yu.upd h (λ_ z=>by cases z);have b5:Bt [n] H2 (upd H4 n (.lst ((a.ss[c.1].take (i+1)).map Z9))):=b4.trans (Bt.upd (by simp));have aw:upd H4 n (.lst ((a.ss[c.1].take (i+1)).map Z9)) n=_:=zd;have i5:=i4.tups t5 (qG _);generalize upd H4 n (.lst ((a.ss[c.1].take (i+1)).map Z9))=H5 at b5 aw i5⊢;obtain⟨r,cv⟩:=Yb dd;obtain⟨a5,bd,u5,rfl,bk,b0,co⟩:=Is.at (K:=K) (i:=0) (t:=.str (dw dd)) (cv▸i5) J;cases(show u5=.str (dw dd)from co);refine⟨a5,bd,_,_,J,J,bk,b0,J,_,J,?_⟩;rw[show decide (V.str (dw dd)=V.str "begin")=false by cases dd<;>first|rfl|exact a7.elim];refine yi ⟨a5,bd,_,_,J,J,bk,b0,bF,λp6 c0=>⟨p6,_,J,.inr (aE.of zd),J,J,_,J,?_⟩⟩;have s6:=Same.new c0 (.tup [.str "come",.str "go"]);rw[C2 a7];exact yi ⟨_,_,_,J,b5.trans s6.bt,s6 _ _ aw⟩;rintro R g ⟨x8,x9,a3,rfl,b3,j⟩;rw[bL,cr]at j;refine k d g (λb o hb e=>b3 b o (λU=>?_) (b2 b o hb e)) (b3 _ _ (S u (λ_ z=>by cases z)) u) ?_
 . rw[ak.mp U,v]at e;cases e
 refine⟨dr,.ref N,.ref ad,ab,n,ac,b3 _ _ bl t,?_,b3 _ _ (S L (λ_ z=>by cases z)) L,?_,b3 _ _ (S F (λ_ z=>by cases z)) F,q,ap,v,af⟩
 . show Is g (eS (a.ss.getD c.1 [])) _;rw[bJ];exact((show Is H (eS a.ss[c.1]) (.ref ad)from⟨ad,xd,J,C,ba⟩).tups t2 (Wo _)).tups (a6 b3) (Wo _)
 . show g n=some (.lst ((a.ss.getD c.1 []).map Z9));rw[bJ];exact j
end
structure dR(hs:aB):Prop where
 nw:vB hs
 s20:hs.ss.length<=20
 f40:hs.fs.length<=40
 mem:∀c∈hs.fs,c.2=[]
 call:∀c∈hs.fs,c.1<hs.ss.length
 few60:(jo (hs.fs.map (·.1))).length<=60
 deeds:Q4 hs.ss (jo (hs.fs.map (·.1)))<=1200
 b0:0<=hs.b
 b9:hs.b<=1000
 says:∀s∈hs.ss,∀x,aI.say x∈s->PyData.strOk x=true
 box:∀s∈hs.ss,∀d∈s,∀b m,(d=.rai b m\/d=.awa b m)->0<=b/\b<hs.b
theorem dR.few{hs:aB}(W:dR hs):(jo (hs.fs.map (·.1))).length<=1000:=c9 W.few60 (by decide)
noncomputable def plan(hs:aB):List (List Nat×Nat):=jo (hs.fs.map (·.1))
inductive aM(H:Hp)(cP cR:Addr)(hs:aB)(L:RL)(x:Addr):Prop|mk:∀dx vh ar,H x=some (.ins cP dx (ip vh ar))->Is H (eH hs) vh->H ar=some (.dT (yw L))->L.map (·.1)=plan hs->(∀q∈L,bP (λ_=>True) H cR (hs.ss.getD q.1.2 []) q.2)->aM H cP cR hs L x
theorem aM.same{H a:Hp}{cP cR:Y}{hs:aB}{L:RL}{x:Y}(p:aM H cP cR hs L x)(s:Same H a):aM a cP cR hs L x:=by obtain⟨i,b,j,h,g,f,e,d⟩:=p;exact⟨i,b,j,s _ _ h,g.mono s,s _ _ f,e,λq c=>(d q c).same s⟩
theorem Zf{L:RL}{hs:aB}(h:L.map (·.1)=plan hs):vp L=zh (plan hs):=by rw[<-h];unfold vp zh;simp
inductive lT(cP cR:Addr)(vs:List V)(H:Hp)(Q:VK)(e0:XK):Prop|mk:∀(x dx:Addr)(vh:V)(hs:aB),vs=[.ref x,vh]->H x=some (.ins cP dx [])->Is H (eH hs) vh->dR hs->(∀L H',Bt [x] H H'->aM H' cP cR hs L x->Q .non H')->lT cP cR vs H Q e0
section
variable{K:W.Frag}
theorem Jd:aA ["self","house","number","calling"] ["self","house"] (zf Wd):=.of
theorem LI(D:kB K mg "Plan" "Plan.__init__" cP Wd)(T:Txt K mg)(CP:aH K cP aZ)(oE:bU P w K mg base cP "enter" 23 ["self","hand","calling","call","tally"] (me cP cR)):eX P w K mg base "Plan" cP 24 ["self","house"] (lT cP cR):=by
 refine nQ (k:=23) D Jd ?_;rintro f bk A a6 s H vs Q E hr ⟨x,l,n,r,rfl,hx,ih,W,k⟩ X;have nd:=Jd.nd;refine⟨_,zb (vb (pv 0) (pv 1) J) (zb (vb (pv 0) Y5 J) (zg (wy PassesOwn.never J (Jv J T.enumerate (za (zr zt (pv 1) (y8 T.FIRSTS)) zc)) (j2 J (yv (zp (i:=2) nd) (yv (zp (i:=3) nd) qv))) (zg (wo (v6 oE CP.cls hr (pv 0) (za (xi (za (pv 2) zc)) (za (pv 3) (za Z2 (za Vt zc)))))))))),?_⟩
 refine⟨x,cP,l,[],J,hx,CP.cls,CP.n,bF,?_⟩;rw[show qb "house" n []=[(("house":Str),n)] by rfl];have g1:upd H x (.ins cP l [(("house":Str),n)]) x=some (.ins cP l [(("house":Str),n)]):=zd;have b1:Bt [x] H (upd H x (.ins cP l [(("house":Str),n)])):=Bt.upd (by simp);generalize upd H x (.ins cP l [(("house":Str),n)])=H1 at g1 b1⊢;intro d v;have nx:d≠x:=λz=>by rw[z,g1]at v;cases v
 have s2:=Same.new v (.dT []);have h2:upd H1 d (.dT []) d=some (.dT []):=zd;generalize upd H1 d (.dT [])=H2 at s2 h2⊢;refine⟨x,cP,l,_,J,s2 _ _ g1,CP.cls,CP.n,bF,?_⟩;rw[show qb "roles" (.ref d) [(("house":Str),n)]=ip n d by rw[y6 (by decide)];rfl];have g3:upd H2 x (.ins cP l (ip n d)) x=some (.ins cP l (ip n d)):=zd;have b3:Bt [x] H (upd H2 x (.ins cP l (ip n d))):=(b1.trans s2.bt).trans (Bt.upd (by simp));have h3:upd H2 x (.ins cP l (ip n d)) d=some (.dT []):=by rw[upd_ne nx];exact h2
 generalize upd H2 x (.ins cP l (ip n d))=Z at g3 b3 h3⊢;have t3:yu H Z:=b3.tups λm g xs e=>by rw[ak.mp g,hx]at e;cases e
 obtain⟨ah,xh,uf,rfl,a5,bc,a8⟩:=Is.at (K:=K) (i:=2) (ih.tups t3 (Wp _)) J;obtain⟨af,xf,rfl,a3,aw⟩:=a8;have aK:=aw.length;rw[aa]at aK;refine⟨ah,xh,_,_,J,J,a5,bc,af,xf,J,aE.of a3,?_⟩;have M:x ∉ [d]:=λg=>nx (ak.mp g).symm;have tb:∀{G:Hp},Bt [d] Z G->yu Z G:=λ{G} b=>b.tups λm g xs e=>by rw[ak.mp g,h3]at e;cases e
 let bd:Nat->L2.St->Hp->Prop:=λi σ C=>∃(L:RL)(x2 x3:Option V),σ=[some (.ref x),some (.ref ah),x2,x3]/\L.map (·.1)=jo ((r.fs.map (·.1)).take i)/\Bt [d] Z C/\C d=some (.dT (yw L))/\
  ∀q∈L,bP (λa=>Z a=none) C cR (r.ss.getD q.1.2 []) q.2
 refine uz (K:=K) (a:=af) (xs:=xf) bd
  ⟨[],none,none,J,J,Bt.refl,h3,λq hq=>nomatch hq⟩ (λi σ C _ ⟨_,_,_,_,_,b,_⟩=>aE.of (tb b _ _ a3)) ?_ ?_
 rintro i y σ C p hy ⟨L,x2,x3,rfl,hL,b4,h,R⟩ hp;obtain⟨tt,u,a7⟩:=aw.get' hy;rw[au]at u;obtain⟨c,hc,rfl⟩:∃c,r.fs[i]?=some c/\eC c=tt:=by cases e:r.fs[i]? with|none=>rw[e]at u;cases u|some z=>rw[e]at u;exact⟨z,J,Option.some.inj u⟩
 have F:=bv hc;have hi:=(ci.mp hc).1;have U:=Same.new hp (.tup [.int i,y]);have av:upd C p (.tup [.int i,y]) p=some (.tup [.int i,y]):=zd;generalize upd C p (.tup [.int i,y])=H5 at U av⊢;have b5:=b4.trans (M:=[d]) U.bt;refine⟨p,_,J,aE.of av,J,_,_,J,_,_,J,J,?_⟩;refine⟨x,l,_,J,b5 _ _ M g3,J,bF,λp6 H6 s6 bg bb=>(λp7 ba=>?_)⟩;have s7:=Same.new ba (.dK []);have h7:upd H6 p7 (.dK []) p7=some (.dK []):=zd;generalize upd H6 p7 (.dK [])=H7 at s7 h7⊢;have t:=s6.trans s7;have b7:=b5.trans (M:=[d]) t.bt;have ei:((r.fs.map (·.1)).take i).length=i:=by rw[d5,aa];omega
 have S:jo ((r.fs.map (·.1)).take (i+1))=jo ((r.fs.map (·.1)).take i)++[([i],c.1)]:=by
  have e:(r.fs.map (·.1)).take (i+1)=(r.fs.map (·.1)).take i++[c.1]:=by rw[cq,au,hc];rfl
  unfold jo;rw[e,List.zipIdx_append,ax,ei,Nat.zero_add];rfl
 have ay:vp L=(List.range i).map λj=>[j]:=by have:=Qs ((r.fs.map (·.1)).take i);rw[ei,<-hL]at this;rw[<-this];unfold vp zh;rw[bn];rfl
 have bh:L.length=i:=by
  have:=congrArg List.length ay;unfold vp at this
  rwa[aa,aa,da]at this
 have bi:=W.f40;refine⟨x,l,d,p7,.ref ah,.ref p6,y,r,[i],c,L,J,b7 _ _ M g3,t _ _ (U _ _ h),h7,(ih.tups t3 (Wp _)).tups (tb b7) (Wp _),?_,(a7.tups (tb b7) (sQ _)),W.nw,W.mem c F,W.call c F,λg=>?_,by omega,λrl H8 b8 aS ap=>?_⟩;exact(show Is H6 (tI (hZ [i])) (.ref p6)from⟨p6,_,J,bb,IsL.ints.mpr J⟩).mono s7;rw[ay]at g;obtain⟨j,hj,e⟩:=bu.mp g;injection e with e;have:=dj.mp hj;omega;have t8:yu H7 H8:=b8.tups λm g xs e=>by rw[ak.mp g,t _ _ (U _ _ h)]at e;cases e
 refine⟨L++[(([i],c.1),rl)],_,_,J,by rw[ax,hL,S];rfl,b7.trans b8,aS,λq hq=>?_⟩;rcases ce.mp hq with e|e;exact(((R q e).same U).same t).keep (λa o N z=>b8 _ _ (λg=>by rw[ak.mp g,h3]at N;cases N) z) t8 λ_ z=>z;rw[ak.mp e];refine ap.keep (λa o _ z=>z) (yu.refl _) λa N=>?_;cases z:Z a with|none=>rfl| some o=>by_cases g:a∈[d];rw[ak.mp g,t _ _ (U _ _ h)]at N;cases N;rw[b7 a o g z]at N;cases N
 rintro σ C ⟨L,x2,x3,rfl,hL,b4,h,R⟩;have e:(r.fs.map (·.1)).take xf.length=r.fs.map (·.1):=by rw[aK];exact List.take_of_length_le (by rw[aa];exact ae _)
 rw[e]at hL;refine k L C (λb o hb e=>?_) ⟨l,.ref ah,d,b4 _ _ M g3,(ih.tups t3 (Wp _)).tups (tb b4) (Wp _),h,hL,λq hq=>(R q hq).keep (λa o _ z=>z) (yu.refl _) λ_ _=>trivial⟩;refine b4 b o (λg=>?_) (b3 b o hb e);rw[ak.mp g]at e hb;rw[b1 _ _ hb e]at v;cases v
end
noncomputable def yy(l:List (List Nat×Nat)):List (List aJ×V):=l.map λq=>(kI (hZ q.1),.int (q.2:Int))
noncomputable def xj(F:List (List Nat)):List (List Nat×Nat):=F.map λh=>(h,0)
theorem sE:∀(rows:List (List Int×V))(a:List (List aJ×V)),(a.map (·.1)++rows.map λr=>kI r.1).Nodup->iX rows a=a++rows.map λr=>(kI r.1,r.2)
 |[],a,_=>by simp[iX]
 | r::rows,a,h=>by
   have hn:yq a (kI r.1)=none:=by
    cases e:yq a (kI r.1)with
    |none=>rfl
    | some v=>have b:=Wy e;rw[c4]at h;exact absurd J ((List.nodup_append.mp h).2.2 _ b _ bp)
   show iX rows (v4 a (kI r.1) r.2)=_;rw[Zl _ hn,sE rows (a++[(kI r.1,r.2)]) (by simpa using h)];simp
abbrev Yp(l:List (List Nat×Nat)):List (List Nat):=zh l
noncomputable def kF(G:List (List Nat)):List (List Int×V):=G.map λh=>(hZ h,V.int 0)
theorem dP.same{b:Y}{r:O Int×V}(p:dP H b r)(s:Same H H'):dP H' b r:=let⟨a,d,c⟩:=p;⟨a,s _ _ d,s _ _ c⟩
theorem Vo{a:O Y}{rows:O (O Int×V)}(p:Paired (dP H) a rows)(s:Same H H'):Paired (dP H') a rows:=Paired.mapP p λ_ _ z=>dP.same z s
inductive mx(cP cR:Addr)(vs:List V)(H:Hp)(Q:VK)(e0:XK):Prop|mk:∀(x:Addr)(hs:aB)(L:RL),vs=[.ref x]->dR hs->aM H cP cR hs L x->(∀d H',Same H H'->H d=none->H' d=some (.dT (yy (xj (Yp (plan hs)))))->Q (.ref d) H')->mx cP cR vs H Q e0
section
variable{K:W.Frag}
theorem sy{k:Nat}(a:aQ k A):A.units+8<cLine:=ef (fh (by decide) _) a.units
theorem xA{k:Nat}(a:aQ k A):A.units+4<cLine:=ef (fh (by decide) _) a.units
theorem Le:aA ["self"] ["self"] (zf Xo):=.of
theorem KH(D:qk K cP "at_first" "Plan.at_first" Xo)(T:Txt K mg)(CP:aH K cP aZ)(CR:aH K cR aT):bU P w K mg base cP "at_first" 1 ["self"] (mx cP cR):=by
 refine ku (k:=0) D Le ?_;rintro f a8 A af s H vs Q E hr ⟨x,hs,L,rfl,W,⟨dx,vh,h,hx,ih,m,hL,av⟩,k⟩ X;have ap:=sy hr;refine⟨_,zg (zk (qD (yx (BR J ap) J T.dict Ka (za (qc (own:=["hand","role"]) (cap:=[]) (g:=eT K 2 (bR (js 0) (bR (js 1) lr))) J (yt (zf Xo) J J (by decide+kernel) (by decide+kernel) (by decide+kernel) trivial) (Y2 (zx (pv 0) J)) (λ_ _ _ _=>j2 J (yv (zp (i:=0) (by show(["hand","role"]:O Str).Nodup;decide+kernel)) (yv (zp (i:=1) (by show(["hand","role"]:O Str).Nodup;decide+kernel)) qv)))
  (λ_ _ _ _=>jp (Wi (t:=wA (mL K (jA 1) "call")) (qC (zx (pv 1) J)))) (λ_ _ _ _=>xi (za (pv 0) (za ze zc)))) zc)))),?_⟩
 refine⟨h,_,m,trivial,λo=>?_⟩;have c:upd H h (.frz o (.dT (yw L))) h=some (.frz o (.dT (yw L))):=zd;have M:∀{b:Y}{u:HO},b≠h->H b=some u->upd H h (.frz o (.dT (yw L))) b=some u:=λ{b u} z e=>by rw[upd_ne z];exact e
 have iO:∀{G:Hp},Same (upd H h (.frz o (.dT (yw L)))) G->Same H (upd G h (.dT (yw L))):=λ{G} s b u e=>by by_cases z:b=h;rw[z]at e⊢;rw[zd,<-e,m];rw[upd_ne z];exact s _ _ (M z e)
 have fresh:∀{G:Hp},Same (upd H h (.frz o (.dT (yw L)))) G->∀{b:Y},G b=none->H b=none:=λ{G} s b e=>by cases z:H b with|none=>rfl| some u=>by_cases zz:b=h;rw[zz,s _ _ c]at e;cases e;rw[s _ _ (M zz z)]at e;cases e
 generalize upd H h (.frz o (.dT (yw L)))=Hf at c M iO fresh⊢;have ah:=M (λz=>by rw[z,m]at hx;cases hx) hx;refine⟨x,cP,dx,_,_,J,ah,CP.cls,CP.n,vi,h,o,_,J,c,?_⟩;have a7:L.length<=1000:=by have q:=W.few;have e:=congrArg List.length hL;rw[aa]at e;show _;rw[e];exact q
 refine uC (λi U t=>Same Hf t/\∃r:O Y,U=r.map V.ref/\Paired (dP t) r (kF (vp (L.take i)))) ⟨Same.refl _,[],J,.nil⟩ (λi U t hi ⟨n,r,e,v⟩=>⟨n _ _ c,?_⟩) ?_ ?_;have q:=Paired.length v;unfold kF at q;rw[e,aa,q,aa];unfold vp;rw[aa,d5];exact Nat.le_of_lt (xy (by omega));rintro i kv U t g ⟨n,r,rfl,v⟩ p b aK hb;obtain⟨q,hq,rfl⟩:∃q,L[i]?=some q/\(kI (hZ q.1.1),V.ref q.2)=kv:=by unfold yw at g;rw[au]at g;cases e:L[i]? with|none=>rw[e]at g;cases g|some z=>rw[e]at g;exact⟨z,J,Option.some.inj g⟩
 have ay:q∈L:=bv hq;obtain⟨a6,vc,vs,ab,an,ac,r1,_⟩:=av q ay;have aw:=n _ _ (M (λz=>by rw[z,m]at r1;cases r1) r1);have y:=Same.new aK (.tup [.ref b,.ref q.2]);have N:upd t p (.tup [.ref b,.ref q.2]) p=some (.tup [.ref b,.ref q.2]):=zd;have S:=y _ _ hb;generalize upd t p (.tup [.ref b,.ref q.2])=H3 at y N S⊢;have ek:vp (L.take (i+1))=vp (L.take i)++[q.1.1]:=by unfold vp;rw[cq,hq,ax];rfl
 have ez:kF (vp (L.take (i+1)))=kF (vp (L.take i))++[(hZ q.1.1,V.int 0)]:=by unfold kF;rw[ek,ax];rfl
 rw[ez];refine⟨p,_,J,aE.of N,J,_,_,J,_,_,J,J,?_⟩;refine⟨q.2,cR,a6,_,_,J,y _ _ aw,CR.cls,CR.n,F8,_,J,wf ⟨bF,λp4 H4 C j aS=>⟨(n.trans y).trans C,r++[p4],by rw[ax];rfl,Paired.snoc (Vo v (y.trans C)) ⟨b,aS,?_⟩⟩⟩⟩;rw[<-lx];exact C _ _ S;rintro U t ⟨n,r,rfl,v⟩ l hl;have e0:(yw L).length=L.length:=by unfold yw;exact aa ..
 rw[e0,cr,Zf hL]at v;have Z:=Same.new hl (.lst (r.map V.ref));refine⟨l,r,_,J,zd,Vo v Z,λd H4 C j R=>?_⟩;have F:=(n.trans Z).trans C;refine⟨F _ _ c,?_⟩;have hn:=Kz (hs.fs.map (·.1));have em:iX (kF (zh (plan hs))) []=yy (xj (Yp (plan hs))):=by rw[sE];unfold kF yy xj;rw[bn,bn];rfl;unfold kF;rw[bn];refine List.Pairwise.map _ (λa b a5 z=>a5 ?_) hn;exact qr (aR z)
 rw[em]at R;have a3:d≠h:=λz=>by rw[z]at j;rw[(n.trans Z) _ _ c]at j;cases j
 exact k d _ (iO F) (fresh (n.trans Z) j) (by rw[upd_ne a3];exact R)
end
end My
namespace L2
open PySem PySem.Spec PyProof.Rows
variable{b:Addr}{H:Hp}{M:List Addr}
inductive kN(x:V)(lo hi:Option Int)(H:Hp)(Q:VK):Prop|mk:∀ts,Is H (.tup ts) x->(∀v H',Same H H'->Is H' (.tup (Xh ts lo hi)) v->Q v H')->kN x lo hi H Q
theorem sd{X:Cx}:nC X kN:=by intro a s c H x v e d lo r g Q I j p m l h;obtain⟨f,n,q⟩:=h;exact DL a s c H x v e d lo r g Q I j p m l ⟨f,n.off0,λb t=>t.elim,λv u i o=>q v u i o.off⟩
noncomputable def without(M:List Addr)(H:Hp):Hp:=λb=>if b∈M then none else H b
theorem xq:Same (without M H) H:=λb o e=>by
 unfold without at e
 simp_all
theorem yk(h:b∈M):without M H b=none:=if_pos h
theorem yj(h:b ∉ M):without M H b=H b:=if_neg h
theorem Same.without{M:O Y}{H a:Hp}(s:Same H a)(h:∀m∈M,H m=none):Same H (without M a):=λb o e=>by
 have z:b ∉ M:=λz=>by simp_all
 rw[yj z];exact s b o e
theorem yM{a:Y}{o u:HO}(e:H a=some o):upd (upd H a u) a o=H:=by rw[FZ];funext b;by_cases z:b=a;rw[z,zd,e];rw[upd_ne z]
end L2
namespace My
open PySem PySem.Spec PyProof.Rows L2
variable{a ad al am as cP cR cU x xp:Addr}{A:Around}{base:Heap}{H H' H0:Hp}{sums:List Int}{h:List Nat}{p:Nat}{P:Program}{s:Shared}{mg:Str->Option Value}{w:World}
noncomputable def Qb:Stmt:=aX 73
noncomputable abbrev Z7:Stmt:=(xx Qb).getD 0 dH
noncomputable abbrev rW:Stmt:=(xx Qb).getD 1 dH
noncomputable abbrev tZ:Stmt:=(xx Qb).getD 3 dH
noncomputable abbrev sV:Stmt:=(xx Qb).getD 4 dH
noncomputable abbrev rV:Stmt:=(xx Qb).getD 5 dH
noncomputable abbrev Ql:Stmt:=(xx Qb).getD 7 dH
noncomputable abbrev Vh:Stmt:=(xx Qb).getD 8 dH
noncomputable abbrev mK:Stmt:=(xx Qb).getD 9 dH
noncomputable abbrev Qo:Stmt:=(xx Qb).getD 10 dH
noncomputable def cJ:List Str:=["plan","done","sums","comers","lifts"]
noncomputable def eZ(G ad as U Z:Addr):List (Str×V):=[(("plan":Str),.ref G),("done",.ref ad),("sums",.ref as),("comers",.ref U),("lifts",.ref Z)]
theorem Wz:(eZ xp ad as am al).lookup ("plan":Str)=some (.ref xp):=rfl
theorem Za:(eZ xp ad as am al).lookup ("done":Str)=some (.ref ad):=rfl
theorem Af:(eZ xp ad as am al).lookup ("sums":Str)=some (.ref as):=rfl
noncomputable def mM(hs:aB):dG (List Nat) aI:=MR hs.ss (plan hs)
theorem zU{R:List (List Nat×Nat)}(c:(zh R).Nodup){q:List Nat×Nat}(h:q∈R):yb R q.1=q.2:=by induction R with|nil=>grind| cons a l d=>have b:=bz.mp c;show(if a.1=q.1 then a.2 else yb l q.1)=q.2;rcases ag.mp h with e|e;rw[e,if_pos J];have f:q.1∈zh l:=List.mem_map_of_mem e;rw[if_neg (λz=>b.1 (by simp_all))];exact d b.2 e
theorem ka(hs:aB):(zh (plan hs)).Nodup:=Kz _
theorem tj{hs:aB}{q:O Nat×Nat}(h:q∈plan hs):(mM hs).scr q.1=hs.ss.getD q.2 []:=by show(if q.1∈zh (plan hs)then hs.ss.getD (yb (plan hs) q.1) []else[])=_;rw[if_pos (show q.1∈zh (plan hs)from List.mem_map_of_mem h),zU (ka hs) h]
theorem aM.role{hs:aB}{L:RL}(p:aM H cP cR hs L x)(hh:h∈zh (plan hs)):∃dx vh ar r,H x=some (.ins cP dx (ip vh ar))/\H ar=some (.dT (yw L))/\yq (yw L) (kI (hZ h))=some (.ref r)/\bP (λ_=>True) H cR ((mM hs).scr h) r:=by obtain⟨dx,vh,ar,g,i,f,d,e⟩:=p;obtain⟨q,b,rfl⟩:=bu.mp hh;have a:=b;rw[<-d]at b;obtain⟨z,c,rfl⟩:=bu.mp b;refine⟨dx,vh,ar,z.2,g,f,ME c (by rw[Zf d];exact ka hs),?_⟩;rw[tj a];exact e z c
theorem AU{b:List (List Nat×Nat)}{n:Nat}(o:(zh b).Nodup):v4 (yy b) (kI (hZ h)) (.int (n:Int))=yy (vm b h n):=by
 by_cases g:h∈zh b;have c:((yy b).any λm=>decide (m.1=kI (hZ h)))=true:=by obtain⟨q,i,rfl⟩:=bu.mp g;exact List.any_eq_true.mpr ⟨_,List.mem_map_of_mem i,bj J⟩
 unfold v4;rw[if_pos c];clear c;induction b with|nil=>nomatch g| cons a l p=>
   have f:=bz.mp o;show(if kI (hZ a.1)=kI (hZ h)then(kI (hZ a.1),V.int n)else(kI (hZ a.1),V.int a.2))::_=yy (if a.1=h then(a.1,n)::l else(a.1,a.2)::vm l h n);by_cases e:a.1=h;rw[if_pos (by rw[e]),if_pos e];congr 1;refine(List.map_congr_left λm j=>?_).trans (List.map_id' _);obtain⟨q,i,rfl⟩:=bu.mp j;refine if_neg λz=>f.1 ?_;have s:=qr (aR z)
   grind
   rw[if_neg (λz=>e (qr (aR z))),if_neg e];congr 1;rcases ag.mp g with z|z
   simp_all
   exact p f.2 z
 have hn:yq (yy b) (kI (hZ h))=none:=by cases e:yq (yy b) (kI (hZ h))with|none=>rfl| some v=>have d:=Wy e;unfold yy at d;rw[bn]at d;obtain⟨q,i,r⟩:=bu.mp d;exact absurd (by rw[<-qr (aR r)];exact List.mem_map_of_mem i) g
 rw[Zl _ hn,Vm g];unfold yy;simp
theorem Z4{b:List (List Nat×Nat)}(c:h∈zh b):yq (yy b) (kI (hZ h))=some (.int (yb b h:Int)):=by
 induction b with|nil=>nomatch c| cons a l d=>
   show yq ((kI (hZ a.1),V.int a.2)::yy l) _=some (.int ((if a.1=h then a.2 else yb l h:Nat)));by_cases e:a.1=h;rw[xz (by rw[e]),if_pos e];rw[xl (λz=>e (qr (aR z))),if_neg e];rcases ag.mp c with z|z
   simp_all
   exact d z
theorem MC{b:List (List Nat×Nat)}(c:h ∉ zh b):yq (yy b) (kI (hZ h))=none:=by induction b with|nil=>rfl| cons a l d=>show yq ((kI (hZ a.1),V.int a.2)::yy l) _=none;have e:a.1≠h:=λz=>c (by rw[<-z];exact bp);rw[xl (λz=>e (qr (aR z)))];exact d λz=>c (bq _ z)
inductive gZ(cU cP cR:Addr)(vs:List V)(H:Hp)(Q:VK)(e0:XK):Prop|mk:∀(H0:Hp)(x dx xp ad:Addr)(fs:List (Str×V))(hs:aB)(L:RL)(h:List Nat)(vh:V)(done:List (List Nat×Nat)),vs=[.ref x,vh,.int 0]->Same H0 H->H0 ad=none->H0 x=some (.ins cU dx fs)->fs.lookup ("plan":Str)=some (.ref xp)->fs.lookup ("done":Str)=some (.ref ad)->aM H0 cP cR hs L xp->h∈zh (plan hs)->Is H (tI (hZ h)) vh->H ad=some (.dT (yy done))->(zh done).Nodup->done.length<=1000->(∀H',Bt [ad] H H'->H' ad=some (.dT (yy (vm done h 0)))->Q .non H')->gZ cU cP cR vs H Q e0
section
variable{K:W.Frag}
theorem yE:aA ["self","hand","done","role","deeds","deed","wall","came"] ["self","hand","done"] (zf rW):=.of
theorem EM(D:qk K cU "put" "Run.put" rW)(M:aH K cU cJ)(CP:aH K cP aZ)(CR:aH K cR aT):bU P w K mg base cU "put" 1 ["self","hand","done"] (gZ cU cP cR):=by
 refine ku D yE ?_;rintro f aw A W s H vs Q E hr ⟨H0,x,dx,xp,ad,fs,n,L,h,vh,a,rfl,g,na,hx,f1,f2,PA,hh,af,u,Z,ap,k⟩ X;have hu:=ji hr;have q:=yE.nd;refine⟨_,zb (zo (i:=3) q (wg hu (zx (zx (pv 0) J) J) (pv 1))) (zb (zo (i:=4) q (kr sd (zx (pv 3) J) Zv (Zu (pv 2)))) (zb (Yj hu (zx (pv 0) J) (pv 1) (pv 2) J) (zb (wy PassesOwn.never J (j1 (pv 4)) (zp (i:=5) q) yo) (zg (tH (wy PassesOwn.never J (Y2 (zx (pv 3) J)) (j2 J (yv (zp (i:=6) q) (yv (zp (i:=7) q) qv))) yo)))))),?_⟩
 obtain⟨dp,vv,ar,S,hp,av,r,v,vc,vs,ab,an,ac,C,r2,r4,r5,U,_⟩:=PA.role hh;obtain⟨bh,rfl,t⟩:=kz af;refine⟨x,cU,dx,_,_,J,g _ _ hx,M.cls,M.n,f1,xp,cP,dp,_,_,J,g _ _ hp,CP.cls,CP.n,vi,ar,_,J,r▸DGet.t (g _ _ av) t,?_⟩;refine⟨S,cR,v,_,_,J,g _ _ C,CR.cls,CR.n,qd,?_⟩;refine⟨0,J,_,(r2.mono g),λv1 G p i1=>?_⟩;have e0:Xh (((mM n).scr h).map eD) none (some 0)=[]:=by unfold Xh;have h2:HT.bV (((mM n).scr h).map eD).length (((mM n).scr h).map eD).length (some ((0):Int))=min 0 (((mM n).scr h).map eD).length:=HT.qS _ _ _;have h3:HT.bV (((mM n).scr h).map eD).length (((mM n).scr h).map eD).length (some 0)=0:=h2.trans (Nat.zero_min _);rw[h3,Nat.zero_sub,List.take_zero]
 rw[e0]at i1;obtain⟨a1,x1,rfl,l,ah⟩:=i1;cases(ah);have R:=g.trans p;refine⟨x,cU,dx,_,_,J,R _ _ hx,M.cls,M.n,f2,ad,_,J,Q7.t (p _ _ u) (p _ _ t) (by unfold yy;rw[aa];exact xy ap),?_⟩;rw[show(V.int 0)=V.int ((0:Nat))from rfl,AU Z];have b2:Bt [ad] H (upd G ad (.dT (yy (vm a h 0)))):=p.bt.trans (Bt.upd (by simp));have d:upd G ad (.dT (yy (vm a h 0))) ad=some (.dT (yy (vm a h 0))):=zd;have j:upd G ad (.dT (yy (vm a h 0))) a1=some (.tup []):=by rw[upd_ne (λz=>by rw[z,p _ _ u]at l;cases l)];exact l
 generalize upd G ad (.dT (yy (vm a h 0)))=F at b2 d j⊢;have N:=b2.same g λm hm=>by rw[ak.mp hm];exact na
 refine⟨a1,J,⟨[],aE.of j⟩,?_⟩;refine V4 (λi c b=>F=b/\c=[some (.ref x),some (.ref bh),some (.int 0),some (.ref S),some (.ref a1),none,none,none]) ⟨J,J⟩ (λi c b _ ⟨e,_⟩=>by rw[<-e];exact aE.of j) (λi y c b hy _=>by cases hy) ?_;rintro c b ⟨rfl,rfl⟩;refine⟨ac,_,N _ _ U,trivial,λo=>?_⟩;have hf:upd F ac (.frz o (.dT [])) ac=some (.frz o (.dT [])):=zd;refine⟨S,cR,v,_,_,J,(by rw[upd_ne (λz=>by rw[z,U]at C;cases C)];exact N _ _ C),CR.cls,CR.n,tU,ac,o,[],J,hf,?_⟩;refine BM (λi c b=>upd F ac (.frz o (.dT []))=b) J (λi c b _ e=>by rw[<-e];exact hf) (λi y c b hy _=>by cases hy) ?_;rintro c b rfl;refine⟨hf,?_⟩;rw[yM (N _ _ U)];exact k F b2 d
end
inductive dF(H0:Hp)(cU cP cR:Addr)(hs:aB)(L:RL)(x ad as:Addr):Prop|mk:∀xp dx am al,aM H0 cP cR hs L xp->H0 x=some (.ins cU dx (eZ xp ad as am al))->H0 am=some (.lst [])->H0 al=some (.lst [])->H0 ad=none->H0 as=none->dF H0 cU cP cR hs L x ad as
def Wt(H:Hp)(ad as:Addr)(U:List (List Nat×Nat))(G:List Int):Prop:=H ad=some (.dT (yy U))/\H as=some (.lst (G.map V.int))
noncomputable def jf(hs:aB):List Int:=List.replicate hs.b.toNat 0
inductive lE(cU cP cR:Addr)(vs:List V)(H:Hp)(Q:VK)(e0:XK):Prop|mk:∀(G:Hp)(x dx xp d:Addr)(hs:aB)(L:RL)(F:List (List Nat)),vs=[.ref x,.ref xp,.ref d]->H x=some (.ins cU dx [])->Same G H->G x=none->G d=none->aM G cP cR hs L xp->dR hs->0<=hs.b->hs.b<=1000->H d=some (.dT (yy (xj F)))->F.Nodup->(∀h∈F,h∈zh (plan hs))->(∀ad as H0 H',Bt [x] H H0->Same H0 H'->dF H0 cU cP cR hs L x ad as->Wt H' ad as (xj F) (jf hs)->Q .non H')->lE cU cP cR vs H Q e0
section
variable{K:W.Frag}
theorem Kl:aA ["self","plan","stand","hand","done"] ["self","plan","stand"] (zf Z7):=.of
theorem KS(D:kB K mg "Run" "Run.__init__" cU Z7)(T:Txt K mg)(CU:aH K cU cJ)(CP:aH K cP aZ)(o1:bU P w K mg base cU "put" 1 ["self","hand","done"] (gZ cU cP cR)):eX P w K mg base "Run" cU 2 ["self","plan","stand"] (lE cU cP cR):=by
 refine nQ (k:=1) D Kl ?_;rintro f d3 A cc s H vs Q E hr ⟨G,x,v,j,d,U,L,F,rfl,hx,sG,Gx,Gd,PA,W,dT,dN,hd,a7,hF,k⟩ X;have nd:=Kl.nd;refine⟨_,zb (vb (pv 0) (pv 1) rfl) (zb (vb (pv 0) Y5 rfl) (zb (vb (pv 0) (ya yC (w9 (za ze zc)) (zr zt (zx (pv 1) rfl) (y8 T.BOXES))) rfl) (zb (vb (pv 0) (qc (own:=["wall"]) (cap:=[]) rfl (yt (zf Z7) rfl rfl (by decide+kernel) (by decide+kernel) (by decide+kernel) trivial) (ww rfl T.range (za (zr zt (zx (pv 1) rfl) (y8 T.WALLS)) zc)) (λ_ _ _ _=>zp (i:=0) (by show(["wall"]:O Str).Nodup;decide+kernel)) (λ_ _ _ _=>xu) (λ_ _ _ _=>Y3)) rfl)
  (zb (tH (wy PassesOwn.never rfl (Y2 (pv 2)) (j2 rfl (yv (zp (i:=3) nd) (yv (zp (i:=4) nd) qv))) (zg (wo (v6 o1 CU.cls hr (pv 0) (za (pv 3) (za (pv 4) zc))))))) (zg (vb (pv 0) (qc (own:=["wall"]) (cap:=[0]) rfl (yt (zf Z7) rfl rfl (by decide+kernel) (by decide+kernel) (by decide+kernel) ⟨⟨_,rfl,.inl rfl,v8 rfl⟩,trivial⟩) (ww rfl T.range (za (zr zt (zx (pv 1) rfl) (y8 T.WALLS)) zc)) (λ_ _ _ _=>zp (i:=0) (by show(["wall","self"]:O Str).Nodup;decide+kernel)) (λ_ _ _ _=>xu) (λ_ _ _ _=>Y3)) rfl)))))),?_⟩
 obtain⟨dp,vh,ar,hp,ih,dV,d1,dE⟩:=id PA;have hw:=W.nw.w;obtain⟨ah,xh,u0,rfl,du,e0,dv⟩:=Is.at (K:=K) (i:=0) (t:=.int U.b) ih rfl;refine⟨x,cU,v,[],rfl,hx,CU.cls,CU.n,bF,?_⟩;rw[show qb "plan" (.ref j) []=[(("plan":Str),V.ref j)] by rfl];have g1:upd H x (.ins cU v [(("plan":Str),V.ref j)]) x=_:=zd;have b1:Bt [x] H (upd H x (.ins cU v [(("plan":Str),V.ref j)])):=Bt.upd (by simp);generalize upd H x (.ins cU v [(("plan":Str),V.ref j)])=H1 at g1 b1⊢;intro ad C;have af:ad≠x:=λz=>by rw[z,g1]at C;cases C
 have s2:=Same.new C (.dT []);have h2:upd H1 ad (.dT []) ad=some (.dT []):=zd;generalize upd H1 ad (.dT [])=H2 at s2 h2⊢;refine⟨x,cU,v,_,rfl,s2 _ _ g1,CU.cls,CU.n,bF,?_⟩;rw[show qb "done" (.ref ad) [(("plan":Str),V.ref j)]=[(("plan":Str),V.ref j),("done",.ref ad)] by rw[y6 (by decide)];rfl];have g3:upd H2 x (.ins cU v [(("plan":Str),V.ref j),("done",.ref ad)]) x=_:=zd;have b3:Bt [x] H (upd H2 x (.ins cU v [(("plan":Str),V.ref j),("done",.ref ad)])):=(b1.trans s2.bt).trans (Bt.upd (by simp));have h3:upd H2 x (.ins cU v [(("plan":Str),V.ref j),("done",.ref ad)]) ad=_:=(upd_ne af).trans h2;generalize upd H2 x (.ins cU v [(("plan":Str),V.ref j),("done",.ref ad)])=H3 at g3 b3 h3⊢;have sx:∀{J:Hp},Bt [x] H J->Same G J:=λ{J} b=>b.same sG λm t=>by rw[ak.mp t];exact Gx
 refine⟨bF,λp4 H4 s4 dK c3=>?_⟩;have b4:=b3.trans (M:=[x]) s4.bt;have bh:=sx b4;obtain⟨a',b5,u4,e',cb,e4,c1⟩:=Is.at (K:=K) (i:=0) (t:=.int U.b) (ih.mono bh) rfl;cases e';cases(show u4=.int U.b from c1);refine⟨j,cP,dp,_,_,rfl,bh _ _ hp,CP.cls,CP.n,Vp,ah,b5,_,_,rfl,rfl,cb,e4,p4,U.b,_,rfl,rfl,c3,(by omega),(by omega),(by show 1*U.b.toNat<=sizeLine;exact Nat.le_of_lt (xy (by omega))),λas N=>?_⟩;have bL:(List.replicate U.b.toNat [V.int 0]).flatten=(jf U).map V.int:=by unfold jf;rw[List.map_replicate];induction U.b.toNat with|zero=>rfl|succ n ih=>rw[List.replicate_succ,List.flatten_cons,ih,List.replicate_succ];rfl
 rw[bL];have s5:=Same.new N (.lst ((jf U).map V.int));have h5:upd H4 as (.lst ((jf U).map V.int)) as=some (.lst ((jf U).map V.int)):=zd;generalize upd H4 as (.lst ((jf U).map V.int))=H5 at s5 h5⊢;have aS:as≠x:=λz=>by rw[z,s4 _ _ g3]at N;cases N
 have co:as≠ad:=λz=>by rw[z,s4 _ _ h3]at N;cases N
 refine⟨x,cU,v,_,rfl,s5 _ _ (s4 _ _ g3),CU.cls,CU.n,bF,?_⟩;rw[show qb "sums" (.ref as) [(("plan":Str),V.ref j),("done",.ref ad)]=[(("plan":Str),V.ref j),("done",.ref ad),("sums",.ref as)] by rw[y6 (by decide),y6 (by decide)];rfl];have g6:upd H5 x (.ins cU v [(("plan":Str),V.ref j),("done",.ref ad),("sums",.ref as)]) x=_:=zd;have b6:Bt [x] H (upd H5 x (.ins cU v [(("plan":Str),V.ref j),("done",.ref ad),("sums",.ref as)])):=(b4.trans s5.bt).trans (Bt.upd (by simp));have h6:upd H5 x (.ins cU v [(("plan":Str),V.ref j),("done",.ref ad),("sums",.ref as)]) ad=_:=(upd_ne af).trans (s5 _ _ (s4 _ _ h3));have i6:upd H5 x (.ins cU v [(("plan":Str),V.ref j),("done",.ref ad),("sums",.ref as)]) as=_:=(upd_ne aS).trans h5;generalize upd H5 x (.ins cU v [(("plan":Str),V.ref j),("done",.ref ad),("sums",.ref as)])=H6 at g6 b6 h6 i6⊢;have bg:=sx b6;obtain⟨a',b2,u6,e',ca,e6,c0⟩:=Is.at (K:=K) (i:=1) (t:=.int U.w) (ih.mono bg) rfl;cases e';cases(show u6=.int U.w from c0);rw[hw]at e6;refine⟨j,cP,dp,_,_,rfl,bg _ _ hp,CP.cls,CP.n,Vp,ah,b2,_,_,rfl,rfl,ca,e6,?_⟩;refine⟨0,rfl,(by decide),(by decide),?_⟩;let dr:Nat->O V->Hp->Prop:=λi ys H'=>ys=[]/\H6=H';refine jq (n:=(0:Int).toNat) dr ⟨rfl,rfl⟩ (λ_ ys _ _ ⟨e,_⟩=>by rw[e];exact be _) (λi _ _ h=>absurd h (Nat.not_lt_zero _)) ?_;rintro ys H' ⟨rfl,rfl⟩ M R;have s7:=Same.new R (.lst []);have h7:upd H6 M (.lst []) M=some (.lst []):=zd;generalize upd H6 M (.lst [])=H7 at s7 h7⊢;have bi:M≠x:=λz=>by rw[z,g6]at R;cases R
 refine⟨x,cU,v,_,rfl,s7 _ _ g6,CU.cls,CU.n,bF,?_⟩;rw[show qb "comers" (.ref M) [(("plan":Str),V.ref j),("done",.ref ad),("sums",.ref as)]=[(("plan":Str),V.ref j),("done",.ref ad),("sums",.ref as),("comers",.ref M)] by rw[y6 (by decide),y6 (by decide),y6 (by decide)];rfl];have g8:upd H7 x (.ins cU v [(("plan":Str),V.ref j),("done",.ref ad),("sums",.ref as),("comers",.ref M)]) x=_:=zd;have b8:Bt [x] H (upd H7 x (.ins cU v [(("plan":Str),V.ref j),("done",.ref ad),("sums",.ref as),("comers",.ref M)])):=(b6.trans s7.bt).trans (Bt.upd (by simp));have h8:upd H7 x (.ins cU v [(("plan":Str),V.ref j),("done",.ref ad),("sums",.ref as),("comers",.ref M)]) ad=_:=(upd_ne af).trans (s7 _ _ h6);have i8:upd H7 x (.ins cU v [(("plan":Str),V.ref j),("done",.ref ad),("sums",.ref as),("comers",.ref M)]) as=_:=(upd_ne aS).trans (s7 _ _ i6);have j8:upd H7 x (.ins cU v [(("plan":Str),V.ref j),("done",.ref ad),("sums",.ref as),("comers",.ref M)]) M=_:=(upd_ne bi).trans h7;generalize upd H7 x (.ins cU v [(("plan":Str),V.ref j),("done",.ref ad),("sums",.ref as),("comers",.ref M)])=H8 at g8 b8 h8 i8 j8⊢;have a6:d≠x:=λz=>by rw[z,hx]at hd;cases hd
 have bE:=b8 d _ (λt=>a6 (ak.mp t)) hd;refine⟨d,_,bE,trivial,λo=>?_⟩;have a5:upd H8 d (.frz o (.dT (yy (xj F)))) d=_:=zd;have a3:ad≠d:=λz=>by rw[z,b1 d _ (λt=>a6 (ak.mp t)) hd]at C;cases C
 have sf:Same G (upd H8 d (.frz o (.dT (yy (xj F))))):=λb u e=>by rw[upd_ne (λz=>by rw[z,Gd]at e;cases e)];exact sx b8 b u e
 have gf:upd H8 d (.frz o (.dT (yy (xj F)))) x=_:=(upd_ne (ai a6)).trans g8;have hf:upd H8 d (.frz o (.dT (yy (xj F)))) ad=_:=(upd_ne a3).trans h8;have aK:∀{J:Hp},Bt [ad] (upd H8 d (.frz o (.dT (yy (xj F))))) J->Bt [ad] H8 (upd J d (.dT (yy (xj F)))):=λ{J} b c u hc e=>by by_cases z:c=d;rw[z]at e⊢;rw[zd,<-e,bE];rw[upd_ne z];exact b c u hc (by rw[upd_ne z];exact e)
 generalize upd H8 d (.frz o (.dT (yy (xj F))))=Hf at a5 sf gf hf aK⊢;have bN:G ad=none:=by cases e:G ad with|none=>rfl|some u=>rw[sx b1 _ _ e]at C;cases C
 have d2:F.length<=1000:=by
  have q:=W4 (f:=λ_=>1) a7 hF;have e:∀l:O (O Nat),(l.map λ_=>1).sum=l.length:=λl=>by induction l with|nil=>rfl|cons a r ih=>rw[c4,List.sum_cons,ih,d7];omega
  rw[e,e]at q;have q2:(zh (plan U)).length<=1000:=by unfold zh;rw[aa];exact W.few
  omega
 refine⟨d,o,_,rfl,a5,?_⟩;let dq:Nat->L2.St->Hp->Prop:=λi σ H'=>∃x3 x4,σ=[some (.ref x),some (.ref j),some (.ref d),x3,x4]/\Bt [ad] Hf H'/\H' ad=some (.dT (yy (xj (F.take i))));refine BM (kvs:=yy (xj F)) dq ⟨none,none,rfl,Bt.refl,hf⟩ (λi σ H' _ ⟨_,_,_,b,_⟩=>b _ _ (λt=>a3 (ak.mp t).symm) a5) ?_ ?_;rintro i kv σ H' aw ⟨x3,x4,rfl,b9,h9⟩ p b c2 hb;obtain⟨h,hh,rfl⟩:∃h,F[i]?=some h/\(kI (hZ h),V.int 0)=kv:=by unfold yy xj at aw;rw[bn,au]at aw;cases e:F[i]? with|none=>rw[e]at aw;cases aw|some z=>rw[e]at aw;exact⟨z,rfl,Option.some.inj aw⟩
 have sp:=Same.new c2 (.tup [.ref b,.int 0]);have bD:upd H' p (.tup [.ref b,.int 0]) p=some (.tup [.ref b,.int 0]):=zd;generalize upd H' p (.tup [.ref b,.int 0])=Ha at sp bD⊢;have ba:=b9.trans (M:=[ad]) sp.bt;refine⟨p,_,rfl,aE.of bD,rfl,_,_,rfl,_,_,rfl,rfl,?_⟩;have bl:x≠ad:=ai af;have nk:h ∉ zh (xj (F.take i)):=λt=>by
  unfold zh xj at t;rw[bn]at t;obtain⟨g,hg,rfl⟩:=bu.mp t;have q:=a7;obtain⟨dg,de⟩:=ci.mp hh;have e3:F=F.take i++F[i]::F.drop (i+1):=by rw[<-List.drop_eq_getElem_cons dg,List.take_append_drop]
  rw[e3]at q;exact(List.nodup_append.mp q).2.2 _ hg _ bp de.symm
 refine⟨x,v,_,rfl,ba _ _ (λt=>bl (ak.mp t)) gf,rfl,without [ad] Hf,x,v,j,ad,[(("plan":Str),V.ref j),("done",.ref ad),("sums",.ref as),("comers",.ref M)],U,L,h,.ref b,xj (F.take i),rfl,ba.same xq (λm t=>yk t),yk (by simp),?_,rfl,rfl,?_,hF h (bv hh),?_,sp _ _ h9,?_,?_,λHb bb dh=>?_⟩;rw[yj (λt=>bl (ak.mp t))];exact gf;exact PA.same (sf.without λm t=>by rw[ak.mp t];exact bN);exact⟨b,_,rfl,sp _ _ (by rw[<-lx];exact hb),IsL.ints.mpr rfl⟩;unfold zh xj;rw[bn];exact(List.map_id' (F.take i)).symm▸a7.sublist (List.take_sublist ..);unfold xj;rw[aa,d5];omega;refine⟨_,_,rfl,ba.trans bb,?_⟩;rw[dh,Vm nk];unfold xj;rw[cq,hh,ax];rfl;rintro σ H9 ⟨x3,x4,rfl,b9,h9⟩;have el:(yy (xj F)).length=F.length:=by unfold yy xj;rw[aa,aa]
 rw[el,cr]at h9;refine⟨b9 _ _ (λt=>a3 (ak.mp t).symm) a5,?_⟩;have ay:=aK b9;have a8:upd H9 d (.dT (yy (xj F))) ad=_:=(upd_ne a3).trans h9;generalize upd H9 d (.dT (yy (xj F)))=Ht at ay a8⊢;have fW:M≠as:=λz=>by rw[z,i6]at R;cases R
 have bk:M≠ad:=λz=>by rw[z,h6]at R;cases R
 have gt:=ay _ _ (λt=>af (ak.mp t).symm) g8;have it:=ay _ _ (λt=>co (ak.mp t)) i8;have jt:=ay _ _ (λt=>bk (ak.mp t)) j8;have bd:Same G Ht:=ay.same (sx b8) λm t=>by rw[ak.mp t];exact bN
 obtain⟨a',b0,u9,e',b7,e9,cv⟩:=Is.at (K:=K) (i:=1) (t:=.int U.w) (ih.mono bd) rfl;cases e';cases(show u9=.int U.w from cv);rw[hw]at e9;refine⟨j,cP,dp,_,_,rfl,bd _ _ hp,CP.cls,CP.n,Vp,ah,b0,_,_,rfl,rfl,b7,e9,?_⟩;refine⟨0,rfl,(by decide),(by decide),?_⟩;let dn:Nat->O V->Hp->Prop:=λi ys H'=>ys=[]/\Ht=H';refine jq (n:=(0:Int).toNat) dn ⟨rfl,rfl⟩ (λ_ ys _ _ ⟨e,_⟩=>by rw[e];exact be _) (λi _ _ h=>absurd h (Nat.not_lt_zero _)) ?_;rintro ys H' ⟨rfl,rfl⟩ Z S;have av:=Same.new S (.lst []);have bJ:upd Ht Z (.lst []) Z=some (.lst []):=zd;generalize upd Ht Z (.lst [])=ap at av bJ⊢;have ck:Z≠x:=λz=>by rw[z,gt]at S;cases S
 have cl:Z≠as:=λz=>by rw[z,it]at S;cases S
 have cn:Z≠ad:=λz=>by rw[z,a8]at S;cases S
 refine⟨x,cU,v,_,rfl,av _ _ gt,CU.cls,CU.n,bF,?_⟩;rw[show qb "lifts" (.ref Z) [(("plan":Str),V.ref j),("done",.ref ad),("sums",.ref as),("comers",.ref M)]=eZ j ad as M Z by rw[y6 (by decide),y6 (by decide),y6 (by decide),y6 (by decide)];rfl];have bK:upd ap x (.ins cU v (eZ j ad as M Z)) x=_:=zd;have bI:upd ap x (.ins cU v (eZ j ad as M Z)) ad=_:=(upd_ne af).trans (av _ _ a8);have bC:upd ap x (.ins cU v (eZ j ad as M Z)) as=_:=(upd_ne aS).trans (av _ _ it);have bB:upd ap x (.ins cU v (eZ j ad as M Z)) M=_:=(upd_ne bi).trans (av _ _ jt);have bx:upd ap x (.ins cU v (eZ j ad as M Z)) Z=_:=(upd_ne ck).trans bJ;have bM:∀b u,b≠x->b≠ad->H8 b=some u->upd ap x (.ins cU v (eZ j ad as M Z)) b=some u:=λb u z1 z2 e=>by rw[upd_ne z1];exact av _ _ (ay b u (λt=>z2 (ak.mp t)) e)
 generalize upd ap x (.ins cU v (eZ j ad as M Z))=bc at bK bI bC bB bx bM⊢;have dt:∀b u,H b=some u->b≠x->b≠ad/\b≠as:=λb u e z=>⟨(λy=>by rw[y]at e z;rw[b1 _ _ (λt=>z (ak.mp t)) e]at C;cases C),(λy=>by rw[y]at e z;rw[b4 _ _ (λt=>z (ak.mp t)) e]at N;cases N)⟩
 have bw:Bt [x] H (without [ad,as] bc):=λb u hb e=>by have z:b≠x:=λz=>hb (ak.mpr z);obtain⟨z1,z2⟩:=dt b u e z;rw[yj (by simp[z1,z2])];exact bM b u z z1 (b8 b u hb e)
 refine k ad as (without [ad,as] bc) bc bw xq ⟨j,v,M,Z,PA.same (sx bw),?_,?_,?_,yk (by simp),yk (by simp)⟩ ⟨bI,bC⟩;rw[yj (by simp[ai af,ai aS])];exact bK;rw[yj (by simp[bk,fW])];exact bB;rw[yj (by simp[cn,cl])];exact bx
end
noncomputable abbrev Yz:Stmt:=aX 74
inductive fU(cU cP cR:Addr)(vs:List V)(H:Hp)(Q:VK)(e0:XK):Prop|mk:∀(xp:Addr)(hs:aB)(L:RL),vs=[.ref xp]->aM H cP cR hs L xp->dR hs->(∀x ad as H0 H',Same H H0->Same H0 H'->H x=none->dF H0 cU cP cR hs L x ad as->Wt H' ad as (xj (Yp (plan hs))) (jf hs)->Q (.ref x) H')->fU cU cP cR vs H Q e0
structure dO(H0 H:Hp)(cU cP cR:Addr)(hs:aB)(L:RL)(x ad as:Addr)(done:List (List Nat×Nat))(sums:List Int):Prop where
 f:dF H0 cU cP cR hs L x ad as
 s:Same H0 H
 m:Wt H ad as done sums
theorem dO.bt{hs:aB}{L:RL}{e d:O (O Nat×Nat)}{c:O Int}(r:dO H0 H cU cP cR hs L x ad as e sums)(b:Bt [ad,as] H H')(m:Wt H' ad as d c):dO H0 H' cU cP cR hs L x ad as d c:=by
 refine⟨r.f,b.same r.s λa i=>?_,m⟩;obtain⟨f,j,l,n,_,_,_,_,h,g⟩:=r.f
 grind
theorem Xu{hs:aB}{d:aI}(e:((mM hs).scr h)[p]?=some d):∃s∈hs.ss,d∈s:=by have a:(if h∈zh (plan hs)then hs.ss.getD (yb (plan hs) h) []else[])[p]?=some d:=e;by_cases c:h∈zh (plan hs);rw[if_pos c]at a;have q:=E8 a;exact⟨_,bv q,bv a⟩;rw[if_neg c]at a;cases a
theorem Ap{hs:aB}(W:vB hs)(h:List Nat):((mM hs).scr h).length<=1000:=by
 show(if h∈zh (plan hs)then hs.ss.getD (yb (plan hs) h) []else[]).length<=1000;by_cases c:h∈zh (plan hs);rw[if_pos c,c7];cases e:hs.ss[yb (plan hs) h]? with|none=>simp|some s=>exact W.len s (bv e)
 simp_all
def CM(H:Hp)(d:Option aI)(v:V):Prop:=match d with|none=>v=.non|some d=>Is H (eD d) v
theorem _root_.L2.DGet.tr{b:Y}{kvs:O (O aJ×V)}{k:O aJ}(e:Rd H a (.dT kvs))(c:H b=some (.tup (k.map kV))):DGet H a (.ref b) (yq kvs k):=.inr ⟨kvs,k,b,e,J,c,J⟩
structure dY(H0 H:Hp)(cU cP cR:Addr)(hs:aB)(L:RL)(x ad as:Addr)(done:List (List Nat×Nat))(sums:List Int):Prop where
 f:dF H0 cU cP cR hs L x ad as
 s:Same H0 H
 m:Rd H ad (.dT (yy done))/\H as=some (.lst (sums.map V.int))
theorem dY.same{hs:aB}{L:RL}{a:O (O Nat×Nat)}(r:dY H0 H cU cP cR hs L x ad as a sums)(s:Same H H'):dY H0 H' cU cP cR hs L x ad as a sums:=⟨r.f,r.s.trans s,r.m.1.elim (λe=>.inl (s _ _ e)) (λ⟨o,e⟩=>.inr ⟨o,s _ _ e⟩),s _ _ r.m.2⟩
noncomputable def pK(hs:aB)(U:List (List Nat×Nat))(G:List Int)(h:List Nat):Bool:=match((mM hs).scr h)[yb U h]? with|none=>false| some d=>match qV d with|none=>true|some (b,m)=>decide (m<=G.getD b 0)
inductive jO(cU cP cR:Addr)(vs:List V)(H:Hp)(Q:VK)(e0:XK):Prop|mk:∀(H0:Hp)(x ad as:Addr)(hs:aB)(L:RL)(done:List (List Nat×Nat))(sums:List Int)(h:List Nat)(vh:V),vs=[.ref x,vh]->dY H0 H cU cP cR hs L x ad as done sums->h∈zh (plan hs)->h∈zh done->dR hs->Is H (tI (hZ h)) vh->(∀v,CM H (((mM hs).scr h)[yb done h]?) v->Q v H)->jO cU cP cR vs H Q e0
inductive l9(cU cP cR:Addr)(vs:List V)(H:Hp)(Q:VK)(e0:XK):Prop|mk:∀(H0:Hp)(x ad as:Addr)(hs:aB)(L:RL)(done:List (List Nat×Nat))(sums:List Int)(b:Nat)(v:V),vs=[.ref x,v]->dY H0 H cU cP cR hs L x ad as done sums->Is H (.tup [.str "await",.int (b:Int)]) v->b<sums.length->Q (.int (sums.getD b 0)) H->l9 cU cP cR vs H Q e0
inductive l8(cU cP cR:Addr)(vs:List V)(H:Hp)(Q:VK)(e0:XK):Prop|mk:∀(H0:Hp)(x ad as:Addr)(hs:aB)(L:RL)(done:List (List Nat×Nat))(sums:List Int)(h:List Nat)(vh:V),vs=[.ref x,vh]->dY H0 H cU cP cR hs L x ad as done sums->h∈zh (plan hs)->h∈zh done->dR hs->sums.length=hs.b.toNat->Is H (tI (hZ h)) vh->(∀H',Same H H'->Q (.bl (pK hs done sums h)) H')->l8 cU cP cR vs H Q e0
section
variable{K:W.Frag}
theorem Mm:aA ["plan"] ["plan"] (zf Yz):=⟨J,J,J,by simp,J,by decide+kernel,by decide+kernel⟩
theorem yY{hs:aB}:∀h∈Yp (plan hs),h∈zh (plan hs):=λh a=>a
theorem wZ{hs:aB}:(Yp (plan hs)).Nodup:=ka hs
theorem L9(D:bG K mg "first_run" Yz)(Z:aH K cP aZ)(z:bU P w K mg base cP "at_first" 1 ["self"] (mx cP cR))(y:eX P w K mg base "Run" cU 2 ["self","plan","stand"] (lE cU cP cR)):Ok P w K mg base "first_run" 4 ["plan"] (fU cU cP cR):=by
 refine wa D Mm ?_;rintro f N A i s H vs Q E q ⟨g,j,L,rfl,PA,W,k⟩ X;refine⟨_,zg (zk (mW y q (za (pv 0) (za (Vq z Z.cls (q.mono (by decide)) (pv 0)) zc)))),?_⟩;obtain⟨M,vh,ar,C,_⟩:=id PA;refine⟨g,M,_,J,C,J,g,j,L,J,W,PA,λd r a l n=>?_⟩;intro x p c m F;have h:Same r (upd (upd r p (.own x)) x (.ins cU p [])):=λb o e=>by rw[upd_ne (zj e c),upd_ne (zj e m)];exact e
 refine⟨H,x,p,g,d,j,L,Yp (plan j),J,zd,a.trans h,xa a c,l,PA,W,W.b0,W.b9,h _ _ n,wZ,yY,λad as S U R t v u=>⟨J,?_⟩⟩;refine k x ad as S U (λb o e=>?_) t (xa a c) v u;refine R b o (λG=>?_) (h _ _ (a _ _ e));rw[ak.mp G,xa a c]at e;cases e
theorem Ak:aA ["self","hand","script","place"] ["self","hand"] (zf sV):=.of
theorem Fn(D:qk K cU "next_deed" "Run.next_deed" sV)(T:Txt K mg)(l:aH K cU cJ)(G:aH K cP aZ)(CR:aH K cR aT):bU P w K mg base cU "next_deed" 1 ["self","hand"] (jO cU cP cR):=by
 refine ku D Ak ?_;rintro f af A n s H N Q E hr ⟨H0,x,ad,as,Z,L,j,t,h,vh,rfl,R,hh,hk,W,o,k⟩ X;have z:=ji hr;have v:=Ak.nd;refine⟨_,zb (zo (i:=2) v (zx (wg z (zx (zx (pv 0) J) J) (pv 1)) J)) (zb (zo (i:=3) v (wg z (zx (pv 0) J) (pv 1))) (zg (zk (qo (zm mV (pv 3) (yf yg J T.len we (za (pv 2) zc)) (zu _)) (zr zt (pv 2) (pv 3)) Z2)))),?_⟩
 obtain⟨M,C,am,al,PA,y,_⟩:=R.f;obtain⟨dp,vv,ar,S,hp,p,a,q,vc,N,ab,an,ac,U,m,_⟩:=PA.role hh;obtain⟨bh,rfl,d⟩:=kz o;have m:=m.mono R.s;obtain⟨F,r,rfl,g,b⟩:=m;have i:=b.length;rw[aa]at i;refine⟨x,cU,C,_,_,J,R.s _ _ y,l.cls,l.n,Wz,M,cP,dp,_,_,J,R.s _ _ hp,G.cls,G.n,vi,ar,_,J,a▸DGet.t (R.s _ _ p) d,S,cR,q,_,_,J,R.s _ _ U,CR.cls,CR.n,qd,?_⟩;refine⟨x,cU,C,_,_,J,R.s _ _ y,l.cls,l.n,Za,ad,_,J,Z4 hk▸DGet.tr R.m.1 d,?_⟩;refine⟨F,r,J,.inr (aE.of g),_,_,J,J,_,J,?_⟩;rw[i];by_cases c:yb j h<((mM Z).scr h).length;rw[bj (by omega)];have e:=bo c;obtain⟨u,e1,e2⟩:=b.get (by rw[au,e];rfl);refine wf ⟨F,r,_,u,J,J,aE.of g,y9 e1,k u ?_⟩;rw[e];exact e2;rw[c6 (by omega)];refine yi (k .non ?_);rw[f8 (by omega)];rfl
theorem HX:aA ["self","ground"] ["self","ground"] (zf tZ):=.of
theorem GR(D:qk K cU "level" "Run.level" tZ)(m:aH K cU cJ):bU P w K mg base cU "level" 1 ["self","ground"] (l9 cU cP cR):=by
 refine ku D HX ?_;rintro f r A c s H u Q E M ⟨W,x,ad,as,G,L,j,i,b,v,rfl,R,o,N,k⟩ X;refine⟨_,zg (zk (qo (zm y0 (zr zt (pv 1) ze) zi (zu _)) (zr y4 (zx (pv 0) J) (zr zt (pv 1) ze)) Y3)),?_⟩;obtain⟨t,q,S,U,PA,p,_⟩:=R.f;obtain⟨l,n,rfl,a,h⟩:=o;obtain⟨z,C,rfl,e,y,F,rfl,d,g⟩:=h;cases(g);cases(e);cases(d);refine⟨l,_,_,_,J,J,aE.of a,J,J,_,J,wf ?_⟩;refine⟨x,cU,q,_,_,J,R.s _ _ p,m.cls,m.n,Af,l,_,_,_,J,J,aE.of a,J,as,_,_,_,J,J,aG.of R.m.2,y9 ?_,k⟩
 simp_all
end
theorem vK{c:Type}(a b:c)(r:O c):Xh (a::b::r) none (some 2)=[a,b]:=by unfold Xh;have e:HT.bV (a::b::r).length (a::b::r).length (some ((2:Nat)))=min 2 (a::b::r).length:=HT.qS _ _ _;have d:HT.bV (a::b::r).length (a::b::r).length (some 2)=2:=e.trans (by rw[d7,d7];omega);rw[d,HT.oj];rfl
noncomputable def mz:aI->List L2.T|.rai b _=>[.tup [.str "await",.int b]]|_=>[]
inductive jR(vs:List V)(H:Hp)(Q:VK)(e0:XK):Prop|mk:∀(x lw:Addr)(vd:V)(d:aI),vs=[.ref x,vd,.ref lw]->Is H (eD d) vd->H lw=some (.lst [])->(∀l H',Same H H'->H l=none->Is H' (.lst (mz d)) (.ref l)->Q (.ref l) H')->jR vs H Q e0
section
variable{K:W.Frag}
theorem yR:aA ["self","hand","deed","need"] ["self","hand"] (zf rV):=.of
theorem EK(D:qk K cU "may_go_on" "Run.may_go_on" rV)(l:aH K cU cJ)(CP:aH K cP aZ)(CR:aH K cR aT)(o1:bU P w K mg base cU "next_deed" 1 ["self","hand"] (jO cU cP cR))(o2:bU P w K mg base cU "level" 1 ["self","ground"] (l9 cU cP cR))(o3:Ok P w K mg base "is_met" 1 ["level","need"] ma):bU P w K mg base cU "may_go_on" 2 ["self","hand"] (l8 cU cP cR):=by
 refine ku D yR ?_;rintro f aw A y s H vs Q E t ⟨H0,x,ad,as,C,L,a,i,h,vh,rfl,R,hh,hk,W,af,n,k⟩ X;have hu:=ji t;have Z:=yR.nd;refine⟨_,zb (zo (i:=2) Z (v6 o1 l.cls t (pv 0) (za (pv 1) zc))) (zb (ye (Wi (qC (pv 2))) (zg (zk jy)) zn) (zb (zo (i:=3) Z (zr y4 (zx (wg hu (zx (zx (pv 0) J) J) (pv 1)) J) (wg hu (zx (pv 0) J) (pv 1)))) (zg (zk (pS (tz (qC (pv 3))) (j3 (yc o3 t (za (v6 o2 l.cls t (pv 0) (za (kr sd (pv 2) Zv (Zu ze)) zc)) (za (pv 3) zc))))))))),?_⟩
 obtain⟨xp,u,am,al,PA,r,_⟩:=id R.f;refine⟨x,u,_,J,R.s _ _ r,J,H0,x,ad,as,C,L,a,i,h,vh,J,R,hh,hk,W,n,λv j=>?_⟩;unfold pK at k;cases e:((mM C).scr h)[yb a h]? with
 | none=>rw[e]at j k;cases(j);exact⟨_,J,wf (k H (Same.refl H))⟩
 | some d=>
   rw[e]at j k;have j:Is H (eD d) v:=j;obtain⟨rr,F⟩:=Yb d;obtain⟨a5,x5,rfl,av,ah⟩:=(F▸j)
   refine⟨_,J,yi ?_⟩;obtain⟨dp,vv,ar,rl,hp,N,o,S,vc,vs,ab,an,ac,r1,r2,r4,r5,_⟩:=PA.role hh;obtain⟨bh,rfl,p⟩:=kz n;refine⟨x,cU,u,_,_,J,R.s _ _ r,l.cls,l.n,Wz,xp,cP,dp,_,_,J,R.s _ _ hp,CP.cls,CP.n,vi,ar,_,J,o▸DGet.t (R.s _ _ N) p,rl,cR,S,_,_,J,R.s _ _ r1,CR.cls,CR.n,AV,?_⟩;refine⟨x,cU,u,_,_,J,R.s _ _ r,l.cls,l.n,Za,ad,_,J,Z4 hk▸DGet.tr R.m.1 p,an,_,_,Z9 d,J,J,aG.of (R.s _ _ r5),y9 (by rw[au,e];rfl),?_⟩;obtain⟨q,c,g⟩:=Xu e;cases d with
   | awa b m=>obtain⟨M,ap⟩:=W.box q c _ g b m (.inr J);refine⟨_,J,yi ?_⟩;refine⟨x,u,_,J,R.s _ _ r,J,2,J,_,j,λv2 H2 U z=>?_⟩;rw[(vK _ _ _)]at z;have G:=Int.toNat_of_nonneg M;rw[<-G]at z;refine⟨H0,x,ad,as,C,L,a,i,b.toNat,v2,J,R.same U,z,by omega,_,_,J,k H2 U⟩
   |com w=>exact(W.nw.deeds q c _ g).elim
   |goo w=>exact(W.nw.deeds q c _ g).elim
   |lea w=>exact(W.nw.deeds q c _ g).elim
   |_=>exact⟨_,J,wf (k H (Same.refl H))⟩
theorem Ko:aA ["self","deed","walls","grounds","wall","lift"] ["self","deed","walls"] (zf Qo):=.of
theorem KK(D:qk K cU "changed" "Run.changed" Qo):bU P w K mg base cU "changed" 1 ["self","deed","walls"] jR:=by
 refine ku D Ko ?_;rintro f ah A G s H vs Q E hr ⟨x,t,vd,d,rfl,hd,c,k⟩ X;have nd:=Ko.nd;refine⟨_,zb (zo (i:=3) nd (qo (zm y0 (zr zt (pv 1) ze) zi (zu _)) (w9 (za (xi (za zi (za (zr zt (pv 1) ze) zc))) zc)) (w9 zc))) (zb (wy PassesOwn.never J (qi (pv 2)) (zp (i:=4) nd) yo) (zg (zk (pv 3)))),?_⟩
 obtain⟨r,R⟩:=Yb d;obtain⟨u,z,u5,rfl,F,W,N⟩:=Is.at (i:=0) (R▸hd) J;cases(N);refine⟨u,z,_,_,J,J,F,W,J,_,J,?_⟩;cases d with| rai b m=>
   obtain⟨a6,v,u6,e6,C,U,M⟩:=Is.at (i:=1) hd J;cases e6;cases(M);refine wf ⟨u,v,_,_,J,J,C,U,bF,λp H1 Z af S=>⟨bF,λl q o j n=>?_⟩⟩;have h:=Z.trans o;have iL:Is q (.lst (mz (.rai b m))) (.ref l):=⟨l,_,J,n,IsL.one ⟨p,_,J,o _ _ S,IsL.two J J⟩⟩
   refine⟨t,J,⟨[],aG.of (h _ _ c)⟩,?_⟩;refine Zn (λi a g=>q=g/\a=[some (V.ref x),some (.ref u),some (.ref t),some (.ref l),none,none]) ⟨J,J⟩ (λi a g _ ⟨e,_⟩=>by rw[<-e];exact aG.of (h _ _ c)) (λi y a g L _=>by cases L) ?_;rintro a g ⟨rfl,rfl⟩;exact(k l q h (xa Z j) iL)| _=>refine yi ⟨be _,λl q o j n=>?_⟩;refine⟨t,J,⟨[],aG.of (o _ _ c)⟩,?_⟩;refine Zn (λi a g=>q=g/\a=[some (V.ref x),some (.ref u),some (.ref t),some (.ref l),none,none]) ⟨J,J⟩ (λi a g _ ⟨e,_⟩=>by rw[<-e];exact aG.of (o _ _ c)) (λi y a g L _=>by cases L) ?_;rintro a g ⟨rfl,rfl⟩;exact(k l q o j ⟨l,_,J,n,J⟩)
end
noncomputable def Ce:List Str:=["self","hand","role","place","deed","wall"]
theorem rY:aA Ce ["self","hand"] (zf mK):=.of
noncomputable def V6(hs:aB)(G:List (List Nat×Nat))(h:List Nat):List (List Nat×Nat):=vm G h (yb G h+1)
inductive mi(cU cP cR:Addr)(vs:List V)(H:Hp)(Q:VK)(e0:XK):Prop|mk:∀(H0:Hp)(x ad as:Addr)(hs:aB)(L:RL)(done:List (List Nat×Nat))(sums:List Int)(h:List Nat)(vh:V)(d:aI),vs=[.ref x,vh]->dO H0 H cU cP cR hs L x ad as done sums->h∈zh (plan hs)->h∈zh done->dR hs->sums.length=hs.b.toNat->Is H (tI (hZ h)) vh->((mM hs).scr h)[yb done h]?=some d->(zh done).Nodup->done.length<=999->(∀l H',Bt [ad,as] H H'->H l=none->Wt H' ad as (V6 hs done h) (aO sums (dB d))->Is H' (.lst (mz d)) (.ref l)->Q (.ref l) H')->mi cU cP cR vs H Q e0
theorem C3{d:aI}(h:gy d):decide (V.str (dw d)=V.str "come")=false/\decide (V.str (dw d)=V.str "leave")=false/\ng (.str (dw d)) [.str "come",.str "leave"]=false:=by cases d<;>first|exact⟨J,J,J⟩|exact h.elim
section
variable{K:W.Frag}
theorem Wt.tups{H f:Hp}{ad as:Y}{d:O (O Nat×Nat)}{c:O Int}(m:Wt H ad as d c)(b:Bt [ad,as] H f):yu H f:=b.tups λa g h e=>by rcases ag.mp g with z|z;rw[z,m.1]at e;cases e;rw[ak.mp z,m.2]at e;cases e
theorem EX(T:Txt K mg)(CU:aH K cU cJ)(CR:aH K cR aT)(oC:bU P w K mg base cU "changed" 1 ["self","deed","walls"] jR){f:Y}{cdv:I}{outer:O Env}{Q:VK}{E:XK}(hr:aQ 1 (A.deeper (envOfC "Run.do" (zf mK) s.heap.objs.size f cdv))) {dx v c ab an ac a5:Y} {vc vs vl:V} {v1:V} {ds:yz} {d:aI} (hx:H0 x=some (.ins cU dx (eZ xp ad as am al))) (D:H0 v=some (.ins cR c (lb vc vs vl ab an ac))) (r2:Is H0 (eS ds) vs) (L:H0 ac=some (.dT [])) (X:gy d):
  ∃ tt,eG (iQ fR P w K mg base Ce "Run.do" (zf mK) f cdv A outer s H E).nox ((wr mK).drop 6) tt/\∀H',Same H0 H'->Is H' (eD d) (.ref a5)->(∀l u,Same H' u->H' l=none->Is u (.lst (mz d)) (.ref l)->Q (.ref l) u)->
    tt (.of Q) [some (.ref x),some v1,some (.ref v),some (.int (p:Int)),some (.ref a5),none] H':=by
 have nd:=rY.nd;refine⟨_,zb (ye (zm y0 (zr zt (pv 4) ze) zi (zu _)) yo zn) (zb (ye (zm y0 (zr zt (pv 4) ze) zi (zu _)) yo zn) (zb (ye (zm y0 (ya xv (pv 3) ze) (yf yg (by rfl) T.len we (za (zx (pv 2) J) zc)) (zu _)) (zb (tH (wy PassesOwn.never J (AS (zx (pv 2) J)) (zp (i:=5) nd) yo)) (zg (zk (v6 oC CU.cls hr (pv 0) (za (pv 4) (za (yx (BS J) (by rfl) T.list J9 (za (zx (pv 2) J) zc)) zc)))))) zn)
  (zg (zk (v6 oC CU.cls hr (pv 0) (za (pv 4) (za (qo (zm Z8 (zr zt (pv 4) ze) (je (za zi (za zi zc))) J) Y3 (w9 zc)) zc))))))),?_⟩
 intro H' a N k;obtain⟨e1,e2,e3⟩:=C3 X;obtain⟨r,W⟩:=Yb d;obtain⟨a6,g,u5,e6,h,t,U⟩:=Is.at (i:=0) (W▸N) J;cases e6;cases(U);refine⟨a5,g,_,_,J,J,h,t,J,_,J,?_⟩;rw[e1];refine yi ⟨a5,g,_,_,J,J,h,t,J,_,J,?_⟩;rw[e2];refine yi ?_;obtain⟨aS,xS,rfl,af,ah⟩:=r2.mono a;refine⟨_,_,J,J,v,cR,c,_,_,J,a _ _ D,CR.cls,CR.n,qd,aS,xS,J,.inr (aE.of af),J,_,J,?_⟩;refine jw (λ_=>?_) (λ_=>?_);refine⟨ac,_,a _ _ L,trivial,λo=>?_⟩;have hf:upd H' ac (.frz o (.dT [])) ac=some (.frz o (.dT [])):=zd;refine⟨v,cR,c,_,_,J,(by rw[upd_ne (λz=>by rw[z,L]at D;cases D)];exact a _ _ D),CR.cls,CR.n,tU,ac,o,[],J,hf,?_⟩;refine Il (λi F G=>upd H' ac (.frz o (.dT []))=G/\F=[some (.ref x),some v1,some (.ref v),some (.int p),some (.ref a5),none]) ⟨J,J⟩ (λi F G _ ⟨e,_⟩=>by rw[<-e];exact hf) (λi y F G b hy _=>by cases hy) ?_;rintro F G ⟨rfl,rfl⟩;refine⟨hf,?_⟩;rw[yM (a _ _ L)];refine⟨x,dx,_,J,a _ _ hx,J,v,cR,c,_,_,J,a _ _ D,CR.cls,CR.n,tU,ac,[],J,⟨[],a _ _ L,J⟩,λys q H2 C Z m S=>?_⟩;cases(S);exact⟨x,q,.ref a5,d,J,N.mono C,m,λl H3 M n R=>k l H3 (C.trans M) (xa C n) R⟩;refine⟨x,dx,_,J,a _ _ hx,J,a5,g,_,_,J,J,h,t,(by decide),λq hq=>⟨q,_,J,.inr (aE.of zd),J,J,_,J,?_⟩⟩;rw[e3];have s1:=Same.new hq (.tup [.str "come",.str "leave"]);refine yi ⟨be _,λq2 H2 C Z m=>?_⟩;have j:=s1.trans C;exact⟨x,q2,.ref a5,d,J,N.mono j,m,λl H3 M n R=>k l H3 (j.trans M) (xa j n) R⟩
theorem Dh(D:qk K cU "do" "Run.do" mK)(T:Txt K mg)(n:aH K cU cJ)(CP:aH K cP aZ)(CR:aH K cR aT)(oC:bU P w K mg base cU "changed" 1 ["self","deed","walls"] jR):bU P w K mg base cU "do" 2 ["self","hand"] (mi cU cP cR):=by
 refine ku (k:=1) D rY ?_;rintro f bN A r s H vs Q E hr ⟨H0,x,ad,as,hs,L,a,c,h,vh,d,rfl,R,hh,hk,W,b4,bd,hd,bc,b6,k⟩ X;have hu:=ji hr;have nd:=rY.nd;obtain⟨xp,dx,am,al,PA,S,_,_,b3,b0⟩:=id R.f;obtain⟨dp,vv,ar,rl,hp,bE,U,bM,vc,vs,ab,an,ac,r1,r2,r4,r5,r6,_⟩:=PA.role hh;obtain⟨bh,rfl,v⟩:=kz bd;obtain⟨sc,Z,ah⟩:=Xu hd;have g:gy d:=W.nw.deeds sc Z d ah;obtain⟨aS,xS,rfl,bI,bB⟩:=id r2;obtain⟨v5,e5,i5⟩:=bB.get (i:=yb a h) (t:=eD d) (by rw[au,hd];rfl);obtain⟨rr,af⟩:=Yb d;obtain⟨p,x5,rfl,b8,b5⟩:=(af▸i5:Is H0 (.tup (.str (dw d)::rr)) v5)
 obtain⟨tt,bw,kt⟩:=EX (P:=P) (w:=w) (mg:=mg) (base:=base) (f:=f) (cdv:=bN) (A:=A) (outer:=r) (s:=s) (H:=H) (Q:=Q) (E:=E) T n CR oC hr (v1:=.ref bh) (p:=yb a h) (a5:=p) (d:=d) S r1 r2 r6 g;refine⟨_,zb (zo (i:=2) nd (wg hu (zx (zx (pv 0) J) J) (pv 1))) (zb (zo (i:=3) nd (wg hu (zx (pv 0) J) (pv 1))) (zb (zo (i:=4) nd (zr zt (zx (pv 2) J) (pv 3))) (zb (Yj hu (zx (pv 0) J) (pv 1) (ya xv (pv 3) ze) J) (zb (ye (zm y0 (zr zt (pv 4) ze) zi (zu _)) (zg (F7 (zx (pv 0) J) (zr zt (pv 4) ze) Gj (zr zt (pv 4) ze) xB W7)) zn) (zb (ye (zm y0 (zr zt (pv 4) ze) zi (zu _)) yo zn) bw))))),?_⟩
 refine⟨x,cU,dx,_,_,J,R.s _ _ S,n.cls,n.n,Wz,xp,cP,dp,_,_,J,R.s _ _ hp,CP.cls,CP.n,vi,ar,_,J,U▸DGet.t (R.s _ _ bE) v,?_⟩;refine⟨x,cU,dx,_,_,J,R.s _ _ S,n.cls,n.n,Za,ad,_,J,Z4 hk▸DGet.t R.m.1 v,?_⟩;refine⟨rl,cR,bM,_,_,J,R.s _ _ r1,CR.cls,CR.n,qd,aS,xS,_,_,J,J,aE.of (R.s _ _ bI),y9 e5,?_⟩;refine⟨_,_,J,J,x,cU,dx,_,_,J,R.s _ _ S,n.cls,n.n,Za,ad,_,J,Q7.t R.m.1 v (by unfold yy;rw[aa];exact xy (by omega)),?_⟩;have ep:v4 (yy a) (kI (hZ h)) ((λi j=>V.int (i+j)) (yb a h:Int) 1)=yy (vm a h (yb a h+1)):=AU (n:=yb a h+1) bc;rw[ep];have N:as≠ad:=λz=>by have q:=R.m.2;rw[z,R.m.1]at q;cases q
 have b1:Bt [ad,as] H (upd H ad (.dT (yy (vm a h (yb a h+1))))):=Bt.upd (by simp);have C:Wt (upd H ad (.dT (yy (vm a h (yb a h+1))))) ad as (vm a h (yb a h+1)) c:=⟨zd,by rw[upd_ne N];exact R.m.2⟩
 generalize upd H ad (.dT (yy (vm a h (yb a h+1))))=H1 at b1 C⊢;have R1:=R.bt b1 C;have u:Is H1 (eD d) (.ref p):=i5.mono R1.s;have t:∀{G:Hp}{l:Addr},Bt [ad,as] H G->G ad≠none->G as≠none->G l=none->H l=none:=λ{G l} b h1 h2 e=>by cases z:H l with|none=>rfl| some o=>by_cases hm:l∈[ad,as];rcases ag.mp hm with y|y;rw[y]at e;exact absurd e h1;rw[ak.mp y]at e;exact absurd e h2;rw[b l o hm z]at e;cases e
 obtain⟨a6,F,u5,e6,M,av,bl⟩:=Is.at (K:=K) (i:=0) (t:=.str (dw d)) (af▸u) J;cases e6;cases(show u5=.str (dw d)from bl);have fin:∀{G:Hp}{dn:List (List Nat×Nat)}{sm:List Int},Bt [ad,as] H G->Wt G ad as dn sm->dn=V6 hs a h->sm=aO c (dB d)->tt (.of Q) [some (.ref x),some (.ref bh),some (.ref rl),some (.int (yb a h:Int)),some (.ref p),none] G:=λ{G dn sm} b m e1 e2=>by have RG:=R.bt b m;refine kt G RG.s (i5.mono RG.s) λl G2 s2 bx i2=>k l G2 (b.trans s2.bt) (t b (by rw[m.1];exact λz=>by cases z) (by rw[m.2];exact λz=>by cases z) bx) ?_ i2;rw[<-e1,<-e2];exact⟨s2 _ _ m.1,s2 _ _ m.2⟩
 refine⟨p,F,_,_,J,J,M,av,J,_,J,?_⟩;cases d with| rai b m=>
   refine wf ?_;obtain⟨ap,b7⟩:=W.box sc Z _ ah b m (.inl J);obtain⟨a6,aK,u6,e6,bb,bL,bk⟩:=Is.at (K:=K) (i:=1) (t:=.int b) u J;cases e6;cases(show u6=.int b from bk);obtain⟨a7,ay,u7,e7,ba,bK,bi⟩:=Is.at (K:=K) (i:=2) (t:=.int m) u J;cases e7;cases(show u7=.int m from bi);have bD:b.toNat<c.length:=by omega
   have eg:(c.map V.int)[b.toNat]?=some (.int (c.getD b.toNat 0)):=by rw[au,c7,bo bD];rfl
   have bC:jU (c.map V.int).length b=some b.toNat:=by unfold jU;rw[if_pos ap,if_pos (by rw[aa];omega)]
   refine⟨x,cU,dx,_,_,J,R1.s _ _ S,n.cls,n.n,Af,p,aK,_,_,J,J,bb,bL,as,_,b,_,J,J,ap,aG.of C.2,eg,p,ay,_,_,J,J,ba,bK,_,_,J,J,as,_,b,b.toNat,J,J,C.2,bC,?_⟩;have es:(c.map V.int).set b.toNat (.int (c.getD b.toNat 0+m))=(aO c (dB (.rai b m))).map V.int:=by show _=(c.set b.toNat (c.getD b.toNat 0+m)).map V.int;rw[List.map_set]
   rw[es];have b2:Bt [ad,as] H (upd H1 as (.lst ((aO c (dB (.rai b m))).map V.int))):=b1.trans (Bt.upd (by simp));have m2:Wt (upd H1 as (.lst ((aO c (dB (.rai b m))).map V.int))) ad as (vm a h (yb a h+1)) (aO c (dB (.rai b m))):=⟨by rw[upd_ne (ai N)];exact C.1,zd⟩
   generalize upd H1 as (.lst ((aO c (dB (.rai b m))).map V.int))=H2 at b2 m2⊢;have R2:=R.bt b2 m2;obtain⟨a8,aw,u8,e8,a3,bJ,bg⟩:=Is.at (K:=K) (i:=0) (t:=.str "raise") (i5.mono R2.s) J;cases e8;cases(show u8=.str "raise" from bg);exact⟨p,aw,_,_,J,J,a3,bJ,J,_,J,yi (fin b2 m2 J J)⟩|beg j ms=>exact g.elim|com w=>exact g.elim|goo w=>exact g.elim|lea w=>exact g.elim|_=>exact yi ⟨p,F,_,_,J,J,M,av,J,_,J,yi (fin b1 C J J)⟩
end
noncomputable def iI(hs:aB)(G:List (List Nat×Nat))(h:List Nat):Bool:=decide (h∈zh G) && decide (yb G h=((mM hs).scr h).length)
noncomputable def kf(hs:aB)(G:List (List Nat×Nat)):Bool:=(zh (plan hs)).all (iI hs G)
inductive md(cU:Addr)(vs:List V)(H:Hp)(Q:VK)(e0:XK):Prop|mk:∀(x dx xp ad as am al:Addr)(done:List (List Nat×Nat))(h:List Nat)(p:Nat)(vn:V),vs=[.ref x,vn]->H x=some (.ins cU dx (eZ xp ad as am al))->H ad=some (.dT (yy done))->Is H (.tup [tI (hZ h),.int (p:Int)]) vn->Q (.bl (decide (p<yb done h))) H->md cU vs H Q e0
inductive jQ(cU cP cR:Addr)(vs:List V)(H:Hp)(Q:VK)(e0:XK):Prop|mk:∀(H0:Hp)(x ad as:Addr)(hs:aB)(L:RL)(done:List (List Nat×Nat))(sums:List Int),vs=[.ref x]->dO H0 H cU cP cR hs L x ad as done sums->dR hs->(∀H',Same H H'->Q (.bl (kf hs done)) H')->jQ cU cP cR vs H Q e0
theorem AB{a:O (O Nat×Nat)}{b:Y}(d:H ad=some (.dT (yy a)))(e:H b=some (.tup ((kI (hZ h)).map kV))):DGet H ad (.ref b) (if h∈zh a then some (.int (yb a h:Int))else none):=by have q:=DGet.t d e;by_cases c:h∈zh a;rw[if_pos c,<-Z4 c];exact q;rw[if_neg c,<-MC c];exact q
section
variable{K:W.Frag}
theorem Lj:aA ["self","name"] ["self","name"] (zf Ql):=.of
theorem KM(D:qk K cU "has_done" "Run.has_done" Ql)(q:aH K cU cJ):bU P w K mg base cU "has_done" 1 ["self","name"] (md cU):=by
 refine ku D Lj ?_;rintro f C A g s H G Q E y ⟨x,z,F,ad,as,W,Z,a,h,p,L,rfl,u,b,t,k⟩ X;have v:=ji y;refine⟨_,zg (zk (qa Je (Vu v (zx (pv 0) J) (zr zt (pv 1) ze) ze ⟨J,J,J,J⟩) (zr zt (pv 1) ze) (zu _))),?_⟩;obtain⟨o,r,rfl,d,m⟩:=t;obtain⟨N,R,rfl,j,M,S,rfl,i,l⟩:=m;cases(l);cases(i);obtain⟨U,rfl,n⟩:=kz j;refine⟨x,cU,z,_,_,J,u,q.cls,q.n,Za,ad,J,.inr ⟨_,.inl b⟩,o,_,_,_,J,J,aE.of d,J,_,AB b n,?_⟩;have e:((if h∈zh a then some (V.int (yb a h))else none).getD (.int 0))=.int (yb a h):=by by_cases c:h∈zh a;rw[if_pos c];rfl;rw[if_neg c,Xv c];rfl
 rw[e];refine⟨o,_,_,_,J,J,aE.of d,J,_,_,J,J,?_⟩;simpa[Ends.of]using k
theorem BD:aA ["self","roles"] ["self"] (zf Vh):=.of
theorem JI(D:qk K cU "has_done_all" "Run.has_done_all" Vh)(T:Txt K mg)(CU:aH K cU cJ)(CP:aH K cP aZ)(CR:aH K cR aT):bU P w K mg base cU "has_done_all" 1 ["self"] (jQ cU cP cR):=by
 refine ku (k:=0) D BD ?_;rintro f bb A ap s H vs Q E hr ⟨H0,x,ad,as,d,L,a,a8,rfl,R,W,k⟩ X;have hu:=ji hr;have nd:=BD.nd;refine⟨_,zb (zo (i:=1) nd (zx (zx (pv 0) J) J)) (zg (zk (qD (yf (kx J) J T.all Xk (za (qc (own:=["hand","role"]) (cap:=[0]) (g:=eT K 2 (bR (js 0) (bR (js 1) lr))) J (yt (zf Vh) J J (by decide+kernel) (by decide+kernel) (by decide+kernel) ⟨⟨_,J,.inl J,v8 J⟩,trivial⟩) (Y2 (pv 1)) (λ_ _ _ _=>j2 J (yv (zp (i:=0) (by show(["hand","role","self"]:O Str).Nodup;decide+kernel)) (yv (zp (i:=1) (by show(["hand","role","self"]:O Str).Nodup;decide+kernel)) qv)))
   (λ_ _ _ _=>xu) (λ_ _ _ _=>qa y0 (ta:=yI (mL K (jA 2) "done") (jA 0)) (tb:=qQ (λxs H Q=>∃p t,xs=[.ref p]/\(aG K H p t\/aE K H p t)/\Q (.int t.length) H) (nR (mL K (jA 1) "script") kE)) (AQ hu (zx (pv 2) J) (pv 0) ⟨J,J,J,J⟩) (yf yg (by rfl) T.len we (za (zx (pv 1) J) zc)) (zu _))) zc))))),?_⟩
 obtain⟨xp,dx,am,al,PA,hx,_,_,S,_⟩:=id R.f;obtain⟨dp,vh,n,hp,ih,r,C,aw⟩:=id PA;refine⟨x,cU,dx,_,_,J,R.s _ _ hx,CU.cls,CU.n,Wz,xp,cP,dp,_,_,J,R.s _ _ hp,CP.cls,CP.n,vi,?_⟩;have m:=R.s _ _ r;refine⟨n,_,m,trivial,λo=>?_⟩;have g:upd H n (.frz o (.dT (yw L))) n=some (.frz o (.dT (yw L))):=zd;have M:∀{b:Y}{u:HO},b≠n->H b=some u->upd H n (.frz o (.dT (yw L))) b=some u:=λ{b u} z e=>by rw[upd_ne z];exact e
 have iO:∀{G:Hp},Same (upd H n (.frz o (.dT (yw L)))) G->Same H (upd G n (.dT (yw L))):=λ{G} s b u e=>by by_cases z:b=n;rw[z]at e⊢;rw[zd,<-e,m];rw[upd_ne z];exact s _ _ (M z e)
 generalize upd H n (.frz o (.dT (yw L)))=Hf at g M iO⊢;have av:=M (λz=>by rw[z,r]at hx;cases hx) (R.s _ _ hx);have v:=M (λz=>by rw[z,r]at S;cases S) R.m.1;have ba:L.length<=1000:=by have q:=W.few;have e:=congrArg List.length C;rw[aa]at e;rw[e];exact q
 refine⟨n,o,_,J,g,?_⟩;refine uC (λi t N=>Same Hf N/\t=(vp (L.take i)).map λh=>V.bl (iI d a h)) ⟨Same.refl _,J⟩ (λi t N hi ⟨y,e⟩=>⟨y _ _ g,?_⟩) ?_ ?_;rw[e,aa];unfold vp;rw[aa,d5];exact Nat.le_of_lt (xy (by omega));rintro i kv t N j ⟨y,rfl⟩ p b a3 hb;obtain⟨q,hq,rfl⟩:∃q,L[i]?=some q/\(kI (hZ q.1.1),V.ref q.2)=kv:=by unfold yw at j;rw[au]at j;cases e:L[i]? with|none=>rw[e]at j;cases j|some z=>rw[e]at j;exact⟨z,J,Option.some.inj j⟩
 have U:q∈L:=bv hq;obtain⟨a7,vc,vs,ab,an,ac,r1,r2,_⟩:=aw q U;have ay:=y _ _ (M (λz=>by rw[z,r]at r1;cases r1) (R.s _ _ r1));have sp:=Same.new a3 (.tup [.ref b,.ref q.2]);have Z:upd N p (.tup [.ref b,.ref q.2]) p=some (.tup [.ref b,.ref q.2]):=zd;have af:=sp _ _ hb;generalize upd N p (.tup [.ref b,.ref q.2])=H3 at sp Z af⊢;have F:=y.trans sp;have tf:yu H Hf:=λc zs e=>M (λz=>by rw[z,m]at e;cases e) e;obtain⟨aS,xS,rfl,a6,a5⟩:=((r2.mono R.s).tups tf (Wo _)).mono F;have ah:=a5.length;rw[aa]at ah;have aK:q.1∈plan d:=by rw[<-C];exact List.mem_map_of_mem U
 have ek:vp (L.take (i+1))=vp (L.take i)++[q.1.1]:=by unfold vp;rw[cq,hq,ax];rfl
 rw[ek,ax];refine⟨p,_,J,aE.of Z,J,_,_,J,_,_,J,J,?_⟩;refine uJ ?_;refine⟨x,cU,dx,_,_,J,F _ _ av,CU.cls,CU.n,Za,ad,J,.inr ⟨_,.inl (F _ _ v)⟩,_,AB (F _ _ v) af,q.2,cR,a7,_,_,J,sp _ _ ay,CR.cls,CR.n,qd,aS,xS,J,.inr (aE.of a6),?_⟩;have el:xS.length=((mM d).scr q.1.1).length:=by rw[ah,tj aK]
 rw[el];by_cases c:q.1.1∈zh a;rw[if_pos c];refine⟨J,F,?_⟩;have e2:decide (V.int (yb a q.1.1:Int)=V.int (((mM d).scr q.1.1).length:Int))=iI d a q.1.1:=by unfold iI;rw[bj c,Bool.true_and,Bool.eq_iff_iff];simp only[decide_eq_true_eq,V.int.injEq];omega
 show _++[V.bl (decide (V.int (yb a q.1.1:Int)=V.int (((mM d).scr q.1.1).length:Int)))]=_;rw[e2];rfl;rw[if_neg c];refine⟨J,F,?_⟩;have e2:iI d a q.1.1=false:=by unfold iI;rw[c6 c,Bool.false_and]
 show _=_++[V.bl (iI d a q.1.1)];rw[e2];rfl;rintro t N ⟨y,rfl⟩ l hl;have e0:(yw L).length=L.length:=by unfold yw;exact aa ..
 rw[e0,cr,Zf C];have sl:=Same.new hl (.lst ((zh (plan d)).map λh=>V.bl (iI d a h)));refine⟨l,(zh (plan d)).map (iI d a),J,aG.of (by rw[zd,bn];rfl),sl _ _ (y _ _ g),?_⟩;have e:((zh (plan d)).map (iI d a)).all id=kf d a:=by rw[List.all_map];rfl
 rw[e];exact k _ (iO (y.trans sl))
end
noncomputable def uu:Stmt:=aX 75
noncomputable abbrev Yd:Stmt:=(xx uu).getD 0 dH
noncomputable abbrev sY:Stmt:=(xx uu).getD 1 dH
noncomputable abbrev uq:Stmt:=(xx uu).getD 2 dH
noncomputable def cG:List Str:=["run","held","woven","ready","waiting","stopped"]
structure WA where
 x:Addr
 xr:Addr
 ad:Addr
 as:Addr
 ah:Addr
 ao:Addr
 ay:Addr
 aw:Addr
 ap:Addr
noncomputable def ly(a:WA):List (Str×V):=[(("run":Str),.ref a.xr),("held",.ref a.ah),("woven",.ref a.ao),("ready",.ref a.ay),("waiting",.ref a.aw),("stopped",.ref a.ap)]
theorem Qd{a:WA}:(ly a).lookup ("run":Str)=some (.ref a.xr):=rfl
theorem F1{a:WA}:(ly a).lookup ("held":Str)=some (.ref a.ah):=rfl
theorem Bi{a:WA}:(ly a).lookup ("woven":Str)=some (.ref a.ao):=rfl
theorem Ww{a:WA}:(ly a).lookup ("ready":Str)=some (.ref a.ay):=rfl
theorem Ke{a:WA}:(ly a).lookup ("waiting":Str)=some (.ref a.aw):=rfl
theorem LE{a:WA}:(ly a).lookup ("stopped":Str)=some (.ref a.ap):=rfl
noncomputable def hT(h:List Nat):L2.T:=tI (hZ h)
inductive bY(H:Hp)(a:Addr)(hs:List (List Nat)):Prop|mk:∀vs,H a=some (.lst vs)->IsL H (hs.map hT) vs->bY H a hs
theorem Xr(hs:O (O Nat)):qt (hs.map hT):=by rw[qt.all];intro t a;obtain⟨d,_,rfl⟩:=bu.mp a;exact ju _
theorem bY.keep{hs:O (O Nat)}(x:bY H a hs)(e:H' a=H a)(t:yu H H'):bY H' a hs:=by obtain⟨b,d,c⟩:=x;exact⟨b,e.trans d,c.tups t (Xr hs)⟩
theorem bY.same{hs:O (O Nat)}(x:bY H a hs)(s:Same H H'):bY H' a hs:=by obtain⟨b,d,c⟩:=x;exact⟨b,s _ _ d,c.mono s⟩
abbrev jE:=List ((Nat×List (List Nat))×Addr)
noncomputable def kA(b:Nat):Str×Int:=(("await":Str),(b:Int))
theorem xG{a b:Nat}(h:kA a=kA b):a=b:=Int.ofNat.inj (congrArg Prod.snd h)
noncomputable def qx(W:jE):List ((Str×Int)×V):=W.map λq=>(kA q.1.1,.ref q.2)
def uT(P:Program)(w:World)(G:Hp)(U cU cP cR:Addr)(hs:aB)(L:RL)(a:WA)(held:List ((List Int×Int)×V)):Prop:=dF G cU cP cR hs L a.xr a.ad a.as/\(∃dx,G a.x=some (.ins U dx (ly a)))/\bH cV P w G a.ah held/\G a.ao=none/\G a.ay=none/\G a.aw=none/\G a.ap=none
structure bW(P:Program)(w:World)(H0 H:Hp)(a:WA)(s:WS (List Nat))(W:jE):Prop where
 run:Wt H a.ad a.as s.done s.sums
 rdy:bY H a.ay s.ready
 wov:bY H a.ao s.wov
 stp:bY H a.ap s.stop
 wai:bH nc P w H a.aw (qx W)
 wl:W.map (·.1)=s.wait
 lst:∀q∈W,bY H q.2 q.1.2/\H0 q.2=none
 nd:(a.as::a.ay::a.ao::a.ap::W.map (·.2)).Nodup
 kd:(W.map (·.1.1)).Nodup
 s0:Same H0 H
noncomputable def newW(G:List (List Nat×Nat))(U:List Int):WS (List Nat):={done:=G,sums:=U,ready:=zh G,wait:=[],stop:=[],wov:=[]}
inductive lC(P:Program)(w:World)(cW cU cP cR:Addr)(vs:List V)(H:Hp)(Q:VK)(e0:XK):Prop|mk:∀(G:Hp)(x dx xr ad as ah:Addr)(hs:aB)(L:RL)(done:List (List Nat×Nat))(sums:List Int)(held:List ((List Int×Int)×V)),vs=[.ref x,.ref xr,.ref ah]->H x=some (.ins cW dx [])->Same G H->G x=none->dF G cU cP cR hs L xr ad as->Wt H ad as done sums->bH cV P w G ah held->done.length<=1000->(∀ao ay aw ap H0 H',Same G H0->uT P w H0 cW cU cP cR hs L ⟨x,xr,ad,as,ah,ao,ay,aw,ap⟩ held->bW P w H0 H' ⟨x,xr,ad,as,ah,ao,ay,aw,ap⟩ (newW done sums) []->Q .non H')->lC P w cW cU cP cR vs H Q e0
section
variable{K:W.Frag}{cW:Addr}
theorem Mz:aA ["self","run","held"] ["self","run","held"] (zf Yd):=.of
theorem Mw(D:kB K mg "Weaver" "Weaver.__init__" cW Yd)(T:Txt K mg)(v:aH K cW cG)(CU:aH K cU cJ):eX P w K mg base "Weaver" cW 1 ["self","run","held"] (lC P w cW cU cP cR):=by
 refine nQ (k:=0) D Mz ?_;rintro f b5 A bd s H vs Q E hr ⟨G,x,g,c,ad,as,i,hs,L,M,bx,b0,rfl,hx,sG,Gx,RF,N,GH,b4,k⟩ X;refine⟨_,zb (vb (pv 0) (pv 1) rfl) (zb (vb (pv 0) (pv 2) rfl) (zb (vb (pv 0) (w9 zc) rfl) (zb (vb (pv 0) (yx (BS rfl) rfl T.list J9 (za (zx (pv 1) rfl) zc)) rfl) (zb (vb (pv 0) (Vr (τ:=nc)) rfl) (zg (vb (pv 0) (w9 zc) rfl)))))),?_⟩
 obtain⟨xp,bc,am,al,PA,ba,bl,bw,b3,b2⟩:=id RF;have b1:as≠ad:=λz=>by have q:=N.2;rw[z,N.1]at q;cases q
 have af:∀{b:Y}{u:HO},H b=some u->(∀d fs,u≠ .ins cW d fs)->b≠x:=λ{b u} e z y=>by rw[y,hx]at e;exact z _ _ (Option.some.inj e).symm
 have W:ad≠x:=af N.1 (λ_ _ z=>by cases z);have F:as≠x:=af N.2 (λ_ _ z=>by cases z);have gA:H x=some (.ins cW g []):=hx;refine⟨x,cW,g,_,rfl,gA,v.cls,v.n,bF,?_⟩;rw[show qb "run" (.ref c) []=[(("run":Str),V.ref c)] by rfl];have gB:upd H x (.ins cW g [(("run":Str),V.ref c)]) x=_:=zd;have bB:Bt [x] H (upd H x (.ins cW g [(("run":Str),V.ref c)])):=Bt.upd (by simp);generalize upd H x (.ins cW g [(("run":Str),V.ref c)])=HB at gB bB⊢;refine⟨x,cW,g,_,rfl,gB,v.cls,v.n,bF,?_⟩;rw[show qb "held" (.ref i) [(("run":Str),V.ref c)]=[(("run":Str),V.ref c),("held",.ref i)] by rw[y6 (by decide)];rfl];have gC:upd HB x (.ins cW g [(("run":Str),V.ref c),("held",.ref i)]) x=_:=zd;have bC:Bt [x] H (upd HB x (.ins cW g [(("run":Str),V.ref c),("held",.ref i)])):=bB.trans (Bt.upd (by simp));generalize upd HB x (.ins cW g [(("run":Str),V.ref c),("held",.ref i)])=HC at gC bC⊢;refine⟨be _,λa HD sD p bk=>?_⟩;have C:a≠x:=λz=>by rw[z,gC]at p;cases p
 have gD:=sD _ _ gC;have bD:=bC.trans (M:=[x]) sD.bt;refine⟨x,cW,g,_,rfl,gD,v.cls,v.n,bF,?_⟩;rw[show qb "woven" (.ref a) [(("run":Str),V.ref c),("held",.ref i)]=[(("run":Str),V.ref c),("held",.ref i),("woven",.ref a)] by rw[y6 (by decide),y6 (by decide)];rfl];have gE:upd HD x (.ins cW g [(("run":Str),V.ref c),("held",.ref i),("woven",.ref a)]) x=_:=zd;have bE:Bt [x] H (upd HD x (.ins cW g [(("run":Str),V.ref c),("held",.ref i),("woven",.ref a)])):=bD.trans (Bt.upd (by simp));have oE:upd HD x (.ins cW g [(("run":Str),V.ref c),("held",.ref i),("woven",.ref a)]) a=_:=(upd_ne C).trans bk;generalize upd HD x (.ins cW g [(("run":Str),V.ref c),("held",.ref i),("woven",.ref a)])=HE at gE bE oE⊢;have sx:∀{J:Hp},Bt [x] H J->Same G J:=λ{J} b=>b.same sG λm r=>by rw[ak.mp r];exact Gx
 have dE:=bE _ _ (λr=>W (ak.mp r)) N.1;refine⟨c,cU,bc,_,_,rfl,sx bE _ _ ba,CU.cls,CU.n,Za,ad,(zh M).map hZ,rfl,⟨_,dE,by unfold yy zh;rw[bn,bn,bn];rfl⟩,λys h S sI l bh a8=>?_⟩;have R:h≠x:=λz=>by rw[z,gE]at l;cases l
 have a6:h≠a:=λz=>by rw[z,oE]at l;cases l
 have aK:h≠as:=λz=>by rw[z,bE _ _ (λr=>F (ak.mp r)) N.2]at l;cases l
 have gI:=sI _ _ gE;have bI:=bE.trans (M:=[x]) sI.bt;have lI:bY S h (zh M):=⟨ys,bh,by rw[bn]at a8;exact a8⟩
 refine⟨x,cW,g,_,rfl,gI,v.cls,v.n,bF,?_⟩;rw[show qb "ready" (.ref h) [(("run":Str),V.ref c),("held",.ref i),("woven",.ref a)]=[(("run":Str),V.ref c),("held",.ref i),("woven",.ref a),("ready",.ref h)] by rw[y6 (by decide),y6 (by decide),y6 (by decide)];rfl];have gJ:upd S x (.ins cW g [(("run":Str),V.ref c),("held",.ref i),("woven",.ref a),("ready",.ref h)]) x=_:=zd;have bJ:Bt [x] H (upd S x (.ins cW g [(("run":Str),V.ref c),("held",.ref i),("woven",.ref a),("ready",.ref h)])):=bI.trans (Bt.upd (by simp));have oJ:upd S x (.ins cW g [(("run":Str),V.ref c),("held",.ref i),("woven",.ref a),("ready",.ref h)]) a=_:=(upd_ne C).trans (sI _ _ oE);have tJ:yu S (upd S x (.ins cW g [(("run":Str),V.ref c),("held",.ref i),("woven",.ref a),("ready",.ref h)])):=yu.upd gI (λ_ z=>by cases z);have lJ:bY (upd S x (.ins cW g [(("run":Str),V.ref c),("held",.ref i),("woven",.ref a),("ready",.ref h)])) h (zh M):=lI.keep (upd_ne R) tJ;generalize upd S x (.ins cW g [(("run":Str),V.ref c),("held",.ref i),("woven",.ref a),("ready",.ref h)])=HJ at gJ bJ oJ lJ⊢;intro n ow t bb;have sK:=Same.new t ow;have U:n≠x:=λz=>by rw[z,gJ]at t;cases t
 have gK:=sK _ _ gJ;have bK:=bJ.trans (M:=[x]) sK.bt;have oK:=sK _ _ oJ;have lK:=lJ.same sK;generalize upd HJ n ow=HK at sK bb gK bK oK lK⊢;refine⟨x,cW,g,_,rfl,gK,v.cls,v.n,bF,?_⟩;rw[show qb "waiting" (.ref n) [(("run":Str),V.ref c),("held",.ref i),("woven",.ref a),("ready",.ref h)]=[(("run":Str),V.ref c),("held",.ref i),("woven",.ref a),("ready",.ref h),("waiting",.ref n)] by rw[y6 (by decide),y6 (by decide),y6 (by decide),y6 (by decide)];rfl];have gL:upd HK x (.ins cW g [(("run":Str),V.ref c),("held",.ref i),("woven",.ref a),("ready",.ref h),("waiting",.ref n)]) x=_:=zd;have bL:Bt [x] H (upd HK x (.ins cW g [(("run":Str),V.ref c),("held",.ref i),("woven",.ref a),("ready",.ref h),("waiting",.ref n)])):=bK.trans (Bt.upd (by simp));have oL:upd HK x (.ins cW g [(("run":Str),V.ref c),("held",.ref i),("woven",.ref a),("ready",.ref h),("waiting",.ref n)]) a=_:=(upd_ne C).trans oK;have tL:yu HK (upd HK x (.ins cW g [(("run":Str),V.ref c),("held",.ref i),("woven",.ref a),("ready",.ref h),("waiting",.ref n)])):=yu.upd gK (λ_ z=>by cases z);have lL:=lK.keep (upd_ne R) tL;have wL:=bH.by bb tL (upd_ne U)
 generalize upd HK x (.ins cW g [(("run":Str),V.ref c),("held",.ref i),("woven",.ref a),("ready",.ref h),("waiting",.ref n)])=HL at gL bL oL lL wL⊢;refine⟨be _,λo Z sM j bi=>?_⟩;have av:o≠x:=λz=>by rw[z,gL]at j;cases j
 have a5:o≠a:=λz=>by rw[z,oL]at j;cases j
 have a3:o≠h:=λz=>by obtain⟨_,q,_⟩:=lL;rw[z,q]at j;cases j
 have aS:o≠as:=λz=>by rw[z,bL _ _ (λr=>F (ak.mp r)) N.2]at j;cases j
 have a7:a≠as:=λz=>by rw[z,bC _ _ (λr=>F (ak.mp r)) N.2]at p;cases p
 have gM:=sM _ _ gL;have bM:=bL.trans (M:=[x]) sM.bt;have oM:=sM _ _ oL;have lM:=lL.same sM;have wM:=wL.same sM;refine⟨x,cW,g,_,rfl,gM,v.cls,v.n,bF,?_⟩;rw[show qb "stopped" (.ref o) [(("run":Str),V.ref c),("held",.ref i),("woven",.ref a),("ready",.ref h),("waiting",.ref n)]=[(("run":Str),V.ref c),("held",.ref i),("woven",.ref a),("ready",.ref h),("waiting",.ref n),("stopped",.ref o)] by rw[y6 (by decide),y6 (by decide),y6 (by decide),y6 (by decide),y6 (by decide)];rfl];have gN:upd Z x (.ins cW g [(("run":Str),V.ref c),("held",.ref i),("woven",.ref a),("ready",.ref h),("waiting",.ref n),("stopped",.ref o)]) x=_:=zd;have bN:Bt [x] H (upd Z x (.ins cW g [(("run":Str),V.ref c),("held",.ref i),("woven",.ref a),("ready",.ref h),("waiting",.ref n),("stopped",.ref o)])):=bM.trans (Bt.upd (by simp));have oN:upd Z x (.ins cW g [(("run":Str),V.ref c),("held",.ref i),("woven",.ref a),("ready",.ref h),("waiting",.ref n),("stopped",.ref o)]) a=_:=(upd_ne C).trans oM;have pN:upd Z x (.ins cW g [(("run":Str),V.ref c),("held",.ref i),("woven",.ref a),("ready",.ref h),("waiting",.ref n),("stopped",.ref o)]) o=_:=(upd_ne av).trans bi;have tN:yu Z (upd Z x (.ins cW g [(("run":Str),V.ref c),("held",.ref i),("woven",.ref a),("ready",.ref h),("waiting",.ref n),("stopped",.ref o)])):=yu.upd gM (λ_ z=>by cases z);have lN:=lM.keep (upd_ne R) tN;have wN:=bH.by wM tN (upd_ne U)
 generalize upd Z x (.ins cW g [(("run":Str),V.ref c),("held",.ref i),("woven",.ref a),("ready",.ref h),("waiting",.ref n),("stopped",.ref o)])=HN at gN bN oN pN lN wN⊢;have dN:=bN _ _ (λr=>W (ak.mp r)) N.1;have sN:=bN _ _ (λr=>F (ak.mp r)) N.2;have Gn:∀{J:Hp}{b:Y},Bt [x] H J->J b=none->G b=none:=λ{J b} bt e=>by cases z:G b with|none=>rfl|some u=>rw[sx bt _ _ z]at e;cases e
 have b9:=Gn bC p;have b6:=Gn bE l;have b7:=Gn bJ t;have b8:=Gn bL j;have GM:∀m∈[ad,as,a,h,n,o],G m=none:=λm r=>by simp only[ag,c5,or_false]at r;rcases r with z|z|z|z|z|z<;>rw[z]<;>assumption
 have sW:Same G (without [ad,as,a,h,n,o] HN):=(sx bN).without GM;have bg:x ∉ [ad,as,a,h,n,o]:=by simp[ai W,ai F,ai C,ai R,ai U,ai av]
 refine k a h n o (without [ad,as,a,h,n,o] HN) HN sW ⟨?_,⟨g,by rw[yj bg];exact gN⟩,GH.same sW,yk (by simp),yk (by simp),yk (by simp),yk (by simp)⟩ ⟨⟨dN,sN⟩,lN,⟨[],oN,rfl⟩,⟨[],pN,rfl⟩,wN,rfl,λq hq=>(nomatch hq),?_,List.nodup_nil,xq⟩;exact⟨xp,bc,am,al,PA.same sW,sW _ _ ba,sW _ _ bl,sW _ _ bw,yk (by simp),yk (by simp)⟩;simp[ai aK,ai a7,ai aS,a6,ai a3,ai a5]
end
end My
namespace L2
open PySem PySem.Spec PyProof.Rows PySem.W
variable{M:List Addr}{P:Program}
theorem bH.bt{a:Type}[DecidableEq a]{τ:aU a}{w:World}{H c:Hp}{d:Y}{kvs:O (a×V)}(g:bH τ P w H d kvs)(b:Bt M H c)(f:d ∉ M)(t:yu H c):bH τ P w c d kvs:=by obtain⟨h,e,r⟩:=id g;exact g.by t ((b d _ f e).trans e.symm)
theorem bH.some{a:Type}[DecidableEq a]{τ:aU a}{P:Program}{w:World}{H:Hp}{d:Y}{kvs:O (a×V)}(g:bH τ P w H d kvs):∃b,H d=Option.some (.ext b):=let⟨c,e,_,_,_,_⟩:=g;⟨_,e⟩
end L2
namespace My
open PySem PySem.Spec PyProof.Rows L2
variable{ao c cP cR cU cW x xr:Addr}{A:Around}{o:HO}{base:Heap}{H H' H0:Hp}{M:List Addr}{h:List Nat}{vs:List V}{b:Nat}{P:Program}{mg:Str->Option Value}{v:V}{w:World}
theorem bY.bt{a:Y}{hs:O (O Nat)}(x:bY H a hs)(b:Bt M H H')(d:a ∉ M)(t:yu H H'):bY H' a hs:=by obtain⟨c,f,e⟩:=x;exact⟨c,b _ _ d f,e.tups t (Xr hs)⟩
section
variable{A:Type}[DecidableEq A]
theorem Q8{b:Nat}:∀{l:List (Nat×List A)},(l.map (·.1)).Nodup->Zg l b=l.filter λr=>decide (r.1≠b)|[],_=>rfl| (c,g)::r,d=>by have a:=bz.mp d;unfold Zg;by_cases e:c=b;rw[if_pos e,List.filter_cons,if_neg (by simp[e])];refine(List.filter_eq_self.mpr λx f=>?_).symm;refine bj λz=>a.1 ?_;show c∈_;rw[e,<-z];exact List.mem_map_of_mem f;rw[if_neg e,List.filter_cons,if_pos (by simp[e]),Q8 a.2]
theorem ui{b:Nat}{hs:List A}:∀{l:List (Nat×List A)},(l.map (·.1)).Nodup->(b,hs)∈l->Yw l b=hs|[],_,h=>nomatch h| (c,f)::r,d,h=>by have a:=bz.mp d;unfold Yw;rcases ag.mp h with e|e;cases e;rw[if_pos J];rw[if_neg (λz=>a.1 (by show c∈_;rw[z];exact List.mem_map_of_mem e))];exact ui a.2 e
theorem Bj{b:Nat}:∀{l:List (Nat×List A)},b ∉ l.map (·.1)->Yw l b=[]/\Zg l b=l|[],_=>⟨J,J⟩| (c,f)::r,h=>by have e:c≠b:=λz=>h (by rw[<-z];exact bp);obtain⟨d,a⟩:=Bj λz=>h (bq _ z);unfold Yw Zg;rw[if_neg e,if_neg e,d,a];exact⟨J,J⟩
theorem Be{b:Nat}{h:A}:∀{l:List (Nat×List A)},b ∉ l.map (·.1)->jv l b h=l++[(b,[h])]|[],_=>rfl| (c,a)::r,hn=>by have e:c≠b:=λz=>hn (by rw[<-z];exact bp);unfold jv;rw[if_neg e,Be λz=>hn (bq _ z)];rfl
theorem Ag{b:Nat}{h:A}:∀{l:List (Nat×List A)},(l.map (·.1)).Nodup->jv l b h=if b∈l.map (·.1)then l.map (λr=>if r.1=b then(r.1,r.2++[h])else r)else l++[(b,[h])]
 |[],_=>rfl
 | (c,d)::r,f=>by
   have a:=bz.mp f;unfold jv;by_cases e:c=b;rw[if_pos e,if_pos (show b∈((c,d)::r).map (·.1) by rw[e];exact bp),c4,if_pos e];congr 1;refine(List.map_id' r).symm.trans (List.map_congr_left λx g=>?_);refine(if_neg λz=>a.1 ?_).symm;show c∈_;rw[e,<-z];exact List.mem_map_of_mem g;rw[if_neg e,Ag a.2];by_cases m:b∈r.map (·.1);rw[if_pos m,if_pos (show b∈((c,d)::r).map (·.1)from bq _ m),c4,if_neg e];rw[if_neg m,if_neg (λz=>by rcases ag.mp z with y|y;exact e y.symm;exact m y)]
   rfl
end
theorem pY{W:jE}:(∀v,yq (qx W) (kA b)=some v->∃q∈W,q.1.1=b/\v=.ref q.2)/\(yq (qx W) (kA b)=none->b ∉ W.map (·.1.1)):=by induction W with|nil=>exact⟨λv h=>(by cases h),λ_ h=>nomatch h⟩| cons q r a=>have j:qx (q::r)=(kA q.1.1,V.ref q.2)::qx r:=rfl;rw[j];by_cases e:q.1.1=b;rw[xz (by rw[e])];exact⟨λv h=>⟨q,bp,e,(Option.some.inj h).symm⟩,λh=>by cases h⟩;have d:=λz=>e (xG z);rw[xl d];refine⟨λv h=>?_,λh f=>?_⟩;obtain⟨c,i,g⟩:=a.1 v h;exact⟨c,bq _ i,g⟩;rcases ag.mp f with z|z;exact e z.symm;exact a.2 h z
theorem DP{W:jE}:mQ (qx W) (kA b)=qx (W.filter λq=>decide (q.1.1≠b)):=by unfold mQ qx;rw[List.filter_map];congr 1;apply List.filter_congr;intro q _;show decide (kA q.1.1≠kA b)=decide (q.1.1≠b);by_cases e:q.1.1=b;rw[e];simp;have a:¬kA q.1.1=kA b:=λz=>e (xG z);rw[bj a,bj e]
section
variable{a:WA}{s:WS (List Nat)}{W:jE}
theorem bW.same(m:bW P w H0 H a s W)(b:Same H H'):bW P w H0 H' a s W:=⟨⟨b _ _ m.run.1,b _ _ m.run.2⟩,m.rdy.same b,m.wov.same b,m.stp.same b,m.wai.same b,m.wl,λq c=>⟨(m.lst q c).1.same b,(m.lst q c).2⟩,m.nd,m.kd,m.s0.trans b⟩
theorem bW.ne(m:bW P w H0 H a s W):a.as≠a.ay/\a.as≠a.ao/\a.as≠a.ap/\a.ay≠a.ao/\a.ay≠a.ap/\a.ao≠a.ap/\(∀q∈W,q.2≠a.as/\q.2≠a.ay/\q.2≠a.ao/\q.2≠a.ap)/\(W.map (·.2)).Nodup:=by have b:=bz.mp m.nd;have c:=bz.mp b.2;have d:=bz.mp c.2;have f:=bz.mp d.2;simp only[ag,not_or]at b c d;refine⟨b.1.1,b.1.2.1,b.1.2.2.1,c.1.1,c.1.2.1,d.1.1,λq g=>?_,f.2⟩;have e:q.2∈W.map (·.2):=List.mem_map_of_mem g;exact⟨λz=>b.1.2.2.2 (z▸e),λz=>c.1.2.2 (z▸e),λz=>d.1.2 (z▸e),λz=>f.1 (z▸e)⟩
theorem bW.apart(m:bW P w H0 H a s W)(h:H c=some (.lst vs)):a.ad≠c/\a.aw≠c:=by refine⟨λz=>?_,λz=>?_⟩;rw[<-z,m.run.1]at h;cases h;obtain⟨b,e⟩:=m.wai.some;rw[<-z,e]at h;cases h
theorem bY.upd_ne{c b:Y}{hs:O (O Nat)}{a vs:O V}(x:bY H b hs)(h:H c=some (.lst a))(n:b≠c):bY (upd H c (.lst vs)) b hs:=x.keep (L2.upd_ne n) (yu.upd h (λ_ z=>by cases z))
theorem bY.upd_eq{hs:O (O Nat)}{a:O V}(h:H c=some (.lst a))(i:IsL H (hs.map hT) vs):bY (upd H c (.lst vs)) c hs:=⟨vs,zd,i.tups (yu.upd h (λ_ z=>by cases z)) (Xr hs)⟩
theorem qy(s:Same H0 H)(n:H0 c=none):Same H0 (upd H c o):=λb u e=>by rw[L2.upd_ne (zj e n)];exact s b u e
theorem bW.setR(m:bW P w H0 H a s W)(z:H0 a.ay=none){l:O (O Nat)}(i:IsL H (l.map hT) vs):bW P w H0 (upd H a.ay (.lst vs)) a {s with ready:=l} W:=by obtain⟨g,r,p,f,e,o,d,_⟩:=m.ne;obtain⟨c,h,_⟩:=m.rdy;obtain⟨n,j⟩:=m.apart h;have t:yu H (upd H a.ay (.lst vs)):=yu.upd h (λ_ z=>by cases z);exact⟨⟨(upd_ne n).trans m.run.1,(upd_ne g).trans m.run.2⟩,bY.upd_eq h i,m.wov.upd_ne h (ai f),m.stp.upd_ne h (ai e),m.wai.by t (upd_ne j),m.wl,λq b=>⟨(m.lst q b).1.upd_ne h (d q b).2.1,(m.lst q b).2⟩,m.nd,m.kd,qy m.s0 z⟩
theorem bW.setO(m:bW P w H0 H a s W)(z:H0 a.ao=none){l:O (O Nat)}(i:IsL H (l.map hT) vs):bW P w H0 (upd H a.ao (.lst vs)) a {s with wov:=l} W:=by obtain⟨r,g,p,f,o,e,d,_⟩:=m.ne;obtain⟨c,h,_⟩:=m.wov;obtain⟨n,j⟩:=m.apart h;have t:yu H (upd H a.ao (.lst vs)):=yu.upd h (λ_ z=>by cases z);exact⟨⟨(upd_ne n).trans m.run.1,(upd_ne g).trans m.run.2⟩,m.rdy.upd_ne h f,bY.upd_eq h i,m.stp.upd_ne h (ai e),m.wai.by t (upd_ne j),m.wl,λq b=>⟨(m.lst q b).1.upd_ne h (d q b).2.2.1,(m.lst q b).2⟩,m.nd,m.kd,qy m.s0 z⟩
theorem bW.setP(m:bW P w H0 H a s W)(z:H0 a.ap=none){l:O (O Nat)}(i:IsL H (l.map hT) vs):bW P w H0 (upd H a.ap (.lst vs)) a {s with stop:=l} W:=by obtain⟨r,p,g,o,f,e,d,_⟩:=m.ne;obtain⟨c,h,_⟩:=m.stp;obtain⟨n,j⟩:=m.apart h;have t:yu H (upd H a.ap (.lst vs)):=yu.upd h (λ_ z=>by cases z);exact⟨⟨(upd_ne n).trans m.run.1,(upd_ne g).trans m.run.2⟩,m.rdy.upd_ne h f,m.wov.upd_ne h e,bY.upd_eq h i,m.wai.by t (upd_ne j),m.wl,λq b=>⟨(m.lst q b).1.upd_ne h (d q b).2.2.2,(m.lst q b).2⟩,m.nd,m.kd,qy m.s0 z⟩
theorem bW.bt(m:bW P w H0 H a s W){g:O (O Nat×Nat)}{f:O Int}(C:H0 a.ad=none)(A:H0 a.as=none)(b:Bt [a.ad,a.as] H H')(r:Wt H' a.ad a.as g f):bW P w H0 H' a {s with done:=g,sums:=f} W:=by
 obtain⟨x,v,u,_,_,_,p,_⟩:=m.ne;have t:=m.run.tups b;have d:∀{c:Y}{o:O (O Nat)},bY H c o->c≠a.as->c ∉ [a.ad,a.as]:=λ{c o} l z n=>by obtain⟨F,h,_⟩:=l;rcases ag.mp n with y|y;exact(m.apart h).1 y.symm;exact z (ak.mp y)
 have j:a.aw ∉ [a.ad,a.as]:=λn=>by obtain⟨E,e⟩:=m.wai.some;rcases ag.mp n with y|y;rw[y,m.run.1]at e;cases e;rw[ak.mp y,m.run.2]at e;cases e
 refine⟨r,m.rdy.bt b (d m.rdy (ai x)) t,m.wov.bt b (d m.wov (ai v)) t,m.stp.bt b (d m.stp (ai u)) t,m.wai.bt b j t,m.wl,λq i=>⟨(m.lst q i).1.bt b (d (m.lst q i).1 (p q i).1) t,(m.lst q i).2⟩,m.nd,m.kd,b.same m.s0 λc D=>?_⟩;rcases ag.mp D with y|y;rw[y];exact C;rw[ak.mp y];exact A
theorem bW.setW(m:bW P w H0 H a s W)(z:H0 a.aw=none){b:jE}(g:bH nc P w (upd H a.aw o) a.aw (qx b))(hs:∀q∈b,q∈W)(f:(a.as::a.ay::a.ao::a.ap::b.map (·.2)).Nodup)(i:(b.map (·.1.1)).Nodup):bW P w H0 (upd H a.aw o) a {s with wait:=b.map (·.1)} b:=by have t:yu H (upd H a.aw o):=m.wai.tups;have d:∀{c:Y}{hs:O (O Nat)},bY H c hs->c≠a.aw:=λ{c hs} ⟨n,h,_⟩=>ai (m.apart h).2;obtain⟨l,e⟩:=m.wai.some;refine⟨⟨(upd_ne (λy=>by rw[<-y,m.run.1]at e;cases e)).trans m.run.1,(upd_ne (λy=>by rw[<-y,m.run.2]at e;cases e)).trans m.run.2⟩,m.rdy.keep (upd_ne (d m.rdy)) t,m.wov.keep (upd_ne (d m.wov)) t,m.stp.keep (upd_ne (d m.stp)) t,g,J,λq j=>⟨(m.lst q (hs q j)).1.keep (upd_ne (d (m.lst q (hs q j)).1)) t,(m.lst q (hs q j)).2⟩,f,i,qy m.s0 z⟩
end
inductive lH(P:Program)(w:World)(cW cU cP cR:Addr)(vs:List V)(H:Hp)(Q:VK)(e0:XK):Prop|mk:∀(H0:Hp)(a:WA)(hs:aB)(L:RL)(held:List ((List Int×Int)×V))(s:WS (List Nat))(W:jE)(h:List Nat)(d:aI)(vh:V),vs=[.ref a.x,vh]->uT P w H0 cW cU cP cR hs L a held->bW P w H0 H a s W->dR hs->h∈zh (plan hs)->h∈zh s.done->s.sums.length=hs.b.toNat->Is H (hT h) vh->dW (mM hs) s h=some d->(zh s.done).Nodup->s.done.length<=999->s.ready.length+jz s.wait<=1000->s.wov.length<=2000->(∀W' H',bW P w H0 H' a (Z5 (mM hs) s h d) W'->Q .non H')->lH P w cW cU cP cR vs H Q e0
theorem Zi{n:Nat}(h:n<=9000):n<sizeLine:=ef h (by decide)
theorem Kd{A:Type}[DecidableEq A]{l:O (Nat×O A)}:(Yw l b).length<=jz l:=by have:=Kc (b:=b) (l:=l);omega
section
variable{K:W.Frag}
theorem Am:aA ["self","hand","begun","ground"] ["self","hand"] (zf sY):=.of
theorem Fp(D:qk K cW "step" "Weaver.step" sY)(n:aH K cW cG)(CU:aH K cU cJ)(CP:aH K cP aZ)(CR:aH K cR aT)(oD:bU P w K mg base cU "do" 2 ["self","hand"] (mi cU cP cR)):bU P w K mg base cW "step" 3 ["self","hand"] (lH P w cW cU cP cR):=by
 refine ku (k:=2) D Am ?_;rintro f dr A bC s0 H vs Q E hr ⟨H0,a,hs,L,cv,s,W,h,d,vh,rfl,F,m,PH,hh,hk,b5,av,hd,bI,cb,de,c3,k⟩ X;have hu:=ji hr;have b3:=xA hr;have nd:=Am.nd;refine⟨_,zb (zo (i:=2) nd (AQ hu (zx (wg hu (zx (zx (zx (pv 0) J) J) J) (pv 1)) J) (wg hu (zx (zx (pv 0) J) J) (pv 1)) ⟨J,J,J,J⟩)) (zb (wy PassesOwn.never J (qi (v6 oD CU.cls hr (zx (pv 0) J) (za (pv 1) zc))) (zp (i:=3) nd) (zg (wo (ja PySem.F.plainAttrs_list PySem.F.slot_list_extend PySem.F.type_list_extend Xq (zx (pv 0) J) (za (Hx (τ:=nc) b3 (zx (pv 0) J) (pv 3) (w9 zc) ⟨J,J,J,J⟩) zc)))))
  (zb (wo (ja PySem.F.plainAttrs_list PySem.F.slot_list_append PySem.F.type_list_append qf (zx (pv 0) J) (za (pv 1) zc))) (zb (wo (ja PySem.F.plainAttrs_list PySem.F.slot_list_append PySem.F.type_list_append qf (zx (pv 0) J) (za (pv 1) zc))) (zg (ye (Wi (zQ (pv 2))) yo zn))))),?_⟩
 obtain⟨RF,⟨dx,hx⟩,GH,bL,ap,bJ,c2⟩:=id F;obtain⟨xp,aS,am,al,PA,aw,_,_,bM,bK⟩:=id RF;obtain⟨dp,vv,ar,rl,hp,cl,bb,cn,vc,vs,ab,an,ac,r1,r2,r4,r5,r6,_⟩:=PA.role hh;obtain⟨bh,rfl,bk⟩:=kz av;have nm:∀f∈cG,Yt K cW f:=n.no;have g:=m.s0;refine⟨a.x,cW,dx,_,_,J,g _ _ hx,n.cls,n.n,Qd,a.xr,cU,aS,_,_,J,g _ _ aw,CU.cls,CU.n,Wz,xp,cP,dp,_,_,J,g _ _ hp,CP.cls,CP.n,vi,ar,_,J,bb▸DGet.t (g _ _ cl) bk,rl,cR,cn,_,_,J,g _ _ r1,CR.cls,CR.n,IU,ab,J,.inl ⟨_,.inl (g _ _ r4)⟩,a.x,cW,dx,_,_,J,g _ _ hx,n.cls,n.n,Qd,a.xr,cU,aS,_,_,J,g _ _ aw,CU.cls,CU.n,Za,a.ad,_,J,Z4 hk▸DGet.t m.run.1 bk,_,DGet.k (k:=(Sum.inl (yb s.done h:Int):aJ)) (g _ _ r4),?_⟩
 refine⟨a.x,cW,dx,_,_,J,g _ _ hx,n.cls,n.n,Qd,a.xr,aS,_,J,g _ _ aw,J,H0,a.xr,a.ad,a.as,hs,L,s.done,s.sums,h,.ref bh,d,J,⟨RF,m.s0,m.run⟩,hh,hk,PH,b5,av,hd,bI,cb,λl H1 b1 S bB i1=>?_⟩;have m1:=m.bt bM bK b1 bB;obtain⟨l',zs,el,bi,ba⟩:=i1;cases el;have R:zs.length=(mz d).length:=ba.length;refine⟨l,J,⟨zs,aG.of bi⟩,?_⟩;have bD:l≠a.ay:=λz=>by obtain⟨_,q,_⟩:=m.rdy;rw[z,q]at S;cases S
 have bE:l≠a.aw:=λz=>by obtain⟨_,q⟩:=m.wai.some;rw[z,q]at S;cases S
 have a5:∀{G:Hp},Same (without [a.ay,a.aw] H1) G->yu H1 G:=λ{G} N c M e=>by refine N _ _ ?_;rw[yj];exact e;intro hm;rcases ag.mp hm with y|y;obtain⟨_,q,_⟩:=m1.rdy;rw[y,q]at e;cases e;obtain⟨_,q⟩:=m1.wai.some;rw[ak.mp y,q]at e;cases e
 let co:Nat->L2.St->Hp->Prop:=λi σ G=>∃x3 u,σ=[some (.ref a.x),some (.ref bh),some .non,x3]/\bW P w H0 G a (if i=0 then{s with done:=V6 hs s.done h,sums:=aO s.sums (dB d)}else{s with done:=V6 hs s.done h,sums:=aO s.sums (dB d),ready:=s.ready++kh s (dB d),wait:=qm s (dB d)}) u/\Same (without [a.ay,a.aw] H1) G;refine Zn (K:=K) (a:=l) (xs:=zs) co
  ⟨none,W,J,m1,xq⟩ (λi σ G _ ⟨_,_,_,_,N⟩=>aG.of (N _ _ (by rw[yj (by simp[bD,bE])];exact bi))) ?_ ?_
 rintro i v σ G hv ⟨x3,u,rfl,j,N⟩;cases d with| rai b mm=>
   have i0:i=0:=by have:=(ci.mp hv).1;rw[R]at this;have e:(mz (.rai b mm)).length=1:=rfl;omega
   subst i0;rw[if_pos J]at j;obtain⟨sc,b6,ca⟩:=Xu hd;obtain⟨ck,dq⟩:=PH.box sc b6 _ ca b mm (.inl J);have cc:((b.toNat:Nat):Int)=b:=Int.toNat_of_nonneg ck;obtain⟨tt,b4,bN⟩:=ba.get' hv;cases b4;have tG:yu H1 G:=a5 N;have t:Is G (.tup [.str "await",.int b]) v:=bN.tups tG ⟨trivial,trivial,trivial⟩;rw[<-cc]at t;obtain⟨gv,xg,rfl,dn,dh⟩:=id t;obtain⟨M,C,x⟩:=id j.rdy;have gG:=j.s0;have U:u.map (·.1)=s.wait:=j.wl;have bw:(s.wait.map (·.1)).Nodup:=by rw[<-U,bn];exact j.kd
   have a3:M.length=s.ready.length:=by have:=x.length;rw[aa]at this;exact this
   refine⟨a.x,cW,dx,_,_,J,gG _ _ hx,n.cls,n.n,Ww,.inl ⟨J,_,aG.of C⟩,a.x,cW,dx,_,_,J,gG _ _ hx,n.cls,n.n,Ke,a.aw,_,J,j.wai,be _,λe H3 s3 dg he=>⟨gv,qx u,kA b.toNat,J,j.wai.same s3,t.mono s3,λv2 b2 o hg=>?_,λb8=>?_⟩⟩;obtain⟨q,hq,b7,rfl⟩:=pY.1 _ b2;rw[DP]at hg;have r:=j.same s3;obtain⟨n1,n2,n3,n4,n5,n6,nq,nW⟩:=r.ne;have m4:=r.setW bJ hg (λq hq=>(List.mem_filter.mp hq).1) (r.nd.sublist (((((List.filter_sublist ..).map _).cons_cons _).cons_cons _).cons_cons _ |>.cons_cons _)) (r.kd.sublist ((List.filter_sublist ..).map _));obtain⟨ah,bl,af⟩:=m4.rdy;have bc:=(r.lst q hq).1;obtain⟨zq,b0,a6⟩:=(bc.keep (upd_ne (by obtain⟨_,y,_⟩:=bc;exact ai (r.apart y).2)) r.wai.tups:bY (upd H3 a.aw o) q.2 q.1.2)
   have l4:ah.length=s.ready.length:=by have:=af.length;rw[aa]at this;exact this
   have lq:zq.length=q.1.2.length:=by have:=a6.length;rw[aa]at this;exact this
   have bg:(b.toNat,q.1.2)∈s.wait:=by rw[<-U,<-b7];exact List.mem_map_of_mem (f:=λz:(Nat×List (List Nat))×Addr=>z.1) hq
   have Z:Yw s.wait b.toNat=q.1.2:=ui bw bg;have aK:Zg s.wait b.toNat=(u.filter λq=>decide (q.1.1≠b.toNat)).map (·.1):=by rw[Q8 bw,<-U,List.filter_map];rfl
   have bx:=Kd (b:=b.toNat) (l:=s.wait);rw[Z]at bx;have m5:=m4.setR ap (l:=s.ready++q.1.2) (vs:=ah++zq) (by rw[ax];exact IsL.append af a6);refine⟨a.ay,q.2,ah,zq,J,J,bl,b0,Nat.le_of_lt (Zi (by omega)),_,u.filter λq=>decide (q.1.1≠b.toNat),J,?_,qy (qy (N.trans s3) (yk (by simp))) (yk (by simp))⟩;rw[if_neg (Nat.succ_ne_zero 0)];show bW P w H0 _ a {s with done:=V6 hs s.done h,sums:=aO s.sums (dB (.rai b mm)),ready:=s.ready++Yw s.wait b.toNat,wait:=Zg s.wait b.toNat} _;rw[Z,aK];exact m5;have b9:=pY.2 b8;have bd:b.toNat ∉ s.wait.map (·.1):=by rw[<-U,bn];exact b9
   obtain⟨Z,aK⟩:=Bj bd;have r:=j.same s3;have m5:=r.setR ap (l:=s.ready++[]) (vs:=M++[]) (by rw[cp,cp];exact x.mono s3);refine⟨a.ay,e,M,[],J,J,s3 _ _ C,he,Nat.le_of_lt (Zi (by show M.length+0<=9000;omega)),_,u,J,?_,qy (N.trans s3) (yk (by simp))⟩;rw[if_neg (Nat.succ_ne_zero 0)];show bW P w H0 _ a {s with done:=V6 hs s.done h,sums:=aO s.sums (dB (.rai b mm)),ready:=s.ready++Yw s.wait b.toNat,wait:=Zg s.wait b.toNat} _;rw[Z,aK];exact m5|_=>have:=(ci.mp hv).1;rw[R]at this;exact absurd this (Nat.not_lt_zero _)
 rintro σ G ⟨x3,u,rfl,j,N⟩;have m2:bW P w H0 G a {s with done:=V6 hs s.done h,sums:=aO s.sums (dB d),ready:=s.ready++kh s (dB d),wait:=qm s (dB d)} u:=by cases d with|rai b mm=>rw[R,if_neg (show¬(mz (.rai b mm)).length=0 from Nat.succ_ne_zero 0)]at j;exact j| _=>rw[show zs.length=0 from R,if_pos J]at j;show bW P w H0 G a {s with done:=V6 hs s.done h,sums:=aO s.sums none,ready:=s.ready++[],wait:=s.wait} u;rw[cp];exact j
 have t:Is G (hT h) (.ref bh):=(av.tups (m.run.tups b1) (ju _)).tups (a5 N) (ju _);have c0:(kh s (dB d)).length<=jz s.wait:=by cases e:dB d with|none=>exact be _|some p=>exact Kd
 obtain⟨os,ay,a8⟩:=id m2.wov;have c1:os.length=s.wov.length:=by have:=a8.length;rw[aa]at this;exact this
 refine⟨a.x,cW,dx,_,_,J,m2.s0 _ _ hx,n.cls,n.n,Bi,.inl ⟨J,_,aG.of ay⟩,a.ao,os,_,J,J,ay,Zi (by omega),?_⟩;have r:=m2.setO bL (l:=s.wov++[h]) (vs:=os++[.ref bh]) (by rw[ax];exact IsL.append a8 (IsL.one t));have a7:Is (upd G a.ao (.lst (os++[.ref bh]))) (hT h) (.ref bh):=t.tups (yu.upd ay (λ_ z=>by cases z)) (ju _);generalize upd G a.ao (.lst (os++[.ref bh]))=H3 at r a7⊢;obtain⟨M,C,x⟩:=id r.rdy;have a3:M.length=(s.ready++kh s (dB d)).length:=by have:=x.length;rw[aa]at this;exact this
 rw[cj]at a3;refine⟨a.x,cW,dx,_,_,J,r.s0 _ _ hx,n.cls,n.n,Ww,.inl ⟨J,_,aG.of C⟩,a.ay,M,_,J,J,C,Zi (by omega),?_⟩;have m4:=r.setR ap (l:=s.ready++kh s (dB d)++[h]) (vs:=M++[.ref bh]) (by rw[ax];exact IsL.append x (IsL.one a7));generalize upd H3 a.ay (.lst (M++[.ref bh]))=H4 at m4⊢;refine⟨_,J,?_⟩;refine yi (k u H4 ?_);show bW P w H0 H4 a {done:=V6 hs s.done h,sums:=aO s.sums (dB d),ready:=s.ready++kh s (dB d)++[h]++[],wait:=qm s (dB d),stop:=s.stop,wov:=s.wov++[h]} u;rw[cp];exact m4
end
noncomputable def Xy(M:dG (List Nat) aI)(held:List Nat->Nat->Bool)(s:WS (List Nat)):WS (List Nat):=match s.ready.getLast? with|none=>s|some h=>q8 M held {s with ready:=s.ready.dropLast} h
noncomputable def fz(M:dG (List Nat) aI)(held:List Nat->Nat->Bool):Nat->WS (List Nat)->WS (List Nat)|0,s=>s|n+1,s=>Xy M held (fz M held n s)
noncomputable def vx(held:List ((List Int×Int)×V))(h:List Nat)(p:Nat):Bool:=(yq held (hZ h,(p:Int))).isSome
theorem A9{M:dG (O Nat) aI}{held:O Nat->Nat->Bool}{s:WS (O Nat)}{r:O (O Nat)}(e:s.ready=r++[h]):Xy M held s=q8 M held {s with ready:=r} h:=by
 unfold Xy
 simp_all
inductive lB(P:Program)(w:World)(cW cU cP cR:Addr)(vs:List V)(H:Hp)(Q:VK)(e0:XK):Prop|mk:∀(H0:Hp)(a:WA)(hs:aB)(L:RL)(held:List ((List Int×Int)×V))(s:WS (List Nat))(W:jE),vs=[.ref a.x]->uT P w H0 cW cU cP cR hs L a held->bW P w H0 H a s W->dR hs->Wv (mM hs) (zh (plan hs)) s->s.sums.length=hs.b.toNat->(∀r∈s.wait,r.2≠[])->(∀n W' H',bW P w H0 H' a (fz (mM hs) (vx held) n s) W'->Wv (mM hs) (zh (plan hs)) (fz (mM hs) (vx held) n s)->(fz (mM hs) (vx held) n s).sums.length=hs.b.toNat->(fz (mM hs) (vx held) n s).ready=[]->Q .non H')->lB P w cW cU cP cR vs H Q e0
theorem B5(hs:aB)(W:dR hs):uZ (mM hs) (zh (plan hs)):=⟨λ_ _ _ _ _ e=>(nomatch e),λ_ _ _ e=>(nomatch e),ka hs⟩
theorem Ky(l:List Int)(r:Option (Nat×Int)):(aO l r).length=l.length:=by cases r with|none=>rfl|some p=>exact List.length_set
theorem JD(M:dG (List Nat) aI)(held:List Nat->Nat->Bool)(s:WS (List Nat))(h:List Nat):(q8 M held s h).sums.length=s.sums.length:=by
 unfold q8;cases dW M s h with|none=>grind| some d=>
   dsimp only;split;rfl;split;exact Ky _ _
   grind
theorem Q2{a d:Type}{f:a->d}:∀{l:List a},(l.map f).Nodup->∀{x y:a},x∈l->y∈l->f x=f y->x=y
 |[],_,_,_,h,_,_=>nomatch h
 | c::r,g,x,y,j,i,e=>by
   have b:=bz.mp g;rcases ag.mp j with z|z<;>rcases ag.mp i with u|u;rw[z,u]
   grind
   simp_all
   exact Q2 b.2 z u e
theorem bW.addW{a:WA}{s:WS (O Nat)}{W:jE}(m:bW P w H0 H a s W){q:(Nat×O (O Nat))×Y}(b:q∈W)(e:H q.2=some (.lst vs))(i:IsL H (q.1.2.map hT) vs)(p:Is H (hT h) v):bW P w H0 (upd H q.2 (.lst (vs++[v]))) a {s with wait:=jv s.wait q.1.1 h} (W.map λz=>if z.1.1=q.1.1 then((z.1.1,z.1.2++[h]),z.2)else z):=by
 obtain⟨M,L,K,G,F,E,j,o⟩:=m.ne;obtain⟨D,C⟩:=m.apart e;have t:yu H (upd H q.2 (.lst (vs++[v]))):=yu.upd e (λ_ z=>by cases z);have l:∀z∈W,z.1.1=q.1.1->z=q:=λz f e=>by exact Q2 m.kd f b e
 have d:∀z∈W,z.2=q.2->z=q:=λz f e=>Q2 o f b e;have A:(W.map λz=>if z.1.1=q.1.1 then((z.1.1,z.1.2++[h]),z.2)else z).map (·.2)=W.map (·.2):=by
  rw[bn];refine List.map_congr_left λz _=>?_
  grind
 have x:(W.map λz=>if z.1.1=q.1.1 then((z.1.1,z.1.2++[h]),z.2)else z).map (·.1.1)=W.map (·.1.1):=by
  rw[bn];refine List.map_congr_left λz _=>?_
  grind
 have u:qx (W.map λz=>if z.1.1=q.1.1 then((z.1.1,z.1.2++[h]),z.2)else z)=qx W:=by
  unfold qx
  simp_all
 refine⟨⟨(upd_ne D).trans m.run.1,(upd_ne (ai (j q b).1)).trans m.run.2⟩,m.rdy.upd_ne e (ai (j q b).2.1),m.wov.upd_ne e (ai (j q b).2.2.1),m.stp.upd_ne e (ai (j q b).2.2.2),?_,?_,λz f=>?_,by rw[A];exact m.nd,by rw[x];exact m.kd,qy m.s0 (m.lst q b).2⟩;rw[u];exact m.wai.by t (upd_ne C)
 have n:(s.wait.map (·.1)).Nodup:=by rw[<-m.wl,bn];exact m.kd
 have r:q.1.1∈s.wait.map (·.1):=by rw[<-m.wl,bn];grind
 rw[Ag n,if_pos r,<-m.wl,bn,bn];refine List.map_congr_left λz _=>?_
 grind
 obtain⟨y,g,rfl⟩:=bu.mp f;by_cases c:y.1.1=q.1.1;rw[if_pos c];obtain rfl:=l y g c;exact⟨⟨_,zd,(by rw[ax];exact(IsL.append i (IsL.one p)).tups t (by rw[<-ax];exact Xr _))⟩,(m.lst y g).2⟩;rw[if_neg c];exact⟨(m.lst y g).1.upd_ne e (λz=>c (by rw[d y g z])),(m.lst y g).2⟩
theorem bW.newW{a:WA}{s:WS (O Nat)}{W:jE}(m:bW P w H0 H a s W){e:Y}(he:H e=some (.lst []))(z:H0 e=none)(E:H0 a.aw=none)(ne:e ∉ a.as::a.ay::a.ao::a.ap::W.map (·.2))(R:b ∉ W.map (·.1.1))(g:bH nc P w (upd H a.aw o) a.aw (qx (W++[((b,[]),e)]))) (K:Is H (hT h) v):bW P w H0 (upd (upd H a.aw o) e (.lst [v])) a {s with wait:=jv s.wait b h} (W++[((b,[h]),e)]):=by
 obtain⟨M,D⟩:=m.apart he;have F:yu H (upd H a.aw o):=m.wai.tups;have r:upd H a.aw o e=some (.lst []):=(upd_ne (ai D)).trans he;have u:yu (upd H a.aw o) (upd (upd H a.aw o) e (.lst [v])):=yu.upd r (λ_ z=>by cases z);have t:=F.trans u;simp only[ag,not_or]at ne;have d:∀{c:Y}{p:O (O Nat)},bY H c p->c≠e->bY (upd (upd H a.aw o) e (.lst [v])) c p:=λ{c p} l n=>l.keep (by obtain⟨Q,y,_⟩:=l;rw[upd_ne n,upd_ne (ai (m.apart y).2)]) t
 obtain⟨N,C⟩:=m.wai.some;have i:a.ad≠a.aw:=λy=>by rw[<-y,m.run.1]at C;grind
 have f:a.as≠a.aw:=λy=>by rw[<-y,m.run.2]at C;grind
 have G:∀q∈W,q.2≠e:=λq A y=>ne.2.2.2.2 (by grind);refine⟨⟨?_,?_⟩,d m.rdy (ai ne.2.1),d m.wov (ai ne.2.2.1),d m.stp (ai ne.2.2.2.1),?_,?_,λq A=>?_,?_,?_,qy (qy m.s0 E) z⟩;rw[upd_ne M,upd_ne i];exact m.run.1;rw[upd_ne (ai ne.1),upd_ne f];exact m.run.2;have L:qx (W++[((b,[h]),e)])=qx (W++[((b,[]),e)]):=by unfold qx;simp
 rw[L];exact g.by u (upd_ne D)
 have j:b ∉ s.wait.map (·.1):=by rw[<-m.wl,bn];grind
 rw[Be j,ax,m.wl];rfl;rcases ce.mp A with y|y;exact⟨d (m.lst q y).1 (G q y),(m.lst q y).2⟩;rw[ak.mp y];exact⟨⟨_,zd,IsL.one (K.tups t (ju _))⟩,z⟩;have q:=m.nd
 grind
 rw[ax,List.nodup_append];refine⟨m.kd,by simp,λx U y S z=>?_⟩
 simp_all
def NE(l:List (Nat×List (List Nat))):Prop:=∀r∈l,r.2≠[]
theorem NE.add{l:List (Nat×List (List Nat))}:NE l->NE (jv l b h):=by
 induction l with|nil=>intro _ r g;rw[ak.mp g];simp| cons c r d=>
   intro n x a;obtain⟨c,i⟩:=c;unfold jv at a;by_cases e:c=b;rw[if_pos e]at a;rcases ag.mp a with z|z
   simp_all
   exact n x (bq _ z);rw[if_neg e]at a;rcases ag.mp a with z|z;rw[z];exact n _ bp;exact d (λy f=>n y (bq _ f)) x z
theorem NE.del{l:List (Nat×List (List Nat))}:NE l->NE (Zg l b):=by induction l with|nil=>exact λn=>n| cons c r d=>intro n x a;obtain⟨c,g⟩:=c;unfold Zg at a;by_cases e:c=b;rw[if_pos e]at a;exact n x (bq _ a);rw[if_neg e]at a;rcases ag.mp a with z|z;rw[z];exact n _ bp;exact d (λy f=>n y (bq _ f)) x z
theorem NE.len{l:List (Nat×List (List Nat))}:NE l->l.length<=jz l:=by induction l with|nil=>simp| cons c r a=>intro n;have e:=a λy b=>n y (bq _ b);have d:=List.length_pos_iff.mpr (n c bp);show r.length+1<=c.2.length+jz r;omega
theorem NE.turn{M:dG (List Nat) aI}{held:List Nat->Nat->Bool}{s:WS (List Nat)}(n:NE s.wait):NE (q8 M held s h).wait:=by
 unfold q8;cases dW M s h with|none=>grind| some d=>
   dsimp only;split;exact n;split;show NE (qm s (M.ra d));cases M.ra d with|none=>exact n|some p=>exact n.del
   cases M.aw d with|none=>exact n|some p=>exact n.add
theorem IsL.snoc{H:Hp}:∀{c:List L2.T}{t:L2.T}{b:List V},IsL H (c++[t]) b->∃a v,b=a++[v]/\IsL H c a/\Is H t v| [],t,b,h=>by obtain⟨v,f,rfl,e,d⟩:=h;cases(d);exact⟨[],v,J,J,e⟩| u::c,t,b,h=>by obtain⟨v,f,rfl,e,d⟩:=h;obtain⟨a,w,rfl,i,g⟩:=IsL.snoc d;exact⟨v::a,w,J,⟨v,a,J,e,i⟩,g⟩
section
variable{K:W.Frag}
theorem qH{k:Nat}(a:aQ k A):A.units+3<cLine:=ef (fh (by decide) _) a.units
theorem Bq:aA ["self","hand","deed"] ["self"] (zf uq):=.of
theorem Hs(D:qk K cW "weave" "Weaver.weave" uq)(p:aH K cW cG)(CU:aH K cU cJ)(CP:aH K cP aZ)(CR:aH K cR aT)(oN:bU P w K mg base cU "next_deed" 1 ["self","hand"] (jO cU cP cR))(oM:bU P w K mg base cU "may_go_on" 2 ["self","hand"] (l8 cU cP cR))(oS:bU P w K mg base cW "step" 3 ["self","hand"] (lH P w cW cU cP cR)):bU P w K mg base cW "weave" 4 ["self"] (lB P w cW cU cP cR):=by
 refine ku (k:=3) D Bq ?_;rintro f du A bB s0 H vs Q E hr ⟨H0,a,i,L,g,s,W,rfl,F,m,PH,WV,bM,b4,k⟩ X;have hu:=ji hr;have bL:=qH hr;have bK:=xA hr;have nd:=Bq.nd;refine⟨_,zg (AT PassesOwn.never (Hj (zx (pv 0) J) (λ_=>rfl)) (zb (zo (i:=1) nd (yD PySem.F.plainAttrs_list PySem.F.slot_list_pop PySem.F.type_list_pop Eb (zx (pv 0) J))) (zb (zo (i:=2) nd (v6 oN CU.cls (hr.mono (by decide)) (zx (pv 0) J) (za (pv 1) zc))) (zg (ye (Wi (El (τ:=cV) bL (xi (za (pv 1) (za (wg hu (zx (zx (pv 0) J) J) (pv 1)) zc))) (zx (pv 0) J))) (zg (wo (ja PySem.F.plainAttrs_list PySem.F.slot_list_append PySem.F.type_list_append qf (zx (pv 0) J) (za (pv 1) zc))))
   (zg (ye (y7 (v6 oM CU.cls (hr.mono (by decide)) (zx (pv 0) J) (za (pv 1) zc))) (zg (wo (v6 oS p.cls hr (pv 0) (za (pv 1) zc)))) (zg (ye (Wi (zQ (pv 2))) (zg (wo (ja PySem.F.plainAttrs_list PySem.F.slot_list_append PySem.F.type_list_append qf (Hy (τ:=nc) bK (zx (pv 0) J) (kr sd (pv 2) Zv (Zu ze)) (w9 zc) ⟨J,J,J,J⟩) (za (pv 1) zc)))) zn))))))))),?_⟩
 obtain⟨RF,⟨dx,hx⟩,GH,c0,bC,bD,bE⟩:=id F;obtain⟨xp,aS,am,al,PA,aK,_,_,c1,cv⟩:=id RF;have PL:=B5 i PH;refine⟨λR σ G=>∃x1 x2 n x,σ=[some (.ref a.x),x1,x2]/\bW P w H0 G a (fz (mM i) (vx g) n s) x/\Wv (mM i) (zh (plan i)) (fz (mM i) (vx g) n s)/\(fz (mM i) (vx g) n s).sums.length=i.b.toNat/\NE (fz (mM i) (vx g) n s).wait/\R=Qz (mM i) (zh (plan i)) (fz (mM i) (vx g) n s),⟨_,none,none,0,W,J,m,WV,bM,b4,J⟩,?_⟩;rintro R σ G ⟨x1,x2,n,x,rfl,m1,l,M,N,rfl⟩;have kn:=k n x G;generalize cb:fz (mM i) (vx g) n s=st at m1 l M N kn⊢;obtain⟨ys,aw,af⟩:=id m1.rdy;refine⟨a.x,cW,dx,_,_,J,m1.s0 _ _ hx,p.cls,p.n,Ww, !ys.isEmpty,.inl ⟨ys,aG.of aw,J⟩,?_⟩;by_cases c:st.ready=[];rw[c]at af;cases(show ys=[]from af);exact yi (kn m1 l M c);obtain⟨r,h,er⟩:∃r h,st.ready=r++[h]:=⟨st.ready.dropLast,st.ready.getLast c,(List.dropLast_concat_getLast c).symm⟩
 rw[er,ax]at af;obtain⟨yr,v,rfl,bI,iv⟩:=IsL.snoc af;have bg:(!(yr++[v]).isEmpty)=true:=by cases yr<;>rfl
 rw[bg];obtain⟨WT,b5⟩:=l.turn (held:=vx g) PL er;have hk:h∈zh st.done:=l.rdy h (by rw[er];exact cu _ (ak.mpr J));have hh:=l.sub h hk;have dq:=l.len;have dp:st.done.length<=60:=by
  have q:=sC (mM i) l;have q2:(zh (plan i)).length<=60:=by unfold zh;rw[aa];exact PH.few60
  omega
 have dn:st.wov.length<=1200:=by have q:=l.most;have q2:tot (mM i) (zh (plan i))=Q4 i.ss (plan i):=W0 (ka i);have q3:=PH.deeds;have q4:Q4 i.ss (plan i)<=1200:=q3;omega
 have de:r.length+1=st.ready.length:=by rw[er,cj];rfl
 refine wf ⟨λa5 G'=>∃x1 x2 a3,a5=[some (.ref a.x),x1,x2]/\bW P w H0 G' a (q8 (mM i) (vx g) {st with ready:=r} h) a3,?_,?_⟩;rintro a5 G' ⟨bx,bw,a3,rfl,m'⟩;have e:fz (mM i) (vx g) (n+1) s=q8 (mM i) (vx g) {st with ready:=r} h:=by show Xy _ _ (fz (mM i) (vx g) n s)=_;rw[cb,A9 er]
 refine⟨_,b5,bx,bw,n+1,a3,J,?_⟩;rw[e];exact⟨m',WT,(JD ..).trans M,NE.turn (s:={st with ready:=r}) N,J⟩;refine⟨a.x,cW,dx,_,_,J,m1.s0 _ _ hx,p.cls,p.n,Ww,.inl ⟨J,_,aG.of aw⟩,a.ay,_,v,J,J,aw,by simp,?_⟩;rw[List.dropLast_append_of_ne_nil (by simp),List.dropLast_singleton,cp];have U:=m1.setR bC (l:=r) (vs:=yr) bI;have ap:Is (upd G a.ay (.lst yr)) (hT h) v:=iv.tups (yu.upd aw (λ_ z=>by cases z)) (ju _);generalize upd G a.ay (.lst yr)=G2 at U ap⊢;obtain⟨bh,rfl,b9⟩:=kz ap;refine⟨a.x,cW,dx,_,_,J,U.s0 _ _ hx,p.cls,p.n,Qd,a.xr,aS,_,J,U.s0 _ _ aK,J,H0,a.xr,a.ad,a.as,i,L,st.done,st.sums,h,.ref bh,J,⟨RF,U.s0,⟨.inl U.run.1,U.run.2⟩⟩,hh,hk,PH,ap,λvd t=>?_⟩;refine⟨a.x,cW,dx,_,_,J,U.s0 _ _ hx,p.cls,p.n,Qd,a.xr,cU,aS,_,_,J,U.s0 _ _ aK,CU.cls,CU.n,Za,a.ad,_,J,Z4 hk▸DGet.t U.run.1 b9,bF,λp3 G3 s3 dg b1=>?_⟩;have C:=U.same s3;have ah:=ap.mono s3;refine⟨a.x,cW,dx,_,_,J,C.s0 _ _ hx,p.cls,p.n,F1,a.ah,p3,g,(hZ h,(yb st.done h:Int)),J,J,GH.same C.s0,⟨p3,_,J,b1,IsL.two ah J⟩,_,J,?_⟩;show if vx g h (yb st.done h)=true then _ else _
 by_cases hb:vx g h (yb st.done h)=true;rw[if_pos hb];obtain⟨ps,bk,ba⟩:=id C.stp;have co:ps.length=st.stop.length:=by have:=ba.length;rw[aa]at this;exact this
 refine⟨a.x,cW,dx,_,_,J,C.s0 _ _ hx,p.cls,p.n,LE,.inl ⟨J,_,aG.of bk⟩,a.ap,ps,_,J,J,bk,Zi (by omega),_,_,x,J,?_⟩;have S:=C.setP bE (l:=st.stop++[h]) (vs:=ps++[.ref bh]) (by rw[ax];exact IsL.append ba (IsL.one ah));have et:q8 (mM i) (vx g) {st with ready:=r} h={st with ready:=r,stop:=st.stop++[h]}:=by
  unfold q8;cases dW (mM i) {st with ready:=r} h with
  |none=>exact if_pos hb
  |some d=>exact if_pos hb
 rw [et];exact S;rw[if_neg hb];refine⟨a.x,cW,dx,_,_,J,C.s0 _ _ hx,p.cls,p.n,Qd,a.xr,aS,_,J,C.s0 _ _ aK,J,H0,a.xr,a.ad,a.as,i,L,st.done,st.sums,h,.ref bh,J,⟨RF,C.s0,⟨.inl C.run.1,C.run.2⟩⟩,hh,hk,PH,M,ah,λG4 s4=>⟨_,J,?_⟩⟩;have S:=C.same s4;have a8:=ah.mono s4;have em:pK i st.done st.sums h=Yl (mM i) {st with ready:=r} h:=by
  unfold pK Yl dW;dsimp only;cases((mM i).scr h)[yb st.done h]? with
  |none=>rfl
  | some d=>dsimp only;have e:(mM i).aw d=qV d:=rfl;rw[e]<;>cases qV d<;>rfl
 rw[em];cases hd:dW (mM i) {st with ready:=r} h with
 | none=>
   have t:vd=.non:=by have q:=t;have e:((mM i).scr h)[yb st.done h]?=none:=hd;rw[e]at q;exact q
   have e2:Yl (mM i) {st with ready:=r} h=false:=by unfold Yl;rw[hd]
   rw[e2,t];refine yi ⟨_,J,yi ⟨_,_,x,J,?_⟩⟩;have et:q8 (mM i) (vx g) {st with ready:=r} h={st with ready:=r}:=by unfold q8;rw[hd];exact if_neg hb
   rw[et];exact S
 | some d=>
   have t:Is G2 (eD d) vd:=by have q:=t;have e:((mM i).scr h)[yb st.done h]?=some d:=hd;rw[e]at q;exact q
   by_cases c2:Yl (mM i) {st with ready:=r} h=true;rw[c2];have et:q8 (mM i) (vx g) {st with ready:=r} h=Z5 (mM i) {st with ready:=r} h d:=by unfold q8;rw[hd];exact(if_neg hb).trans (if_pos c2)
   refine wf ⟨a.x,dx,_,J,S.s0 _ _ hx,J,H0,a,i,L,g,{st with ready:=r},x,h,d,.ref bh,J,F,S,PH,hh,hk,M,a8,hd,l.nd,(by show st.done.length<=999;omega),(by show r.length+jz st.wait<=1000;omega),(by show st.wov.length<=2000;omega),λW5 G5 m5=>⟨_,_,W5,J,?_⟩⟩;rw[et];exact m5;have c3:Yl (mM i) {st with ready:=r} h=false:=by cases e:Yl (mM i) {st with ready:=r} h<;>first|rfl|exact absurd e c2
   rw[c3];refine yi ?_;obtain⟨b,R,rfl⟩:∃b R,d=.awa b R:=by
    cases d with
    |awa b R=>exact⟨b,R,J⟩
    |_=>exact absurd (by unfold Yl;rw[hd];rfl) c2
   have et:q8 (mM i) (vx g) {st with ready:=r} h={st with ready:=r,wait:=jv st.wait b.toNat h}:=by unfold q8;rw[hd];exact(if_neg hb).trans (if_neg c2)
   obtain⟨sc,bN,b7⟩:=Xu (show((mM i).scr h)[yb st.done h]?=some (.awa b R)from hd);obtain⟨ca,dt⟩:=PH.box sc bN _ b7 b R (.inr J);have b8:((b.toNat:Nat):Int)=b:=Int.toNat_of_nonneg ca;have bb:=(t.mono s3).mono s4;have b2:(!decide (vd=.non))=true:=by obtain⟨c,zs,rfl,_⟩:=t;rfl
   refine⟨_,J,?_⟩;rw[b2];refine wf ?_;have bl:x.length<=60:=by
    have q:=N.len;have q2:x.length=st.wait.length:=by rw[<-S.wl,aa]
    omega
   refine⟨a.x,cW,dx,_,_,J,S.s0 _ _ hx,p.cls,p.n,Ke,a.aw,_,J,S.wai,2,J,_,bb,λv5 G5 s5 i5=>⟨be _,λe G6 s6 j av=>?_⟩⟩;rw[show Xh [L2.T.str "await",.int b,.int R] none (some 2)=[.str "await",.int b]from vK _ _ _,<-b8]at i5;obtain⟨g5,x5,rfl,dr,dh⟩:=id i5;have m6:=(S.same s5).same s6;have a7:=(a8.mono s5).mono s6;refine⟨g5,qx x,kA b.toNat,J,m6.wai,i5.mono s6,by unfold qx;rw[aa];exact xy (by omega),λv7 bJ=>?_,λbc o hg=>?_⟩;obtain⟨q,hq,b0,rfl⟩:=pY.1 _ bJ;obtain⟨zs,ay,a6⟩:=(m6.lst q hq).1;have cn:zs.length<=60:=by
    have e1:=a6.length;rw[aa]at e1;have e2:q.1.2.length<=jz st.wait:=by
     have ck:(st.wait.map (·.1)).Nodup:=by rw[<-m6.wl,bn];exact m6.kd
     have bd:(q.1.1,q.1.2)∈st.wait:=by rw[<-m6.wl];exact List.mem_map_of_mem (f:=λz:(Nat×List (List Nat))×Addr=>z.1) hq
     rw[<-ui ck bd];exact Kd
    omega
   refine⟨.inl ⟨J,_,aG.of ay⟩,q.2,zs,_,J,J,ay,xy (by omega),_,_,x.map λz=>if z.1.1=q.1.1 then((z.1.1,z.1.2++[h]),z.2)else z,J,?_⟩;rw[et,<-b0];exact m6.addW hq ay a6 a7;have b3:=pY.2 bc;rw[Zl _ bc]at hg;have cc:qx x++[(kA b.toNat,V.ref e)]=qx (x++[((b.toNat,[]),e)]):=by unfold qx;rw[ax];rfl
   rw[cc]at hg;have m5:=S.same s5;have Z:∀{c:Addr}{i:List (List Nat)},bY G5 c i->e≠c:=λ{c i} ⟨vs,y,_⟩ z=>by rw[z,y]at j;cases j
   have b6:e ∉ a.as::a.ay::a.ao::a.ap::x.map (·.2):=λhm=>by rcases ag.mp hm with z|z;rw[z,m5.run.2]at j;cases j;rcases ag.mp z with z|z;exact Z m5.rdy z;rcases ag.mp z with z|z;exact Z m5.wov z;rcases ag.mp z with z|z;exact Z m5.stp z;obtain⟨q,hq,y⟩:=bu.mp z;exact Z (m5.lst q hq).1 y.symm
   have cl:H0 e=none:=by
    cases z:H0 e with
    |none=>rfl
    |some u=>rw[m5.s0 _ _ z]at j;cases j
   obtain⟨φ,ew⟩:=m6.wai.some;have bi:upd G6 a.aw o e=some (.lst []):=(upd_ne (λz=>by rw[z,ew]at av;cases av)).trans av;refine⟨.inl ⟨J,_,aG.of bi⟩,e,[],_,J,J,bi,(by decide),_,_,x++[((b.toNat,[h]),e)],J,?_⟩;rw[et];exact m6.newW av cl bD b6 b3 hg a7
end
noncomputable abbrev X8:Stmt:=aX 76
noncomputable def jH(hs:aB)(held:List ((List Int×Int)×V))(U:List (List Nat×Nat))(G:List Int)(n:Nat):WS (List Nat):=fz (mM hs) (vx held) n (newW U G)
inductive fT(P:Program)(w:World)(cU cP cR:Addr)(vs:List V)(H:Hp)(Q:VK)(e0:XK):Prop|mk:∀(H0:Hp)(xr ad as ah:Addr)(hs:aB)(L:RL)(done:List (List Nat×Nat))(sums:List Int)(held:List ((List Int×Int)×V)),vs=[.ref xr,.ref ah]->dO H0 H cU cP cR hs L xr ad as done sums->bH cV P w H0 ah held->dR hs->Wv (mM hs) (zh (plan hs)) (newW done sums)->sums.length=hs.b.toNat->(∀n ao H',Same H0 H'->H0 ao=none->Wt H' ad as (jH hs held done sums n).done (jH hs held done sums n).sums->bY H' ao (jH hs held done sums n).wov->Wv (mM hs) (zh (plan hs)) (jH hs held done sums n)->(jH hs held done sums n).ready=[]->Q (.ref ao) H')->fT P w cU cP cR vs H Q e0
section
variable{K:W.Frag}{cS:Addr}
theorem Ja:aA ["run","held","weaver"] ["run","held"] (zf X8):=.of
theorem LN(D:bG K mg "woven_on" X8)(M:aH K cW cG)(oI:eX P w K mg base "Weaver" cW 1 ["self","run","held"] (lC P w cW cU cP cR))(oW:bU P w K mg base cW "weave" 4 ["self"] (lB P w cW cU cP cR)):Ok P w K mg base "woven_on" 5 ["run","held"] (fT P w cU cP cR):=by
 refine wa D Ja ?_;rintro f aK A t s H vs Q E l ⟨H0,N,ad,as,Z,h,L,a,c,d,rfl,R,GH,PH,WV,v,k⟩ X;have nd:=Ja.nd;refine⟨_,zb (zo (i:=2) nd (mW oI (l.mono (by decide)) (za (pv 0) (za (pv 1) zc)))) (zb (wo (Vq oW M.cls l (pv 2))) (zg (zk (zx (pv 2) J)))),?_⟩
 refine(λx G U z av=>?_);have p:Same H (upd (upd H G (.own x)) x (.ins cW G [])):=λb o e=>by rw[upd_ne (zj e U),upd_ne (zj e z)];exact e
 have C:a.length<=1000:=by
  have q:=sC (mM h) WV;have q2:(zh (plan h)).length<=60:=by unfold zh;rw[aa];exact PH.few60
  have q3:a.length<=(zh (plan h)).length:=q;omega
 refine⟨H0,x,G,N,ad,as,Z,h,L,a,c,d,J,zd,R.s.trans p,xa R.s U,R.f,⟨p _ _ R.m.1,p _ _ R.m.2⟩,GH,C,λW ay aw ap G0 H2 S F m=>⟨J,?_⟩⟩;obtain⟨RF,⟨i,g⟩,_,u,_⟩:=id F;refine⟨x,i,_,J,m.s0 _ _ g,J,G0,⟨x,N,ad,as,Z,W,ay,aw,ap⟩,h,L,d,newW a c,[],J,F,m,PH,WV,v,λr l=>(nomatch l),λn W' H3 j W3 af y=>?_⟩;refine⟨x,cW,i,_,_,J,j.s0 _ _ g,M.cls,M.n,Bi,?_⟩;exact k n W H3 (S.trans j.s0) (xa S u) j.run j.wov W3 y
end
noncomputable def su:Stmt:=aX 83
noncomputable abbrev X9:Stmt:=(xx su).getD 0 dH
noncomputable abbrev tY:Stmt:=(xx su).getD 1 dH
noncomputable abbrev qM:Stmt:=(xx su).getD 2 dH
noncomputable def dU:List Str:=["run","woven"]
noncomputable def mZ(G U:Addr):List (Str×V):=[(("run":Str),.ref G),("woven",.ref U)]
theorem Ec:(mZ xr ao).lookup ("run":Str)=some (.ref xr):=rfl
theorem K3:(mZ xr ao).lookup ("woven":Str)=some (.ref ao):=rfl
inductive aW(N:Addr->Prop)(H:Hp)(cS cU:Addr)(x:Addr)(st:WS (List Nat)):Prop|mk:∀dx xr ao dxu xp ad as am al,H x=some (.ins cS dx (mZ xr ao))->H xr=some (.ins cU dxu (eZ xp ad as am al))->H ad=some (.dT (yy st.done))->bY H ao st.wov->N x->N xr->N ad->N ao->aW N H cS cU x st
theorem aW.keep{N j:Y->Prop}{cS:Y}{st:WS (O Nat)}(a:aW N H cS cU x st)(d:∀b o,N b->H b=some o->H' b=some o)(t:yu H H')(c:∀b,N b->j b):aW j H' cS cU x st:=by obtain⟨v,l,w,e,m,ad,as,y,z,u,s,r,⟨n,q,p⟩,i,h,g,f⟩:=a;exact⟨v,l,w,e,m,ad,as,y,z,d _ _ i u,d _ _ h s,d _ _ g r,⟨n,d _ _ f q,p.tups t (Xr _)⟩,c _ i,c _ h,c _ g,c _ f⟩
theorem aW.same{N:Y->Prop}{cS:Y}{st:WS (O Nat)}(a:aW N H cS cU x st)(s:Same H H'):aW N H' cS cU x st:=a.keep (λb o _ e=>s b o e) s.tups λ_ n=>n
noncomputable def yd(hs:aB)(held:List ((List Int×Int)×V))(n:Nat):WS (List Nat):=jH hs held (xj (Yp (plan hs))) (jf hs) n
noncomputable def yp(h:List Nat)(p:Nat):List ((List Int×Int)×V):=[((hZ h,(p:Int)),.bl true)]
theorem Wu(hs:aB):(jf hs).length=hs.b.toNat:=fc ..
theorem Xf{hs:aB}(W:dR hs):Wv (mM hs) (zh (plan hs)) (newW (xj (Yp (plan hs))) (jf hs)):=by
 have e:newW (xj (Yp (plan hs))) (jf hs)=nS (Yp (plan hs)) (jf hs):=by unfold newW nS;congr 1;unfold zh xj;rw[bn];exact List.map_id _
 rw[e];refine Gg wZ yY λh p g a b=>?_
 nomatch a
theorem aM.keepO{hs:aB}{L:RL}(p:aM H cP cR hs L x)(a:∀b o,(∀C d,o≠ .ins C d [])->H b=some o->H' b=some o):aM H' cP cR hs L x:=by obtain⟨c,g,G,F,E,D,A,y⟩:=p;have t:yu H H':=λb N e=>a b _ (λ_ _ z=>by cases z) e;refine⟨c,g,G,a _ _ (λ_ _ z=>by cases z) F,E.tups t (Wp _),a _ _ (λ_ _ z=>by cases z) D,A,λq w=>?_⟩;obtain⟨c,h,f,M,K,ac,r,m,l,j,i,n,v,u,s⟩:=y q w;exact⟨c,h,f,M,K,ac,a _ _ (λ_ _ z=>by cases z) r,m.tups t (Wo _),a _ _ (λ_ _ z=>by cases z) l,a _ _ (λ_ _ z=>by cases z) j,a _ _ (λ_ _ z=>by cases z) i,n,v,u,s⟩
inductive jL(cS cU cP cR:Addr)(vs:List V)(H:Hp)(Q:VK)(e0:XK):Prop|mk:∀(G:Hp)(x dx xp:Addr)(vone:V)(hs:aB)(L:RL)(h:List Nat)(p:Nat),vs=[.ref x,.ref xp,vone]->H x=some (.ins cS dx [])->Same G H->G x=none->aM G cP cR hs L xp->dR hs->Is H (.tup [hT h,.int (p:Int)]) vone->(∀n H',Same G H'->Wv (mM hs) (zh (plan hs)) (yd hs (yp h p) n)->(yd hs (yp h p) n).ready=[]->aW (λa=>G a=none) H' cS cU x (yd hs (yp h p) n)->Q .non H')->jL cS cU cP cR vs H Q e0
section
variable{K:W.Frag}{cS:Addr}
theorem L1:aA ["self","plan","one"] ["self","plan","one"] (zf X9):=.of
theorem LM(D:kB K mg "Stop" "Stop.__init__" cS X9)(CS:aH K cS dU)(oF:Ok P w K mg base "first_run" 4 ["plan"] (fU cU cP cR))(oO:Ok P w K mg base "woven_on" 5 ["run","held"] (fT P w cU cP cR)):eX P w K mg base "Stop" cS 6 ["self","plan","one"] (jL cS cU cP cR):=by
 refine nQ (k:=5) D L1 ?_;rintro f bk A a6 s H vs Q E hr ⟨G,x,l,xp,av,hs,L,h,p,rfl,hx,sG,Gx,PA,PH,iv,k⟩ X;have bb:=qH hr;refine⟨_,zb (vb (pv 0) (yc oF (hr.mono (by decide)) (za (pv 1) zc)) J) (zg (vb (pv 0) (yc oO hr (za (zx (pv 0) J) (za (IP (τ:=cV) bb (pv 2) jy) zc))) J)),?_⟩;refine⟨xp,hs,L,J,PA.same sG,PH,λa ad as H0 H1 v s1 M RF RM=>?_⟩;obtain⟨ap,a5,am,al,bg,r,R,S,g,F⟩:=id RF;have a3:=s1 _ _ (v _ _ hx);refine⟨x,cS,l,_,J,a3,CS.cls,CS.n,bF,?_⟩;rw[show qb "run" (.ref a) []=[(("run":Str),V.ref a)] by rfl];have c:=v _ _ hx;have ay:ad≠x:=λz=>by rw[z,c]at g;cases g
 have a7:as≠x:=λz=>by rw[z,c]at F;cases F
 have C:a≠x:=λz=>by rw[z,hx]at M;cases M
 have g2:upd H1 x (.ins cS l [(("run":Str),V.ref a)]) x=_:=zd;have b2:Bt [x] H1 (upd H1 x (.ins cS l [(("run":Str),V.ref a)])):=Bt.upd (by simp);generalize upd H1 x (.ins cS l [(("run":Str),V.ref a)])=H2 at g2 b2⊢;have aw:Same G H2:=b2.same ((sG.trans v).trans s1) λm d=>by rw[ak.mp d];exact Gx
 have nx:∀{b:Addr},b≠x->b ∉ [x]:=λ{b} z d=>z (ak.mp d);refine⟨x,cS,l,_,_,J,g2,CS.cls,CS.n,J,λah o U hg=>?_⟩;have t2:yu H1 H2:=b2.tups λm d xs e=>by rw[ak.mp d,a3]at e;cases e
 have aK:Is H2 (.tup [hT h,.int (p:Int)]) av:=((iv.mono v).mono s1).tups t2 ⟨ju _,trivial,trivial⟩;obtain⟨vo,xo,rfl,bh,bi⟩:=id aK;have sa:=Same.new U o;refine⟨vo,(hZ h,(p:Int)),J,aK.mono sa,hg,λo' N=>?_⟩;have t:Same H2 (upd (upd H2 ah o) ah o'):=λb u e=>by rw[upd_ne (zj e U),upd_ne (zj e U)];exact e
 generalize upd (upd H2 ah o) ah o'=H3 at t N⊢;have af:=t _ _ (b2 _ _ (nx ay) RM.1);have W:=t _ _ (b2 _ _ (nx a7) RM.2);have i:∀{b:Addr}{u:HO},H0 b=some u->b ∉ [ad,as]:=λ{b u} e d=>by rcases ag.mp d with z|z;rw[z,g]at e;cases e;rw[ak.mp z,F]at e;cases e
 have tw:yu H3 (without [ad,as] H3):=λb xs e=>by rw[yj];exact e;intro d;rcases ag.mp d with z|z;rw[z,af]at e;cases e;rw[ak.mp z,W]at e;cases e
 have ba:ah ∉ [ad,as]:=λd=>by obtain⟨φ,e⟩:=N.some;rcases ag.mp d with z|z;rw[z,af]at e;cases e;rw[ak.mp z,W]at e;cases e
 have kp:∀b u,b≠x->H0 b=some u->without [ad,as] H3 b=some u:=λb u z e=>by rw[yj (i e)];exact t _ _ (b2 _ _ (nx z) (s1 _ _ e))
 have xw:without [ad,as] H3 x=some (.ins cS l [(("run":Str),V.ref a)]):=by rw[yj (i c)];exact t _ _ g2
 have bd:dF (without [ad,as] H3) cU cP cR hs L a ad as:=⟨ap,a5,am,al,bg.keepO (λb u z e=>kp b u (λy=>by rw[y,c]at e;exact z _ _ (Option.some.inj e).symm) e),kp _ _ C r,kp _ _ (λy=>by rw[y,c]at R;cases R) R,kp _ _ (λy=>by rw[y,c]at S;cases S) S,yk (by simp),yk (by simp)⟩
 refine⟨without [ad,as] H3,a,ad,as,ah,hs,L,_,_,yp h p,J,⟨bd,xq,af,W⟩,N.by tw (yj ba),PH,Xf PH,Wu hs,λn Z H4 s4 j rm l4 WV bc=>?_⟩;have aS:=s4 _ _ xw;refine⟨x,cS,l,_,J,aS,CS.cls,CS.n,bF,?_⟩;rw[show qb "woven" (.ref Z) [(("run":Str),V.ref a)]=mZ a Z by rw[y6 (by decide)];rfl];have a8:Z≠x:=λz=>by rw[z,xw]at j;cases j
 have t5:yu H4 (upd H4 x (.ins cS l (mZ a Z))):=yu.upd aS (λ_ z=>by cases z);refine k n _ (λb u e=>?_) WV bc ⟨l,a,Z,a5,ap,ad,as,am,al,zd,?_,(upd_ne ay).trans rm.1,l4.keep (upd_ne a8) t5,Gx,xa sG M,xa (sG.trans v) g,?_⟩;rw[upd_ne (λz=>by rw[z,Gx]at e;cases e)];refine s4 _ _ ?_;rw[yj (i (v _ _ (sG _ _ e)))];exact t _ _ (aw _ _ e);rw[upd_ne C];exact s4 _ _ (kp _ _ C r);show G Z=none;cases z:G Z with|none=>rfl| some u=>have q:=aw _ _ z;have q2:=v _ _ (sG _ _ z);rw[yj (i q2),t _ _ q]at j;cases j
theorem HW:aA ["self","other"] ["self","other"] (zf tY):=.of
inductive jP(cS cU:Addr)(vs:List V)(H:Hp)(Q:VK)(e0:XK):Prop|mk:∀(x:Addr)(st:WS (List Nat))(h:List Nat)(p:Nat)(vn:V),vs=[.ref x,vn]->aW (λ_=>True) H cS cU x st->Is H (.tup [hT h,.int (p:Int)]) vn->Q (.bl (!decide (p<yb st.done h))) H->jP cS cU vs H Q e0
theorem GQ(D:qk K cS "lacks" "Stop.lacks" tY)(e:aH K cS dU)(v:aH K cU cJ)(j:bU P w K mg base cU "has_done" 1 ["self","name"] (md cU)):bU P w K mg base cS "lacks" 2 ["self","other"] (jP cS cU):=by refine ku D HW ?_;rintro f r A b s H y Q E m ⟨x,st,h,p,i,rfl,⟨q,c,C,a,g,ad,as,t,u,o,d,n,z,_⟩,l,k⟩ X;refine⟨_,zg (zk (xY (v6 j v.cls m (zx (pv 0) J) (za (pv 1) zc)))),?_⟩;exact⟨x,cS,q,_,_,J,o,e.cls,e.n,Ec,c,a,_,J,d,J,c,a,g,ad,as,t,u,st.done,h,p,i,J,d,n,l,_,J,k⟩
noncomputable def Xc(h:List Nat)(l:List (List Nat)):Nat->List Nat|0=>[]|i+1=>Xc h l i++if l[i]?=some h then[i]else[]
theorem V1(h:List Nat)(l:List (List Nat)):∀i,(Xc h l i).length=(l.take i).count h
 |0=>rfl
 | i+1=>by
   show(Xc h l i++if l[i]?=some h then[i]else[]).length=_;rw[cj,V1 h l i,cq,List.count_append]
   grind
theorem zE{h:List Nat}{l:List (List Nat)}:∀{i p j:Nat},(Xc h l i)[p]?=some j->l[j]?=some h/\(l.take j).count h=p
 |0,p,j,e=>by cases e
 | i+1,p,j,e=>by
   have a:(Xc h l i++if l[i]?=some h then[i]else[])[p]?=some j:=e;by_cases c:p<(Xc h l i).length;rw[List.getElem?_append_left c]at a;exact zE a;rw[List.getElem?_append_right (by omega)]at a;by_cases z:l[i]?=some h;rw[if_pos z]at a;have q:=(ci.mp a).1;have b:p-(Xc h l i).length=0:=by simp_all
   rw[b]at a;cases a;refine⟨z,?_⟩;rw[<-V1];omega
   simp_all
theorem C8(a b:O Nat):id (PyData.eqv (bO (hT a)) (bO (hT b)))=decide (a=b):=by
 show PyData.eqv (bO (tI (hZ a))) (bO (tI (hZ b)))=_;rw[DT];by_cases c:a=b
 simp_all
 rw[c6 c,c6 (λz=>c (qr z))]
theorem C1{a:Type}(l:O a)(j:Nat):Xh l none (some ((j:Nat):Int))=l.take j:=by unfold Xh;rw[HT.qS,HT.oj];simp
theorem Ao:aA ["self","other","places"] ["self","other"] (zf qM):=.of
inductive lD(cS cU:Addr)(vs:List V)(H:Hp)(Q:VK)(e0:XK):Prop|mk:∀(x:Addr)(st:WS (List Nat))(h:List Nat)(p:Nat)(vn:V),vs=[.ref x,vn]->aW (λ_=>True) H cS cU x st->Is H (.tup [hT h,.int (p:Int)]) vn->p<st.wov.count h->st.wov.length<=2000->(∀l H' (j:Nat),Same H H'->st.wov[j]?=some h->(st.wov.take j).count h=p->Is H' (.lst ((st.wov.take (j+1)).map hT)) (.ref l)->Q (.ref l) H')->lD cS cU vs H Q e0
theorem Fr(D:qk K cS "up_to" "Stop.up_to" qM)(T:Txt K mg)(G:aH K cS dU):bU P w K mg base cS "up_to" 1 ["self","other"] (lD cS cU):=by
 refine ku D Ao ?_;rintro f aw A L s H vs Q E hr ⟨x,st,h,p,vn,rfl,⟨dx,xr,ao,av,xp,ad,as,am,al,h1,h2,h3,⟨os,m,d⟩,_⟩,iv,hp,ah,k⟩ X;have nd:=Ao.nd;refine⟨_,zb (Vn (i:=2) (own:=["place","hand"]) (cap:=[1]) (g:=eT K 2 (bR (js 0) (bR (js 1) lr))) J (yt (zf qM) J J (by decide+kernel) (by decide+kernel) (by decide+kernel) ⟨⟨_,J,.inl J,v8 J⟩,trivial⟩)
   (AR J T.enumerate (za (zx (pv 0) J) zc))
   (λ_ _ _ _=>j2 J (yv (zp (by show(["place","hand","other"]:List Str).Nodup;decide+kernel) J (Or.inl J)) (yv (zp (by show(["place","hand","other"]:List Str).Nodup;decide+kernel) J (Or.inl J)) qv)))
   (λ_ _ _ _=>jp (zm (zP (by exact hr.units)) (pv 1) (zr (r:=cO K) zt (pv 2) ze (λ_ _=>rfl)) (zu _)))
   (λ_ _ _ _=>pv 0) nd J J (by with_unfolding_all rfl))
  (zg (zk (kr wQ (zx (pv 0) J) Zv (Zu (ya xv (zr y4 (pv 2) (zr zt (pv 1) ze)) ze))))),?_⟩
 obtain⟨a5,af,rfl,v,U⟩:=id iv;obtain⟨v1,rr,rfl,N,v2,r2,rfl,M,R⟩:=U;cases(R);cases(M);have r:=d.length;rw[aa]at r;refine⟨x,cS,dx,_,_,J,h1,G.cls,G.n,K3,ao,os,J,m,?_⟩;refine GX (λi C b=>Same H b/\C=(Xc h st.wov i).map λ(j:Nat)=>V.int j) ⟨Same.refl H,J⟩ (λi C b hi ⟨n,e⟩=>⟨n _ _ m,?_⟩) ?_ ?_;rw[e,aa,V1];have q:=List.count_le_length (a:=h) (l:=st.wov.take i);have q2:=List.length_take_le i st.wov;exact Nat.le_of_lt (Zi (by omega));rintro i z C b q hz ⟨n,rfl⟩ hq;have W:=Same.new hq (.tup [.int i,z]);have o:upd b q (.tup [.int i,z]) q=some (.tup [.int i,z]):=zd;generalize upd b q (.tup [.int i,z])=H3 at W o⊢;have a:=n.trans W;obtain⟨t,y,it⟩:=d.get' hz;rw[au]at y;cases F:st.wov[i]? with|none=>rw[F]at y;cases y| some g=>rw[F]at y;cases y;refine⟨q,_,J,aE.of o,J,_,_,J,_,_,J,J,?_⟩;refine⟨a5,_,_,_,J,J,aE.of (a _ _ v),J,hT g,hT h,it.mono a,N.mono a,xU _,xU _,Gz _,_,J,?_⟩;rw[C8];by_cases c:g=h;rw[bj c];refine wf ⟨a,?_⟩;show _=(Xc h st.wov i++if st.wov[i]?=some h then[i]else[]).map _;rw[F,c,if_pos J,ax];rfl;rw[c6 c];refine yi ⟨a,?_⟩;show _=(Xc h st.wov i++if st.wov[i]?=some h then[i]else[]).map _;rw[F,if_neg (λz=>c (Option.some.inj z)),cp]
 rintro C b ⟨n,rfl⟩ l hl;have Z:=Same.new hl (.lst ((Xc h st.wov os.length).map λ(j:Nat)=>V.int j));have u:upd b l (.lst ((Xc h st.wov os.length).map λ(j:Nat)=>V.int j)) l=_:=zd;generalize upd b l (.lst ((Xc h st.wov os.length).map λ(j:Nat)=>V.int (j:Int)))=H5 at Z u⊢;have a:=n.trans Z;have S:p<(Xc h st.wov os.length).length:=by rw[V1,r,cr];exact hp
 have ej:=bo S;obtain⟨e1,e2⟩:=zE ej;refine⟨x,cS,dx,_,_,J,a _ _ h1,G.cls,G.n,K3,a5,_,_,_,J,J,aE.of (a _ _ v),J,l,_,_,_,J,J,aG.of u,y9 (by rw[au,ej];rfl),_,_,J,J,_,J,st.wov.map hT,⟨ao,os,J,a _ _ m,d.mono a⟩,λl2 H6 s6 ap i6=>?_⟩;have ec:Xh (st.wov.map hT) none (some (((Xc h st.wov os.length)[p]:Int)+1))=(st.wov.take ((Xc h st.wov os.length)[p]+1)).map hT:=(C1 (st.wov.map hT) ((Xc h st.wov os.length)[p]+1)).trans (List.map_take ..).symm;rw[ec]at i6;exact k l2 H6 _ (a.trans s6) e1 e2 i6
end
end My
namespace L2
open PySem PySem.Spec PyProof.Rows
noncomputable def sT(xs:List Str):List T:=xs.map T.str
theorem Qe:∀xs:List Str,jk (sT xs)=xs.map PyData.str|[]=>by rfl| n::r=>by show jk (T.str n::sT r)=_;unfold jk;rw[Qe r];rfl
theorem AI:∀xs:List Str,(∀x∈xs,PyData.strOk x=true)->PyData.canLayAll0 (jk (sT xs))=true|[],_=>rfl| n::r,h=>by show PyData.canLayAll0 (jk (T.str n::sT r))=true;unfold jk bO PyData.canLayAll0;rw[AI r λx a=>h x (bq _ a)];simp[PyData.canLay0,h n bp]
theorem BW:∀xs:List Str,PyData.depthAll (jk (sT xs))=0|[]=>rfl| n::r=>by show PyData.depthAll (jk (T.str n::sT r))=0;unfold jk bO PyData.depthAll;rw[BW r];rfl
theorem Ge:∀ns c:List Str,PyData.eqvAll (jk (sT ns)) (jk (sT c))=decide (ns=c):=λns c=>by
 rw[Qe,Qe];induction ns generalizing c with|nil=>cases c<;>rfl| cons a r d=>
   cases c with|nil=>rfl| cons b q=>
     simp only[c4,PyData.eqvAll,PyData.eqv,d q]
     grind
theorem IsL.strs{H:Hp}:∀{ns:List Str}{xs:List V},IsL H (sT ns) xs↔xs=ns.map V.str|[],xs=>Iff.rfl| n::r,xs=>by constructor;rintro⟨v,c,rfl,b,a⟩;rw[IsL.strs.mp a,(b)];rfl;rintro rfl;exact⟨_,_,J,J,IsL.strs.mpr J⟩
theorem Vz(ns:O Str)(h:∀x∈ns,PyData.strOk x=true):(bO (.lst (sT ns))).canLay0=true:=by unfold bO PyData.canLay0;exact AI ns h
theorem BV(ns:O Str):(bO (.lst (sT ns))).depth<=20:=by unfold bO PyData.depth;rw[BW];decide
theorem Ay(ns a:O Str):PyData.eqv (bO (.lst (sT ns))) (bO (.lst (sT a)))=decide (ns=a):=by unfold bO PyData.eqv;exact Ge ns a
end L2
namespace My
open PySem PySem.Spec PyProof.Rows L2
variable{cP cR cU l p:Addr}{base:Heap}{H H0 H1:Hp}{ws:List Addr}{g:List Int}{ys:List V}{i q:Nat}{P:Program}{kd x:Str}{mg:Str->Option Value}{v:V}{w:World}
noncomputable abbrev Ze:Stmt:=aX 89
structure mD(mg:Str->Option Value):Prop where
 MEET:∃t,mg "MOST_MEETERS"=some (.int 16 t)
 PHAS:∃t,mg "MOST_PHASES"=some (.int 4 t)
noncomputable def eU(p:Nat):List Str:=(List.replicate p [("come":Str),"go"]).flatten
noncomputable def Wx(n p:Nat)(h:List Nat):List Str:=match h with|[k]=>if k<n then eU p else[]|_=>[]
noncomputable def pR(hs:aB)(n p:Nat):Bool:=((List.range n).all λk=>decide ([k]∈zh (plan hs))) && (zh (plan hs)).all λh=>decide (k8 ((mM hs).scr h)=Wx n p h)
noncomputable def Yo(hs:aB)(n p:Int):Bool:=(decide (1<=n) && decide (n<=16)) && ((decide (0<=p) && decide (p<=4)) && pR hs n.toNat p.toNat)
theorem LU{L:RL}(h:List Nat):(yq (yw L) (kI (hZ h))).isSome=decide (h∈vp L):=by
 induction L with|nil=>rfl| cons q r a=>
   show(yq ((kI (hZ q.1.1),V.ref q.2)::yw r) _).isSome=decide (h∈q.1.1::vp r);by_cases e:q.1.1=h;rw[xz (by rw[e]),e,bj bp];rfl;rw[xl (λz=>e (qr (aR z))),a]
   grind
noncomputable def Yu(G:List Addr):List (List Int×V):=G.zipIdx.map λq=>([(q.2:Int)],.ref q.1)
theorem LD(b:O Y)(a:Y):Yu (b++[a])=Yu b++[([(b.length:Int)],.ref a)]:=by
 unfold Yu
 grind
theorem Bc:(Yu ws)[i]?=(ws[i]?).map λa=>([(i:Int)],V.ref a):=by
 unfold Yu
 grind
noncomputable def jx(G:List Addr):List (List aJ×V):=(Yu G).map λr=>(kI r.1,r.2)
theorem Kf:(jx ws)[i]?=(ws[i]?).map λa=>(kI (hZ [i]),V.ref a):=by unfold jx;rw[au,Bc];cases ws[i]?<;>rfl
theorem BL(a:O Y):(jx a).length=a.length:=by unfold jx Yu;simp
theorem Bd(d:O Y):((Yu d).map λr=>kI r.1).Nodup:=by
 have e:((Yu d).map λr=>kI r.1)=(List.range d.length).map λi=>kI (hZ [i]):=by
  refine List.ext_getElem? λi=>?_;rw[au,Bc,au];by_cases c:i<d.length;rw[bo c,List.getElem?_range c];rfl
  simp_all
 rw[e];refine List.Pairwise.map _ (λa b f z=>f ?_) List.nodup_range;have q:=qr (aR z)
 simp_all
theorem GC(a:O Y):iX (Yu a) []=jx a:=by rw[sE];rfl;exact Bd a
theorem yX{b:Type}[DecidableEq b]:∀{l:List (b×V)}{i:Nat}{k:b}{v:V},(l.map (·.1)).Nodup->l[i]?=some (k,v)->yq l k=some v|[],i,k,v,_,e=>by cases e|p::r,0,k,v,_,e=>by cases e;exact xz J| p::r,i+1,k,v,c,e=>by have a:=bz.mp c;rw[List.getElem?_cons_succ]at e;rw[xl (λz=>a.1 (by grind))];exact yX a.2 e
theorem HR(b:List Addr)(h:List Nat):yq (jx b) (kI (hZ h))=match h with
  |[k]=>(b[k]?).map V.ref
  |_=>none:=by
 have g:((jx b).map (·.1)).Nodup:=by unfold jx;rw[bn];exact Bd b
 have c:(∀k,h=[k]->b[k]?=none)->yq (jx b) (kI (hZ h))=none:=λhn=>by
  cases e:yq (jx b) (kI (hZ h))with
  |none=>rfl
  | some v=>
    obtain⟨q,l,m⟩:=bu.mp (Wy e);obtain⟨i,f⟩:=List.mem_iff_getElem?.mp l;rw[Kf]at f;cases d:b[i]? with
    |none=>simp_all
    | some a=>
      rw[d]at f;cases f;have:=qr (aR m)
      simp_all
 match h,c with
 | [k],no=>
   show yq (jx b) (kI (hZ [k]))=(b[k]?).map V.ref;cases d:b[k]? with
   |none=>exact no λj e=>by cases e;exact d
   |some a=>exact yX g (by rw[Kf,d];rfl)
 |[],no=>exact no λk e=>by cases e
 |_::_::_,no=>exact no λk e=>by cases e
theorem FN{hs:aB}(W:dR hs)(h:List Nat):∀x∈k8 ((mM hs).scr h),PyData.strOk x=true:=λx f=>by obtain⟨d,j,a⟩:=List.mem_filterMap.mp f;obtain⟨i,g⟩:=List.mem_iff_getElem?.mp j;obtain⟨e,b,c⟩:=Xu g;cases d with| say y=>cases a;exact W.says e b _ c|_=>cases a
theorem Eg(p:Nat):∀x∈eU p,PyData.strOk x=true:=λx b=>by unfold eU at b;obtain⟨l,c,a⟩:=List.mem_flatten.mp b;rw[List.eq_of_mem_replicate c]at a;rcases ag.mp a with e|e;rw[e];decide+kernel;rw[ak.mp e];decide+kernel
theorem C0(p:Nat):(List.replicate p [V.str "come",V.str "go"]).flatten=(eU p).map V.str:=by unfold eU;simp
inductive l0(cP cR:Addr)(vs:List V)(H:Hp)(Q:VK)(e0:XK):Prop|mk:∀(x:Addr)(hs:aB)(L:RL)(n p:Int),vs=[.ref x,.int n,.int p]->aM H cP cR hs L x->dR hs->Yo hs n p=true->(∀H',Same H H'->Q (.bl true) H')->l0 cP cR vs H Q e0
section
variable{K:W.Frag}
theorem Kn:aA ["plan","n","p","wanted"] ["plan","n","p"] (zf Ze):=.of
theorem KO(D:bG K mg "is_made" Ze)(T:Txt K mg)(TM:mD mg)(CP:aH K cP aZ)(CR:aH K cR aT)(oW:Ok P w K mg base "is_within" 2 ["thing","least","most"] (spT mC))(oS:Ok P w K mg base "said_in" 1 ["deeds"] jK):Ok P w K mg base "is_made" 3 ["plan","n","p"] (l0 cP cR):=by
 refine wa (k:=2) D Kn ?_;rintro f cv A bJ s H vs Q E hr ⟨x,m,L,n,p,rfl,PA,PH,im,k⟩ X;have hu:=ji hr;have bL:=sy hr;have nd:=Kn.nd;refine⟨_,zb (ye (PW.pt (Xz (xt (y7 (yc oW hr (za (pv 1) (za ze (za (y8 TM.MEET) zc)))))) (Z1 (xt (y7 (yc oW hr (za (pv 2) (za ze (za (y8 TM.PHAS) zc))))))))) (zg (zk jy)) zn) (zb (zo (i:=3) nd (yx (BR J bL) J T.dict Ka (za (qc (own:=["number"]) (cap:=[2]) J (yt (zf Ze) J J (by decide+kernel) (by decide+kernel) (by decide+kernel) ⟨⟨_,J,.inl J,v8 J⟩,trivial⟩) (ww J T.range (za (pv 1) zc)) (λ_ _ _ _=>zp (i:=0) (by show(["number","p"]:List Str).Nodup;decide+kernel)) (λ_ _ _ _=>xu) (λ_ _ _ _=>xi (za (xi (za (pv 0) zc)) (za (ya yC (w9 (za zi (za zi zc))) (pv 1)) zc)))) zc)))
  (zb (ye (xt (y7 (qD (yf (kx J) J T.all Xk (za (qc (own:=["hand"]) (cap:=[0]) J (yt (zf Ze) J J (by decide+kernel) (by decide+kernel) (by decide+kernel) ⟨⟨_,J,.inl J,v8 J⟩,trivial⟩) (AS (pv 3)) (λ_ _ _ _=>zp (i:=0) (by show(["hand","plan"]:List Str).Nodup;decide+kernel)) (λ_ _ _ _=>xu) (λ_ _ _ _=>tz (t:=vY (jA 0) (mL K (jA 1) "roles")) (EQ hu (pv 0) (zx (pv 1) J)))) zc))))) (zg (zk jy)) zn)
  (zg (zk (qD (yf (kx J) J T.all Xk (za (qc (own:=["hand","role"]) (cap:=[3]) (g:=eT K 2 (bR (js 0) (bR (js 1) lr))) J (yt (zf Ze) J J (by decide+kernel) (by decide+kernel) (by decide+kernel) ⟨⟨_,J,.inl J,v8 J⟩,trivial⟩) (Y2 (zx (pv 0) J)) (λ_ _ _ _=>j2 J (yv (zp (i:=0) (by show(["hand","role","wanted"]:List Str).Nodup;decide+kernel)) (yv (zp (i:=1) (by show(["hand","role","wanted"]:List Str).Nodup;decide+kernel)) qv)))
   (λ_ _ _ _=>xu) (λ_ _ _ _=>qa (zP (by exact hr.units)) (ta:=se jK [] E0 (nR (mL K (jA 1) "script") kE)) (yc oS (hr.mono (by decide)) (za (zx (pv 1) J) zc)) (Vu hu (pv 2) (pv 0) (w9 zc) ⟨J,J,J,J⟩) (zu _))) zc))))))),?_⟩
 obtain⟨dp,vh,W,hp,ih,S,ay,bM⟩:=id PA;unfold Yo at im;simp only[cg,decide_eq_true_eq]at im;obtain⟨c1,c2,im⟩:=im;refine⟨⟨n,1,16,J,c1.1,c1.2⟩,λH1 s1=>⟨_,J,yi ⟨⟨p,0,4,J,c2.1,c2.2⟩,λH2 s2=>⟨_,J,yi ?_⟩⟩⟩⟩;have bh:=s1.trans s2;have k:∀r,Same H r->Q (.bl (pR m n.toNat p.toNat)) r:=λr s'=>by rw[im];exact k r s'
 refine⟨n,J,(by omega),(by omega),?_⟩;refine jq (n:=n.toNat) (λi C r=>Same H2 r/\∃bs j:List Addr,C=bs.map V.ref/\j.length=i/\Paired (dP r) bs (Yu j)/\∀a∈j,r a=some (.lst ((eU p.toNat).map V.str))) ⟨Same.refl _,[],[],J,J,.nil,λa ha=>nomatch ha⟩ (λi C r hi ⟨_,bs,j,e,el,b3,_⟩=>?_) ?_ ?_;have q:=Paired.length b3;rw[e,aa,q];unfold Yu;rw[aa,List.length_zipIdx,el];exact Nat.le_of_lt (xy (by omega));rintro i C H3 hi ⟨s3,bs,j,rfl,el,ah,af⟩;refine V3 ?_;refine⟨bF,λkb H4 s4 co ca=>⟨bF,λl5 H5 s5 bb b6=>⟨l5,p,_,J,J,b6,(by omega),(by omega),(by show 2*p.toNat<=sizeLine;exact Nat.le_of_lt (xy (by omega))),λa6 h6=>⟨bF,λb7 H7 s7 b5 v=>?_⟩⟩⟩⟩;rw[C0]at s7 b5;have Z:=Same.new h6 (.lst ((eU p.toNat).map V.str));have a5:=((s4.trans s5).trans Z).trans s7;have cb:H7 a6=some (.lst ((eU p.toNat).map V.str)):=s7 _ _ zd;refine⟨s3.trans a5,bs++[b7],j++[a6],by rw[ax];rfl,by rw[cj,el];rfl,?_,λa ha=>?_⟩;rw[LD];refine Paired.snoc (Vo ah a5) ⟨kb,v,?_⟩;have q:=s7 _ _ (Z _ _ (s5 _ _ ca));rw[q,el];show some (HO.tup [V.int (0+(i:Int))])=some (.tup [V.int (i:Int)]);rw[dy];rcases ce.mp ha with z|z;exact a5 _ _ (af a z);rw[ak.mp z];exact cb;rintro C H3 ⟨s3,bs,j,rfl,el,ah,af⟩ l hl;have sl:=Same.new hl (.lst (bs.map V.ref));refine⟨l,bs,_,J,zd,Vo ah sl,λd H5 s5 bb av=>?_⟩;rw[GC]at av;have bg:=(s3.trans sl).trans s5;have a3:∀a∈j,H5 a=some (.lst ((eU p.toNat).map V.str)):=λa ha=>s5 _ _ (sl _ _ (af a ha));have bk:=bh.trans bg;have Hd:H d=none:=xa (bh.trans (s3.trans sl)) bb;clear ah af s5 sl bg bb;refine⟨d,_,av,trivial,λo=>?_⟩;have ap:upd H5 d (.frz o (.dT (jx j))) d=_:=zd;have sf:Same H (upd H5 d (.frz o (.dT (jx j)))):=λb u e=>by rw[upd_ne (zj e Hd)];exact bk b u e
 have U:∀{G:Hp},Same (upd H5 d (.frz o (.dT (jx j)))) G->Same H5 (upd G d (.dT (jx j))):=λ{G} s b u e=>by by_cases z:b=d;rw[z]at e⊢;rw[zd,<-e,av];rw[upd_ne z];exact s _ _ (by rw[upd_ne z];exact e)
 generalize upd H5 d (.frz o (.dT (jx j)))=Hf at ap sf U⊢;refine⟨d,o,_,J,ap,?_⟩;refine GY (kvs:=jx j) (λi C r=>Same Hf r/\C=(List.range i).map λk=>V.bl (decide ([k]∈zh (plan m)))) ⟨Same.refl _,J⟩ (λi C r hi ⟨Z,e⟩=>⟨Z _ _ ap,by rw[e,aa,da];rw[BL]at hi;exact Nat.le_of_lt (xy (by omega))⟩) ?_ ?_
 . rintro i kv C H6 b g hb ⟨Z,rfl⟩;rw[Kf]at g;cases ea:j[i]? with|none=>rw[ea]at g;cases g|some aw=>rw[ea]at g;cases g;have bi:=sf.trans Z;refine V3 ?_;refine⟨x,cP,dp,_,_,J,bi _ _ hp,CP.cls,CP.n,vi,W,_,J,DGet.t (bi _ _ S) hb,Z,?_⟩;rw[LU,Zf ay,List.range_succ,ax];rfl
 rintro C H6 ⟨Z,rfl⟩ l2 b9;rw[BL,el];have s7:=Same.new b9 (.lst ((List.range n.toNat).map λk=>V.bl (decide ([k]∈zh (plan m)))));refine⟨l2,(List.range n.toNat).map λk=>decide ([k]∈zh (plan m)),J,aG.of (by rw[zd,bn];rfl),(Z.trans s7) _ _ ap,_,J,?_⟩;have v:=U (Z.trans s7);generalize upd (upd H6 l2 (.lst ((List.range n.toNat).map λk=>V.bl (decide ([k]∈zh (plan m)))))) d (.dT (jx j))=H8 at v⊢;have e8:(((List.range n.toNat).map λk=>decide ([k]∈zh (plan m))).all id)=(List.range n.toNat).all λk=>decide ([k]∈zh (plan m)):=by rw[List.all_map];rfl
 rw[e8];have N:=bk.trans v;unfold pR at k;cases c3:(List.range n.toNat).all λk=>decide ([k]∈zh (plan m))with|false=>rw[c3]at k;exact wf (k H8 N)|true=>
 rw[c3,Bool.true_and]at k;refine yi ?_;have M:=N _ _ S;refine⟨W,_,M,trivial,λo2=>?_⟩;have F:upd H8 W (.frz o2 (.dT (yw L))) W=some (.frz o2 (.dT (yw L))):=zd;have k1:∀{b:Addr}{u:HO},b≠W->H8 b=some u->upd H8 W (.frz o2 (.dT (yw L))) b=some u:=λ{b u} z e=>by rw[upd_ne z];exact e
 have iO:∀{G:Hp},Same (upd H8 W (.frz o2 (.dT (yw L)))) G->Same H8 (upd G W (.dT (yw L))):=λ{G} s b u e=>by by_cases z:b=W;rw[z]at e⊢;rw[zd,<-e,M];rw[upd_ne z];exact s _ _ (k1 z e)
 generalize upd H8 W (.frz o2 (.dT (yw L)))=Hg at F k1 iO⊢;have b2:=k1 (λz=>by rw[z,S]at hp;cases hp) (N _ _ hp);have bD:=k1 (λz=>by rw[z,S]at Hd;cases Hd) (v _ _ av);have tg:yu H8 Hg:=λc zs e=>k1 (λz=>by rw[z,M]at e;cases e) e;have bK:∀a∈j,Hg a=some (.lst ((eU p.toNat).map V.str)):=λa ha=>k1 (λz=>by rw[z]at ha;have q:=v _ _ (a3 _ ha);rw[M]at q;cases q) (v _ _ (a3 a ha));have cn:L.length<=1000:=by have q:=PH.few;have e:=congrArg List.length ay;rw[aa]at e;show _;rw[e];exact q
 refine⟨x,cP,dp,_,_,J,b2,CP.cls,CP.n,vi,W,o2,_,J,F,?_⟩;refine uC (kvs:=yw L) (λi C r=>Same Hg r/\C=(vp (L.take i)).map λh=>V.bl (decide (k8 ((mM m).scr h)=Wx n.toNat p.toNat h))) ⟨Same.refl _,J⟩ (λi C r hi ⟨s9,e⟩=>⟨s9 _ _ F,?_⟩) ?_ ?_;rw[e,aa];unfold vp;rw[aa,d5];exact Nat.le_of_lt (xy (by omega));rintro i kv C r g ⟨s9,rfl⟩ pp b b1 hb;obtain⟨q,hq,rfl⟩:∃q,L[i]?=some q/\(kI (hZ q.1.1),V.ref q.2)=kv:=by unfold yw at g;rw[au]at g;cases e:L[i]? with|none=>rw[e]at g;cases g|some z=>rw[e]at g;exact⟨z,J,Option.some.inj g⟩
 have bw:q∈L:=bv hq;obtain⟨ck,vc,vs,ab,an,ac,r1,r2,_⟩:=bM q bw;have bN:=s9 _ _ (k1 (λz=>by rw[z,S]at r1;cases r1) (N _ _ r1));have sp:=Same.new b1 (.tup [.ref b,.ref q.2]);have bx:upd r pp (.tup [.ref b,.ref q.2]) pp=some (.tup [.ref b,.ref q.2]):=zd;have bE:=sp _ _ hb;generalize upd r pp (.tup [.ref b,.ref q.2])=c0 at sp bx bE⊢;have a8:=s9.trans sp;have bl:=((r2.mono N).tups tg (Wo _)).mono a8;have b0:q.1∈plan m:=by rw[<-ay];exact List.mem_map_of_mem (f:=λz:(List Nat×Nat)×Addr=>z.1) bw
 rw[<-tj b0]at bl;have ek:vp (L.take (i+1))=vp (L.take i)++[q.1.1]:=by unfold vp;rw[cq,hq,ax];rfl
 rw[ek,ax];refine⟨pp,_,J,aE.of bx,J,_,_,J,_,_,J,J,?_⟩;refine uJ ?_;refine⟨q.2,cR,ck,_,_,J,sp _ _ bN,CR.cls,CR.n,qd,vs,(mM m).scr q.1.1,J,bl,Ap PH.nw _,λl3 de a7 cl bB=>?_⟩;refine⟨d,J,.inr ⟨_,.inl ((a8.trans a7) _ _ bD)⟩,be _,λaK aS R b4 bC=>?_⟩;have t:=(a8.trans a7).trans R;refine⟨_,DGet.t (t _ _ bD) (R _ _ (a7 _ _ bE)),?_⟩;rw[HR];have iL:Is aS (.lst (sT (k8 ((mM m).scr q.1.1)))) (.ref l3):=⟨l3,_,J,R _ _ bB,IsL.strs.mpr J⟩
 obtain⟨vw,cc,iw⟩:∃vw,((match q.1.1 with|[k]=>(j[k]?).map V.ref|_=>none:Option V).getD (.ref aK))=vw/\Is aS (.lst (sT (Wx n.toNat p.toNat q.1.1))) vw:=by
  have bc:Is aS (.lst (sT [])) (.ref aK):=⟨aK,_,J,bC,J⟩
  generalize q.1.1=ba
  match ba with| [kk]=>refine⟨_,J,?_⟩;show Is aS (.lst (sT (if kk<n.toNat then eU p.toNat else[]))) (((j[kk]?).map V.ref).getD (.ref aK));by_cases c:kk<n.toNat;rw[if_pos c];have ea:=bo (show kk<j.length by omega);rw[ea];exact⟨j[kk],_,J,t _ _ (bK _ (List.getElem_mem _)),IsL.strs.mpr J⟩;rw[if_neg c,f8 (by omega)];exact bc|[]=>exact⟨_,J,bc⟩|_::_::_=>exact⟨_,J,bc⟩
 rw [cc];have bI:∀y∈Wx n.toNat p.toNat q.1.1,PyData.strOk y=true:=by
  generalize q.1.1=ba
  match ba with| [kk]=>show∀y∈(if kk<n.toNat then eU p.toNat else[]),_;by_cases c:kk<n.toNat;rw[if_pos c];exact Eg _;rw[if_neg c];exact λy hy=>nomatch hy|[]=>exact λy hy=>nomatch hy|_::_::_=>exact λy hy=>nomatch hy
 refine⟨_,_,iL,iw,Vz _ (FN PH _),Vz _ bI,BV _,t,?_⟩;rw[Ay];rfl;rintro C r ⟨s9,rfl⟩ l3 b8;have e0:(yw L).length=L.length:=by unfold yw;exact aa ..
 rw[e0,cr,Zf ay];have bd:=Same.new b8 (.lst ((zh (plan m)).map λh=>V.bl (decide (k8 ((mM m).scr h)=Wx n.toNat p.toNat h))));refine⟨l3,(zh (plan m)).map λh=>decide (k8 ((mM m).scr h)=Wx n.toNat p.toNat h),J,aG.of (by rw[zd,bn];rfl),bd _ _ (s9 _ _ F),?_⟩;have e:(((zh (plan m)).map λh=>decide (k8 ((mM m).scr h)=Wx n.toNat p.toNat h)).all id)=(zh (plan m)).all λh=>decide (k8 ((mM m).scr h)=Wx n.toNat p.toNat h):=by rw[List.all_map];rfl
 rw[e];exact k _ (N.trans (iO (s9.trans bd)))
end
noncomputable abbrev Ye:Stmt:=aX 48
noncomputable abbrev Qi:Stmt:=aX 69
noncomputable abbrev Yx:Stmt:=aX 90
noncomputable abbrev Xm:Stmt:=aX 91
noncomputable abbrev Ve:Stmt:=aX 92
noncomputable abbrev Qn:Stmt:=aX 93
noncomputable abbrev tX:Stmt:=aX 94
structure dA(hs:aB):Prop where
 fl:pz hs
 pl:dR hs
inductive lV(vs:List V)(H:Hp)(Q:VK)(e0:XK):Prop|mk:∀hs v,vs=[v]->Is H (eH hs) v->dA hs->(∀H',Same H H'->Q .non H')->lV vs H Q e0
inductive hE(cP cR:Addr)(vs:List V)(H:Hp)(Q:VK)(e0:XK):Prop|mk:∀hs v,vs=[v]->Is H (eH hs) v->dA hs->(∀x L H',Same H H'->H x=none->aM H' cP cR hs L x->Q (.ref x) H')->hE cP cR vs H Q e0
inductive l7(cP cR:Addr)(vs:List V)(H:Hp)(Q:VK)(e0:XK):Prop|mk:∀hs (v:V) (n p:Int),vs=[v,.int n,.int p]->Is H (eH hs) v->dA hs->Yo hs n p=true->(∀x L H',Same H H'->H x=none->aM H' cP cR hs L x->Q (.ref x) H')->l7 cP cR vs H Q e0
section
variable{K:W.Frag}
theorem Mx:aA ["thing"] ["thing"] (zf Ye):=.of
theorem Mv(D:bG K mg "need_house" Ye)(c:Ok P w K mg base "is_house" 22 ["thing"] (spT jX)):Ok P w K mg base "need_house" 23 ["thing"] lV:=by refine wa D Mx ?_;rintro f j A a s H m Q E g ⟨h,v,rfl,e,i,d⟩ X;refine⟨_,zg (ye (xt (y7 (yc c g (za (pv 0) zc)))) (zg xn) zn),?_⟩;exact⟨⟨h,v,J,e,i.fl⟩,λl b=>⟨_,J,yi (d l b)⟩⟩
theorem Ll:aA ["house"] ["house"] (zf Qi):=.of
theorem KQ(D:bG K mg "plan_of" Qi)(r:Ok P w K mg base "need_house" 23 ["thing"] lV)(q:eX P w K mg base "Plan" cP 24 ["self","house"] (lT cP cR)):Ok P w K mg base "plan_of" 26 ["house"] (hE cP cR):=by
 refine wa D Ll ?_;rintro f z A d s H G Q E m ⟨l,v,rfl,j,n,t⟩ X;refine⟨_,zb (wo (yc r (m.mono (by decide)) (za (pv 0) zc))) (zg (zk (mW q m (za (pv 0) zc)))),?_⟩;refine⟨l,v,J,j,n,λp a=>?_⟩;refine(λx h c g u=>?_);have i:Same p (upd (upd p h (.own x)) x (.ins cP h [])):=λb o e=>by rw[upd_ne (zj e c),upd_ne (zj e g)];exact e
 refine⟨x,h,v,l,J,zd,(j.mono a).mono i,n.pl,λL F C PA=>⟨J,t x L F (λb o e=>?_) (xa a c) PA⟩⟩;refine C b o (λy=>?_) (i _ _ (a _ _ e));rw[ak.mp y]at e;rw[a _ _ e]at c;cases c
theorem Va:aA ["house","n","p","plan"] ["house","n","p"] (zf Yx):=.of
theorem Mc(D:bG K mg "made_plan" Yx)(i:Ok P w K mg base "plan_of" 26 ["house"] (hE cP cR))(h:Ok P w K mg base "is_made" 3 ["plan","n","p"] (l0 cP cR)):Ok P w K mg base "made_plan" 27 ["house","n","p"] (l7 cP cR):=by refine wa D Va ?_;rintro f r A a s H u Q E d ⟨c,v,n,p,rfl,q,e,m,l⟩ X;have j:=Va.nd;refine⟨_,zb (zo (i:=3) j (yc i d (za (pv 0) zc))) (zb (ye (xt (y7 (yc h (d.mono (by decide)) (za (pv 3) (za (pv 1) (za (pv 2) zc)))))) (zg xn) zn) (zg (zk (pv 3)))),?_⟩;refine⟨c,v,J,q,e,λx L y g o PA=>?_⟩;exact⟨x,c,L,n,p,J,PA,e.pl,m,λt b=>⟨_,J,yi (l x L t (g.trans b) o (PA.same b))⟩⟩
end
noncomputable def iZ(N o q:Nat):List (List Int):=((List.range N).filter λi=>decide (i≠o)).map λ(i:Nat)=>[(i:Int),(o:Int),(q:Int)]
noncomputable def Q9(N q o:Nat):List (List Int):=(List.range o).flatMap λo=>iZ N o q
noncomputable def Xw(N P:Nat):List (List Int):=(List.range P).flatMap λq=>Q9 N q N
theorem Q3{a:Type}(f:Nat->O a)(n:Nat):(List.range (n+1)).flatMap f=(List.range n).flatMap f++f n:=by rw[List.range_succ,List.flatMap_append];simp
theorem uy{a:Type}(f:Nat->List a)(c:Nat)(h:∀x,(f x).length<=c):∀n,((List.range n).flatMap f).length<=n*c|0=>be _| n+1=>by rw[Q3,cj,Nat.succ_mul];exact Nat.add_le_add (uy f c h n) (h n)
theorem Kh(N o q:Nat):(iZ N o q).length<=N:=by
 unfold iZ
 grind
theorem BH(N q o:Nat):(Q9 N q o).length<=o*N:=uy _ N (λo=>Kh N o q) o
theorem A8(N P:Nat):(Xw N P).length<=P*(N*N):=uy _ (N*N) (λq=>BH N q N) P
inductive lF(vs:List V)(H:Hp)(Q:VK)(e0:XK):Prop|mk:∀(N P:Nat),vs=[.int (N:Int),.int (P:Int)]->N<=16->P<=4->(∀l H',Same H H'->H l=none->Is H' (.lst ((Xw N P).map tI)) (.ref l)->Q (.ref l) H')->lF vs H Q e0
section
variable{K:W.Frag}
theorem Kk:aA ["n","p","found","phase","other"] ["n","p"] (zf Xm):=.of
theorem Lv(D:bG K mg "triples" Xm)(T:Txt K mg):Ok P w K mg base "triples" 1 ["n","p"] lF:=by
 refine wa (k:=0) D Kk ?_;rintro f aS A af s H vs Q E hr ⟨N,P',rfl,hN,hP,k⟩ X;have nd:=Kk.nd;refine⟨_,zb (zo (i:=2) nd (w9 zc)) (zb (wy PassesOwn.never J (ww J T.range (za (pv 1) zc)) (zp (i:=3) nd) (zg (wy PassesOwn.never J (ww J T.range (za (pv 0) zc)) (zp (i:=4) nd) (zg (wo (ja PySem.F.plainAttrs_list PySem.F.slot_list_extend PySem.F.type_list_extend Xq (pv 2) (za (qc (own:=["number"]) (cap:=[4,3]) J (yt (zf Xm) J J (by decide+kernel) (by decide+kernel) (by decide+kernel) ⟨⟨_,J,.inl J,v8 J⟩,⟨_,J,.inl J,v8 J⟩,trivial⟩) (ww J T.range (za (pv 0) zc)) (λ_ _ _ _=>zp (i:=0) (by show(["number","other","phase"]:O Str).Nodup;decide+kernel)) (λ_ _ _ _=>jp (zm X1 (pv 0) (pv 1) (zu _))) (λ_ _ _ _=>xi (za (pv 0) (za (pv 1) (za (pv 2) zc))))) zc)))))))
  (zg (zk (pv 2)))),?_⟩
 refine⟨be _,λl H1 s1 R av=>?_⟩;have ap:∀{G:Hp},Same (without [l] H1) G->Same H G:=λ{G} s b u e=>s _ _ (by rw[yj (λhm=>by rw[ak.mp hm,R]at e;cases e)];exact s1 _ _ e);refine⟨P',J,(by omega),(by omega),?_⟩;refine Xs (λi r G=>∃Z F n,r=[some (.int (N:Int)),some (.int (P':Int)),some (.ref l),Z,F]/\Same (without [l] H1) G/\G l=some (.lst n)/\IsL G ((Xw N i).map tI) n) ⟨none,none,[],J,xq,av,J⟩ ?_ ?_;rintro i r G hi ⟨Z,F,n,rfl,sG,y,iG⟩;rw[(dy _)];refine⟨N,J,(by omega),(by omega),?_⟩;refine Xs (λj r G=>∃F n,r=[some (.int (N:Int)),some (.int (P':Int)),some (.ref l),some (.int (i:Int)),F]/\Same (without [l] H1) G/\G l=some (.lst n)/\IsL G ((Xw N i++Q9 N i j).map tI) n) ⟨F,n,J,sG,y,by rw[show Q9 N i 0=[]from rfl,cp];exact iG⟩ ?_ ?_;rintro j r G2 hj ⟨W,h,rfl,v,a,p⟩;rw[(dy _)];refine⟨.inl ⟨J,_,aG.of a⟩,?_⟩;have aK:i<4:=by omega
 have ay:j<N:=by omega
 refine⟨N,J,(by omega),(by omega),?_⟩;refine jq (λm g C=>Same G2 C/\IsL C ((iZ m j i).map tI) g) ⟨Same.refl _,J⟩ (λm g C hm ⟨_,x⟩=>?_) ?_ ?_;have q:=x.length;rw[aa]at q;have q2:=Kh m j i;exact Nat.le_of_lt (xy (by omega));rintro m g C hm ⟨U,x⟩;rw[(dy _)];have er:iZ (m+1) j i=iZ m j i++if m≠j then[[(m:Int),(j:Int),(i:Int)]]else[]:=by unfold iZ;rw[List.range_succ,List.filter_append,ax,List.filter_cons];by_cases c:m=j;rw[if_neg (by simp[c]),if_neg (by simp[c])];rfl;rw[if_pos (by simp[c]),if_pos c];rfl
 rw[er];refine⟨J,_,J,?_⟩;by_cases c:m=j;have e:(!decide (V.int (m:Int)=V.int (j:Int)))=false:=by rw[c];simp
 rw[e];refine yi ?_;rw[if_neg (by simp[c]),cp];exact⟨U,x⟩;have e:(!decide (V.int (m:Int)=V.int (j:Int)))=true:=by rw[c6 (λz=>c (by have:=V.int.inj z;omega))];rfl
 rw[e,if_pos c,ax];refine wf ⟨bF,λt G4 L aw ah=>⟨U.trans L,IsL.append (x.mono L) (IsL.one ⟨t,_,J,ah,IsL.ints.mpr J⟩)⟩⟩;rintro g C ⟨U,x⟩ z hz;have L:=Same.new hz (.lst g);have M:upd C z (.lst g) z=some (.lst g):=zd;generalize upd C z (.lst g)=G4 at L M⊢;have o:=U.trans L;have l1:=p.length;have l2:=x.length;rw[aa,cj]at l1;rw[aa]at l2;have b1:=A8 N i;have b2:=BH N i j;have b3:=Kh (N:Int).toNat j i;have c1:i*(N*N)<=4*(16*16):=Nat.mul_le_mul (by omega) (Nat.mul_le_mul hN hN);have c2:j*N<=16*16:=Nat.mul_le_mul (by omega) hN;refine⟨l,z,h,g,J,J,o _ _ a,M,Nat.le_of_lt (Zi (by omega)),_,_,J,qy (v.trans o) (yk (by simp)),zd,?_⟩;have e:Q9 N i (j+1)=Q9 N i j++iZ N j i:=Q3 _ j;rw[e,<-List.append_assoc,ax];have S:∀gs:O (O Int),qt (gs.map tI):=λgs=>by rw[qt.all];intro t ht;obtain⟨d,_,rfl⟩:=bu.mp ht;exact ju _
 have tt:yu G4 (upd G4 l (.lst (h++g))):=yu.upd (o _ _ a) (λ_ z=>by cases z);exact IsL.append ((p.mono o).tups tt (S _)) ((x.mono L).tups tt (S _));rintro r G2 ⟨W,h,rfl,v,a,p⟩;refine⟨_,_,h,J,v,a,?_⟩;have e:Xw N (i+1)=Xw N i++Q9 N i N:=Q3 _ i;rw[e];exact p;rintro r G ⟨Z,F,n,rfl,sG,y,iG⟩;exact(k l G (ap sG) R ⟨l,n,J,y,iG⟩)
end
noncomputable def v9(x:Str):aI->Bool|.say y=>decide (y=x)|_=>false
noncomputable def Xd(x:Str)(l:yz):Nat->List Nat|0=>[]|i+1=>Xd x l i++if((l[i]?).map (v9 x)).getD false=true then[i]else[]
theorem V2(x:Str)(l:yz):∀i,(Xd x l i).length=(l.take i).countP (v9 x)
 |0=>rfl
 | i+1=>by
   show(Xd x l i++if((l[i]?).map (v9 x)).getD false=true then[i]else[]).length=_;rw[cj,V2 x l i,cq,List.countP_append]
   grind
theorem zD{x:Str}{l:yz}:∀{i p j:Nat},(Xd x l i)[p]?=some j->l[j]?=some (.say x)/\(l.take j).countP (v9 x)=p/\j<i
 |0,p,j,e=>by cases e
 | i +1,p,j,e=>by
   have a:(Xd x l i++if((l[i]?).map (v9 x)).getD false=true then[i]else[])[p]?=some j:=e;by_cases c:p<(Xd x l i).length;rw[List.getElem?_append_left c]at a;obtain⟨m,h,g⟩:=zD a
   grind
   rw[List.getElem?_append_right (by omega)]at a;by_cases z:((l[i]?).map (v9 x)).getD false=true;rw[if_pos z]at a;have q:=(ci.mp a).1;have b:p-(Xd x l i).length=0:=by simp_all
   rw[b]at a;cases a;refine⟨?_,?_,fg _⟩;cases f:l[i]? with
   |none=>simp_all
   | some d=>
     rw[f]at z;cases d with
     |say y=>rw[cm z]
     |_=>cases z
   rw[<-V2];omega
   simp_all
noncomputable def pQ(x:Str):L2.T:=.tup [.str "say",.str x]
theorem Ga(x:Str)(d:aI):PyData.eqv (bO (eD d)) (bO (pQ x))=v9 x d:=by cases d with| say y=>show PyData.eqv (.tuple [.str "say",.str y]) (.tuple [.str "say",.str x])=decide (y=x);simp[PyData.eqv,PyData.eqvAll];rfl| beg j a=>rfl| rai b k=>rfl| awa b k=>rfl| com b=>rfl| goo b=>rfl| lea b=>rfl| wor b=>rfl
theorem zK{y:Str}(b:PyData.strOk x=true)(a:PyData.strOk y=true):(PyData.tuple [.str x,.str y]).canLay0=true:=by simp[PyData.canLay0,PyData.canLayAll0,b,a]
theorem D7{i:Int}(a:PyData.strOk x=true):(PyData.tuple [.str x,.int i]).canLay0=true:=by simp[PyData.canLay0,PyData.canLayAll0,a]
theorem xT{i j:Int}(a:PyData.strOk x=true):(PyData.tuple [.str x,.int i,.int j]).canLay0=true:=by simp[PyData.canLay0,PyData.canLayAll0,a]
theorem D6{d:aI}(h:gy d)(hs:∀x,d=.say x->PyData.strOk x=true):(bO (eD d)).canLay0=true:=by cases d with|say y=>exact zK (by decide+kernel) (hs y J)|rai b k=>exact xT (by decide+kernel)|awa b k=>exact xT (by decide+kernel)|wor b=>exact D7 (by decide+kernel)|com b=>exact h.elim|goo b=>exact h.elim|lea b=>exact h.elim|beg j a=>exact h.elim
theorem FG(a:PyData.strOk x=true):(bO (pQ x)).canLay0=true:=zK (by decide+kernel) a
theorem Ib(x:Str):(bO (pQ x)).depth<=20:=by show(PyData.tuple [.str "say",.str x]).depth<=20;simp[PyData.depth,PyData.depthAll]
inductive jJ(cP cR:Addr)(vs:List V)(H:Hp)(Q:VK)(e0:XK):Prop|mk:∀(x:Addr)(hs:aB)(L:RL)(k q:Nat)(wd:Str),vs=[.ref x,.int (k:Int),.str wd,.int (q:Int)]->aM H cP cR hs L x->dR hs->[k]∈zh (plan hs)->PyData.strOk wd=true->q<((mM hs).scr [k]).countP (v9 wd)->(∀v H' (j:Nat),Same H H'->((mM hs).scr [k])[j]?=some (.say wd)->(((mM hs).scr [k]).take j).countP (v9 wd)=q->Is H' (.tup [hT [k],.int (j:Int)]) v->Q v H')->jJ cP cR vs H Q e0
inductive hU(wd:Str)(f:Nat->Nat->Nat->Nat)(cP cR:Addr)(vs:List V)(H:Hp)(Q:VK)(e0:XK):Prop|mk:∀(x:Addr)(hs:aB)(L:RL)(i o q:Nat)(vt:V),vs=[.ref x,vt]->aM H cP cR hs L x->dR hs->Is H (tI [(i:Int),(o:Int),(q:Int)]) vt->[f i o q]∈zh (plan hs)->q<((mM hs).scr [f i o q]).countP (v9 wd)->(∀v H' (j:Nat),Same H H'->((mM hs).scr [f i o q])[j]?=some (.say wd)->(((mM hs).scr [f i o q]).take j).countP (v9 wd)=q->Is H' (.tup [hT [f i o q],.int (j:Int)]) v->Q v H')->hU wd f cP cR vs H Q e0
section
variable{K:W.Frag}
theorem BE:aA ["plan","number","word","phase","script","places"] ["plan","number","word","phase"] (zf Ve):=.of
theorem JN(D:bG K mg "say_of" Ve)(T:Txt K mg)(CP:aH K cP aZ)(CR:aH K cR aT):Ok P w K mg base "say_of" 1 ["plan","number","word","phase"] (jJ cP cR):=by
 refine wa (k:=0) D BE ?_;rintro f bc A af s H vs Q E hr ⟨x,b,L,k,q,a,rfl,PA,PH,hh,ah,hq,kk⟩ X;have nd:=BE.nd;have hu:=ji hr;refine⟨_,zb (zo (i:=4) nd (zx (wg hu (zx (pv 0) J) (xi (za (pv 1) zc))) J)) (zb (Vn (i:=5) (own:=["place","deed"]) (cap:=[2]) (g:=eT K 2 (bR (js 0) (bR (js 1) lr))) J (yt (zf Ve) J J (by decide+kernel) (by decide+kernel) (by decide+kernel) ⟨⟨_,J,.inl J,v8 J⟩,trivial⟩)
   (Jv J T.enumerate (za (pv 4) zc))
   (λ_ _ _ _=>j2 J (yv (zp (i:=0) (by show(["place","deed","word"]:List Str).Nodup;decide+kernel)) (yv (zp (i:=1) (by show(["place","deed","word"]:List Str).Nodup;decide+kernel)) qv)))
   (λ_ _ _ _=>jp (zm (Hu (by exact hr.units)) (pv 1) (xi (za zi (za (pv 2) zc))) (zu _)))
   (λ_ _ _ _=>pv 0) nd J J (by with_unfolding_all rfl))
  (zg (zk (xi (za (xi (za (pv 1) zc)) (za (zr y4 (pv 5) (pv 3)) zc)))))),?_⟩
 obtain⟨dp,vv,ar,rl,hp,a7,u,a8,vc,vs,ab,an,ac,r1,r2,_⟩:=PA.role hh;refine⟨x,cP,dp,_,_,J,hp,CP.cls,CP.n,vi,bF,λr H1 s1 bb a5=>?_⟩;have i1:Is H1 (tI (hZ [k])) (.ref r):=⟨r,_,J,a5,IsL.ints.mpr J⟩
 obtain⟨bh,eb,a6⟩:=kz i1;cases eb;refine⟨ar,_,J,u▸DGet.t (s1 _ _ a7) a6,rl,cR,a8,_,_,J,s1 _ _ r1,CR.cls,CR.n,qd,?_⟩;obtain⟨aS,h,rfl,N,F⟩:=r2.mono s1;have R:=F.length;rw[aa]at R;have sl:=Ap PH.nw [k];refine⟨aS,h,J,aE.of N,?_⟩;refine FI (xs:=h) (λi W g=>Same H1 g/\W=(Xd a ((mM b).scr [k]) i).map λ(j:Nat)=>V.int (j:Int)) ⟨Same.refl _,J⟩ (λi W g hi ⟨p,e⟩=>⟨aE.of (p _ _ N),?_⟩) ?_ ?_;rw[e,aa,V2];have q1:=List.countP_le_length (p:=v9 a) (l:=((mM b).scr [k]).take i);have q2:=List.length_take_le' i ((mM b).scr [k]);exact Nat.le_of_lt (Zi (by omega));rintro i z W g qp hz ⟨p,rfl⟩ aw;have sp:=Same.new aw (.tup [.int i,z]);have C:upd g qp (.tup [.int i,z]) qp=some (.tup [.int i,z]):=zd;generalize upd g qp (.tup [.int i,z])=H3 at sp C⊢;have Z:=p.trans sp;obtain⟨t,S,it⟩:=F.get' hz;rw[au]at S;cases U:((mM b).scr [k])[i]? with|none=>rw[U]at S;cases S| some d=>rw[U]at S;cases S;obtain⟨sc,v,M⟩:=Xu U;refine⟨qp,_,J,aE.of C,J,_,_,J,_,_,J,J,?_⟩;refine⟨bF,λtq H6 n aK av=>⟨eD d,pQ a,(it.mono Z).mono n,⟨tq,_,J,av,IsL.two J J⟩,D6 (PH.nw.deeds sc v d M) (λy ey=>PH.says sc v y (ey▸M)),FG ah,Ib a,_,J,?_⟩⟩;rw[(Ga a d)];have o:=Z.trans n;cases c:v9 a d with| true=>refine wf ⟨o,?_⟩;show _=(Xd a ((mM b).scr [k]) i++if((((mM b).scr [k])[i]?).map (v9 a)).getD false=true then[i]else[]).map _;rw[U];show _=(Xd a ((mM b).scr [k]) i++if v9 a d=true then[i]else[]).map _;rw[if_pos c,ax];rfl| false=>refine yi ⟨o,?_⟩;show _=(Xd a ((mM b).scr [k]) i++if((((mM b).scr [k])[i]?).map (v9 a)).getD false=true then[i]else[]).map _;rw[U];show _=(Xd a ((mM b).scr [k]) i++if v9 a d=true then[i]else[]).map _;rw[if_neg (by rw[c];exact br),cp]
 rintro W g ⟨p,rfl⟩ l hl;have m:=Same.new hl (.lst ((Xd a ((mM b).scr [k]) h.length).map λ(j:Nat)=>V.int (j:Int)));have G:upd g l (.lst ((Xd a ((mM b).scr [k]) h.length).map λ(j:Nat)=>V.int (j:Int))) l=_:=zd;generalize upd g l (.lst ((Xd a ((mM b).scr [k]) h.length).map λ(j:Nat)=>V.int (j:Int)))=H5 at m G⊢;have Z:=p.trans m;have ay:q<(Xd a ((mM b).scr [k]) h.length).length:=by rw[V2,R,cr];exact hq
 have ej:=bo ay;obtain⟨e1,e2,_⟩:=zD ej;refine⟨bF,λk6 H6 n aK a3=>⟨l,_,_,_,J,J,aG.of (n _ _ G),y9 (by rw[au,ej];rfl),bF,λv7 H7 s7 ba ap=>?_⟩⟩;refine kk _ H7 _ (s1.trans (Z.trans (n.trans s7))) e1 e2 ⟨v7,_,J,ap,IsL.two ⟨k6,_,J,s7 _ _ a3,IsL.ints.mpr J⟩ J⟩
theorem Li:aA ["plan","triple"] ["plan","triple"] (zf Qn):=.of
theorem HU:aA ["plan","triple"] ["plan","triple"] (zf tX):=.of
theorem KL(D:bG K mg "come_of" Qn)(d:Ok P w K mg base "say_of" 1 ["plan","number","word","phase"] (jJ cP cR)):Ok P w K mg base "come_of" 2 ["plan","triple"] (hU "come" (λ_ o _=>o) cP cR):=by refine wa D Li ?_;rintro f p A c s H v Q E l ⟨x,j,L,i,o,q,u,rfl,PA,r,g,n,m,e⟩ X;refine⟨_,zg (zk (yc d l (za (pv 0) (za (zr zt (pv 1) ze) (za zi (za (zr zt (pv 1) ze) zc)))))),?_⟩;obtain⟨b,t,rfl,a,h⟩:=g;rw[IsL.ints.mp h]at a;exact⟨b,_,_,_,J,J,aE.of a,J,b,_,_,_,J,J,aE.of a,J,x,j,L,o,q,"come",J,PA,r,n,by decide+kernel,m,e⟩
theorem GP(D:bG K mg "go_of" tX)(d:Ok P w K mg base "say_of" 1 ["plan","number","word","phase"] (jJ cP cR)):Ok P w K mg base "go_of" 2 ["plan","triple"] (hU "go" (λi _ _=>i) cP cR):=by refine wa D HU ?_;rintro f p A c s H v Q E l ⟨x,j,L,i,o,q,u,rfl,PA,r,g,n,m,e⟩ X;refine⟨_,zg (zk (yc d l (za (pv 0) (za (zr zt (pv 1) ze) (za zi (za (zr zt (pv 1) ze) zc)))))),?_⟩;obtain⟨b,t,rfl,a,h⟩:=g;rw[IsL.ints.mp h]at a;exact⟨b,_,_,_,J,J,aE.of a,J,b,_,_,_,J,J,aE.of a,J,x,j,L,i,q,"go",J,PA,r,n,by decide+kernel,m,e⟩
end
noncomputable abbrev uo:Stmt:=aX 95
theorem dF.same{a G:Hp}{cU cP cR:Y}{hs:aB}{L:RL}{x ad as:Y}(r:dF a cU cP cR hs L x ad as)(s:Same a G)(d:G ad=none)(c:G as=none):dF G cU cP cR hs L x ad as:=by obtain⟨b,h,i,j,PA,g,f,e,_,_⟩:=r;exact⟨b,h,i,j,PA.same s,s _ _ g,s _ _ f,s _ _ e,d,c⟩
theorem Kw{d:Hp}{hs:aB}{L:RL}{x ad as p:Y}{c:O (O Nat×Nat)}{a:O Int}(s:dF H0 cU cP cR hs L x ad as)(u:Same H0 H1)(r:Wt H1 ad as c a)(j:Same H1 d)(g:bH cV P w d p []):dO (without [ad,as] d) d cU cP cR hs L x ad as c a/\bH cV P w (without [ad,as] d) p []/\Same H0 (without [ad,as] d):=by
 obtain⟨A,F,G,H,PA,E,D,C,o,l⟩:=id s;have h:=j _ _ r.1;have f:=j _ _ r.2;have q:=(u.trans j).without λm i=>by rcases ag.mp i with z|z;rw[z];exact o;rw[ak.mp z];exact l
 have t:yu d (without [ad,as] d):=λb y e=>by rw[yj];exact e;intro i;rcases ag.mp i with z|z;rw[z,h]at e;cases e;rw[ak.mp z,f]at e;cases e
 have n:p ∉ [ad,as]:=λi=>by obtain⟨v,e⟩:=g.some;rcases ag.mp i with z|z;rw[z,h]at e;cases e;rw[ak.mp z,f]at e;cases e
 exact⟨⟨s.same q (yk (by simp)) (yk (by simp)),xq,h,f⟩,g.by t (yj n),q⟩
noncomputable abbrev rS:Stmt:=aX 80
inductive hJ(vs:List V)(H:Hp)(Q:VK)(e0:XK):Prop|mk:∀(v:V)(hs:aB),vs=[v]->Is H (eH hs) v->dA hs->(∀n,(yd hs [] n).ready=[]->kf hs (yd hs [] n).done=true)->(∀n a l H',Same H H'->(yd hs [] n).ready=[]->H' a=some (.tup [.str "all",.ref l])->bY H' l (yd hs [] n).wov->Q (.ref a) H')->hJ vs H Q e0
section
variable{K:W.Frag}{cS cW:Addr}
theorem yP:aA ["house","run","woven"] ["house"] (zf rS):=.of
theorem EI(D:bG K mg "end" rS)(CU:aH K cU cJ)(Z:Ok P w K mg base "plan_of" 26 ["house"] (hE cP cR))(oF:Ok P w K mg base "first_run" 4 ["plan"] (fU cU cP cR))(oO:Ok P w K mg base "woven_on" 5 ["run","held"] (fT P w cU cP cR))(oA:bU P w K mg base cU "has_done_all" 1 ["self"] (jQ cU cP cR)):Ok P w K mg base "end" 27 ["house"] hJ:=by refine wa (k:=26) D yP ?_;rintro f aw A m s H x Q E c ⟨v,a,rfl,hv,G,r,k⟩ X;have z:=yP.nd;have d:=G.pl;refine⟨_,zb (zo (i:=1) z (yc oF (c.mono (by decide)) (za (yc Z c (za (pv 0) zc)) zc))) (zb (zo (i:=2) z (yc oO (c.mono (by decide)) (za (pv 1) (za (Vr (τ:=cV)) zc)))) (zb (ye (y7 (Vq oA CU.cls (c.mono (by decide)) (pv 1))) (zg (zk (xi (za zi (za (pv 2) zc))))) zn) (zg xn))),?_⟩;refine⟨a,v,J,hv,G,λN L ay l ap PA=>?_⟩;refine⟨N,a,L,J,PA,d,λg ad as H0 H1 U S af RF RM=>?_⟩;refine(λF o p C=>?_);have y:=Same.new p o;generalize upd H1 F o=H2 at y C⊢;obtain⟨u,GH,R⟩:=Kw RF S RM y C;refine⟨_,g,ad,as,F,a,L,_,_,[],J,u,GH,d,Xf d,Wu a,λn ao H3 j av W l3 WV b=>?_⟩;obtain⟨M,t,am,al,_,hx,_⟩:=id u.f;refine⟨g,t,_,J,j _ _ hx,J,_,g,ad,as,a,L,_,_,J,⟨u.f,j,W⟩,d,λH4 i=>⟨_,J,?_⟩⟩;have e:kf a (jH a [] (xj (Yp (plan a))) (jf a) n).done=true:=r n b;rw[e];refine wf ⟨by show 2<=1000;decide,λq H5 h n5 g5=>?_⟩;refine k n q ao H5 (l.trans (U.trans (R.trans (j.trans (i.trans h))))) b g5 ?_;obtain⟨x,h1,h2⟩:=l3;exact⟨x,(i.trans h) _ _ h1,h2.mono (i.trans h)⟩
end
theorem Q5(x:Str):∀s:yz,s.countP (v9 x)=(k8 s).count x
 |[]=>rfl
 | d ::r=>by
   rw[List.countP_cons,Q5 x r];cases d with
   | say y=>
     show _+(if decide (y=x)=true then 1 else 0)=(y::k8 r).count x
     grind
   |_=>rfl
theorem II(p:Nat):(eU p).count ("come":Str)=p/\(eU p).count ("go":Str)=p:=by
 induction p with|zero=>exact⟨J,J⟩| succ n a=>
   have e:eU (n+1)=[("come":Str),"go"]++eU n:=by rfl
   have b:([("come":Str),"go"]).count ("come":Str)=1:=by rfl
   grind
theorem HP{N P:Nat}(h:g∈Xw N P):∃i o q:Nat,g=[(i:Int),(o:Int),(q:Int)]/\i<N/\o<N/\q<P:=by
 obtain⟨q,c,b⟩:=List.mem_flatMap.mp h;obtain⟨o,d,a⟩:=List.mem_flatMap.mp b;obtain⟨i,e,rfl⟩:=bu.mp a
 grind
structure mG(hs:aB)(n p:Int)(N P:Nat):Prop where
 en:n=(N:Int)
 ep:p=(P:Int)
 n16:N<=16
 p4:P<=4
 there:∀k,k<N->[k]∈zh (plan hs)
 says:∀k,k<N->((mM hs).scr [k]).countP (v9 "come")=P/\((mM hs).scr [k]).countP (v9 "go")=P
theorem FL{hs:aB}{n p:Int}(h:Yo hs n p=true):∃N P,mG hs n p N P:=by unfold Yo pR at h;simp only[cg,decide_eq_true_eq]at h;obtain⟨⟨j,i⟩,⟨g,f⟩,c,b⟩:=h;have a:=λk hk=>cm (db.mp c k (dj.mpr hk));refine⟨n.toNat,p.toNat,by omega,by omega,by omega,by omega,a,λk hk=>?_⟩;have e:=cm (db.mp b [k] (a k hk));have d:Wx n.toNat p.toNat [k]=eU p.toNat:=if_pos hk;rw[Q5,Q5,e,d];exact II _
def X5(hs:aB)(G:Str)(k q j:Nat):Prop:=((mM hs).scr [k])[j]?=some (.say G)/\(((mM hs).scr [k]).take j).countP (v9 G)=q
structure eV(hs:aB)(a o q:Nat)(d:Bool)(st:WS (List Nat)):Prop where
 is:∃n jc jg,X5 hs "come" o q jc/\X5 hs "go" a q jg/\st=yd hs (yp [o] jc) n/\decide (jg<yb st.done [a])=d
 rdy:st.ready=[]
 wv:Wv (mM hs) (zh (plan hs)) st
def rL(hs:aB)(N:Addr->Prop)(H:Hp)(G:List (List aJ×V))(g:List Int):Prop:=∃a o q l st,g=[((a:Nat):Int),((o:Nat):Int),((q:Nat):Int)]/\yq G (kI g)=some (.ref l)/\N l/\bY H l st.wov/\eV hs a o q false st
def vV(hs:aB)(U:List (List Int))(N:Addr->Prop)(H:Hp)(G:List (List aJ×V)):Prop:=G.map (·.1)=U.map kI/\∀g∈U,rL hs N H G g
inductive lG(vs:List V)(H:Hp)(Q:VK)(e0:XK):Prop| mk:∀hs (v:V) (n p:Int),vs=[v,.int n,.int p]->Is H (eH hs) v->dA hs->Yo hs n p=true->
   (∀n0 a r H',Same H H'->(yd hs [] n0).ready=[]->kf hs (yd hs [] n0).done=false->H' a=some (.tup (.str "stuck"::r))->Q (.ref a) H')->
   (∀x o q st a r H',Same H H'->x<n.toNat->o<n.toNat->q<p.toNat->eV hs x o q true st->H' a=some (.tup (.str "early"::r))->Q (.ref a) H')->
   (∀a d prow H',Same H H'->H d=none->H' a=some (.tup [.str "holds",.ref d])->H' d=some (.dT prow)->vV hs (Xw n.toNat p.toNat) (λ_=>True) H' prow->Q (.ref a) H')->lG vs H Q e0
theorem bY.by{H a:Hp}{l:Y}{b:O (O Nat)}(x:bY H l b)(d:∀o,H l=some o->a l=some o)(t:yu H a):bY a l b:=by obtain⟨c,f,e⟩:=x;exact⟨c,d _ f,e.tups t (Xr _)⟩
theorem FY(N P:Nat):(Xw N P).Nodup:=by
 have f:∀{a b c x y z:Nat},([(a:Int),(b:Int),(c:Int)]:O Int)=[(x:Int),(y:Int),(z:Int)]->a=x/\b=y/\c=z:=λe=>by injection e with n e;injection e with m e;injection e with s;omega
 have p:∀o q,(iZ N o q).Nodup:=λo q=>List.Pairwise.map _ (λa b h e=>h (f e).1) (List.Pairwise.filter _ List.nodup_range);have d:∀{o q g},g∈iZ N o q->∃a:Nat,g=[(a:Int),(o:Int),(q:Int)]:=λh=>by obtain⟨a,_,e⟩:=bu.mp h;exact⟨a,e.symm⟩
 have i:∀q,(Q9 N q N).Nodup:=λq=>List.pairwise_flatMap.mpr ⟨λo _=>p o q,List.Pairwise.imp (λh x l y j e=>by obtain⟨a,n⟩:=d l;obtain⟨b,m⟩:=d j;exact h (f (n.symm.trans (e.trans m))).2.1) List.nodup_range⟩
 refine List.pairwise_flatMap.mpr ⟨λq _=>i q,List.Pairwise.imp (λh x l y j e=>?_) List.nodup_range⟩;obtain⟨o,_,l⟩:=List.mem_flatMap.mp l;obtain⟨r,_,j⟩:=List.mem_flatMap.mp j;obtain⟨a,n⟩:=d l;obtain⟨b,m⟩:=d j;exact h (f (n.symm.trans (e.trans m))).2.2
theorem aR:∀{a b:List Int},kI a=kI b->a=b|[],[],_=>rfl|[],_::_,e=>by cases e|_::_,[],e=>by cases e| x::g,y::f,e=>by injection e with c d;injection c with c;rw[c,aR d]
section
variable{K:W.Frag}{cS cW:Addr}
theorem rJ(l:O (O Nat))(h:O Nat):l.count h=@List.count _ instBEqOfDecidableEq h l:=by
 unfold List.count
 grind
theorem Fd(i:Is H (tI g) v):∃b,v=.ref b/\H b=some (.tup ((kI g).map kV)):=by
 obtain⟨b,d,rfl,c,a⟩:=i;rw[IsL.ints.mp a,<-lx]at c
 simp_all
theorem uj{t:TS}{D:Ends}{a:L2.St}(R:L2.St->Hp->Prop)(b:∀σ' H',R σ' H'->D.nx σ' H')(g:(∀σ' H',R σ' H'->D.nx σ' H')->t D a H):t D a H:=g b
theorem Bp:aA ["house","n","p","plan","run","woven","stops","papers","triple","come","go"] ["house","n","p"] (zf uo):=.of
theorem GW(D:bG K mg "tried" uo)(T:Txt K mg)(CU:aH K cU cJ)(CS:aH K cS dU)(oP:Ok P w K mg base "made_plan" 27 ["house","n","p"] (l7 cP cR))(oF:Ok P w K mg base "first_run" 4 ["plan"] (fU cU cP cR))(oO:Ok P w K mg base "woven_on" 5 ["run","held"] (fT P w cU cP cR))(oA:bU P w K mg base cU "has_done_all" 1 ["self"] (jQ cU cP cR))(oR:Ok P w K mg base "triples" 1 ["n","p"] lF) (oC:Ok P w K mg base "come_of" 2 ["plan","triple"] (hU "come" (λ_ o _=>o) cP cR)) (oG:Ok P w K mg base "go_of" 2 ["plan","triple"] (hU "go" (λi _ _=>i) cP cR)) (oS:eX P w K mg base "Stop" cS 6 ["self","plan","one"] (jL cS cU cP cR)) (oL:bU P w K mg base cS "lacks" 2 ["self","other"] (jP cS cU)) (oU:bU P w K mg base cS "up_to" 1 ["self","other"] (lD cS cU)):
  Ok P w K mg base "tried" 28 ["house","n","p"] lG:=by
 refine wa (k:=27) D Bp ?_;rintro f fb A de s H vs Q E hr ⟨t,v,n,p,rfl,hv,hG,im,dh,dp,dn⟩ X;have nd:=Bp.nd;have hu:=ji hr;have ay:=qH hr;refine⟨_,zb (zo (i:=3) nd (yc oP hr (za (pv 0) (za (pv 1) (za (pv 2) zc))))) (zb (zo (i:=4) nd (yc oF (hr.mono (by decide)) (za (pv 3) zc))) (zb (zo (i:=5) nd (yc oO (hr.mono (by decide)) (za (pv 4) (za (Vr (τ:=cV)) zc)))) (zb (ye (xt (y7 (Vq oA CU.cls (hr.mono (by decide)) (pv 4)))) (zg (zk (xi (za zi (za (pv 5) zc))))) zn) (zb (zo (i:=6) nd (Vr (τ:=cV))) (zb (zo (i:=7) nd Y5) (zb (wy PassesOwn.never J (qi (yc oR (hr.mono (by decide)) (za (pv 1) (za (pv 2) zc)))) (zp (i:=8) nd) (zb (zo (i:=9) nd (yc oC (hr.mono (by decide)) (za (pv 3) (za (pv 8) zc)))) (zb (zo (i:=10) nd (yc oG (hr.mono (by decide)) (za (pv 3) (za (pv 8) zc)))) (zb (ye (Wi (IO (τ:=cV) ay (pv 9) (pv 6))) (zg (zR (τ:=cV) ay (pv 6) (pv 9) (mW oS (hr.mono (by decide)) (za (pv 3) (za (pv 9) zc))) J)) zn) (zb (ye (xt (y7 (v6 oL CS.cls (hr.mono (by decide)) (Vs (τ:=cV) ay (pv 6) (pv 9) (λ_ _=>rfl)) (za (pv 10) zc)))) (zg (zk (ya Fu (xi (za zi (za (v6 oU CS.cls (hr.mono (by decide)) (Vs (τ:=cV) ay (pv 6) (pv 9) (λ_ _=>rfl)) (za (pv 10) zc)) zc))) (pv 8)))) zn) (zg (Yj hu (pv 7) (pv 8) (yx LW (by rfl) T.list J9 (za (zx (Vs (τ:=cV) ay (pv 6) (pv 9) (λ_ _=>rfl)) J) zc)) J)))))))
  (zg (zk (xi (za zi (za (pv 7) zc))))))))))),?_⟩
 refine⟨t,v,n,p,J,hv,hG,im,λxp L H1 s1 eo PA=>?_⟩;obtain⟨N,P',M⟩:=FL im;obtain rfl:=M.en;obtain rfl:=M.ep;have PH:=hG.pl;refine⟨xp,t,L,J,PA,PH,λxr ad as H0 H2 c3 s2 en RF RM=>?_⟩;refine(λah o dN S=>?_);have s3:=Same.new dN o;generalize upd H2 ah o=H3 at s3 S⊢;obtain⟨RA,GH,sw⟩:=Kw RF s2 RM s3 S;refine⟨_,xr,ad,as,ah,t,L,_,_,[],J,RA,GH,PH,Xf PH,Wu t,λn0 ao H4 Z e9 rm l4 fv du=>?_⟩;obtain⟨ej,d1,am,al,_,hx,_⟩:=id RA.f;have bN:Same H1 H4:=c3.trans (sw.trans Z);refine⟨xr,d1,_,J,Z _ _ hx,J,_,xr,ad,as,t,L,_,_,J,⟨RA.f,Z,rm⟩,PH,λH5 s5=>⟨_,J,?_⟩⟩;have c2:=s1.trans (bN.trans s5);cases dT:kf t (jH t [] (xj (Yp (plan t))) (jf t) n0).done with|false=>exact wf ⟨bF,λq6 H6 s6 e0 h6=>dh n0 _ _ H6 (c2.trans s6) du dT h6⟩|true=>
 refine yi ?_;intro d b1 bk bi;have s6:=Same.new bk b1;generalize upd H5 d b1=H6 at s6 bi⊢;intro j bl;have s7:=Same.new bl (.dT []);have h7:upd H6 j (.dT []) j=some (.dT []):=zd;generalize upd H6 j (.dT [])=H7 at s7 h7⊢;refine⟨N,P',J,M.n16,M.p4,λlt Hb s8 ez i8=>?_⟩;obtain⟨lt',xs,el,af,ix⟩:=i8;cases el;have b7:=ix.length;rw[aa]at b7;have gb:bH cV P w Hb d []:=(bi.same s7).same s8;have pb:Hb j=some (.dT []):=s8 _ _ h7;obtain⟨ec,eb⟩:=gb.some;have b4:j≠d:=λz=>by rw[z,eb]at pb;cases pb
 have a5:Same H1 H5:=bN.trans s5;have c1:Same H5 Hb:=s6.trans (s7.trans s8);have dg:H5 d=none:=bk;have b5:H5 j=none:=xa s6 bl;have bC:Same H5 (without [d,j] Hb):=c1.without λm hm=>by rcases ag.mp hm with z|z;rw[z];exact dg;rw[ak.mp z];exact b5
 have cc:without [d,j] Hb lt=some (.lst xs):=by rw[yj];exact af;intro hm;rcases ag.mp hm with z|z;rw[z,eb]at af;cases af;rw[ak.mp z,pb]at af;cases af
 have tw:yu Hb (without [d,j] Hb):=λb ys e=>by rw[yj];exact e;intro hm;rcases ag.mp hm with z|z;rw[z,eb]at e;cases e;rw[ak.mp z,pb]at e;cases e
 have d8:(Xw N P').length<=1024:=by have q1:=A8 N P';have q2:P'*(N*N)<=4*(16*16):=Nat.mul_le_mul M.p4 (Nat.mul_le_mul M.n16 M.n16);omega
 refine⟨lt,J,⟨xs,aG.of af⟩,?_⟩;let d4:Nat->L2.St->Hp->Prop:=λi σ G=>∃(x8 x9 bx:Option V)(C:List ((List Int×Int)×V))(r:List (List aJ×V)),σ=[some v,some (.int (N:Int)),some (.int (P':Int)),some (.ref xp),some (.ref xr),some (.ref ao),some (.ref d),some (.ref j),x8,x9,bx]/\Same (without [d,j] Hb) G/\bH cV P w G d C/\G j=some (.dT r)/\C.length<=i/\r.length<=i/\
  (∀k v,yq C k=some v->∃xs n h p,v=.ref xs/\aW (λa=>a≠d/\a≠j) G cS cU xs (yd t (yp h p) n)/\Wv (mM t) (zh (plan t)) (yd t (yp h p) n)/\k=(hZ h,(p:Int))/\(yd t (yp h p) n).ready=[])/\vV t ((Xw N P').take i) (λa=>a≠d/\a≠j) G r
 refine Zn (K:=K) (a:=lt) (xs:=xs) d4
  ⟨none,none,none,[],[],J,xq,gb,pb,be _,be _,(λk v e=>by cases e),J,λg S=>by cases S⟩ (λi σ G _ ⟨_,_,_,_,_,_,sG,_⟩=>aG.of (sG _ _ cc)) ?_ ?_
 . rintro i vt σ G b8 ⟨x8,x9,bx,C,r,rfl,sG,gG,pG,et,eu,dt,aS,a6⟩;have hi:i<xs.length:=(ci.mp b8).1;obtain⟨tt,aK,dq⟩:=ix.get' b8;rw[au]at aK;cases eg:(Xw N P')[i]? with|none=>rw[eg]at aK;cases aK|some g=>
   rw[eg]at aK;cases aK;obtain⟨a,o,q,rfl,ha,ho,hq⟩:=HP (bv eg);have bE:Is G (tI [(a:Int),(o:Int),(q:Int)]) vt:=(dq.tups tw (ju _)).mono sG;have bK:aM G cP cR t L xp:=PA.same (a5.trans (bC.trans sG));refine⟨xp,t,L,a,o,q,vt,J,bK,PH,bE,M.there o ho,by rw[(M.says o ho).1];exact hq,λvc G1 R t1 cn bh ic=>?_⟩;refine⟨xp,t,L,a,o,q,vt,J,bK.same t1,PH,bE.mono t1,M.there a ha,by rw[(M.says a ha).2];exact hq,λvg G2 jg t2 cl bg ig=>?_⟩;have W:=t1.trans t2;have bM:=sG.trans W;have a7:=gG.same W;have bD:=W _ _ pG;have aw:Is G2 (.tup [hT [o],.int (R:Int)]) vc:=ic.mono t2;obtain⟨bc,xc,rfl,e8,e7⟩:=id aw;have bb:∀k v,yq C k=some v->∃xs n h p,v=.ref xs/\aW (λa=>a≠d/\a≠j) G2 cS cU xs (yd t (yp h p) n)/\Wv (mM t) (zh (plan t)) (yd t (yp h p) n)/\k=(hZ h,(p:Int))/\(yd t (yp h p) n).ready=[]:=λk v e=>by obtain⟨xs,n,h,p,e1,e2,e3⟩:=dt k v e;exact⟨xs,n,h,p,e1,e2.same W,e3⟩
   have bd:∀g∈(Xw N P').take i,rL t (λa=>a≠d/\a≠j) G2 r g:=λg S=>by obtain⟨a,o,q,l,st,e1,e2,e3,e4,e5⟩:=a6 g S;exact⟨a,o,q,l,st,e1,e2,e3,e4.by (W _) W.tups,e5⟩
   dsimp only[js,pM,Ends.sq,nK,tC,pX];refine uj (t:=pL _ _ _) (λbL G3=>∃(y:List ((List Int×Int)×V))(vs:V),bL=[some v,some (.int (N:Int)),some (.int (P':Int)),some (.ref xp),some (.ref xr),some (.ref ao),some (.ref d),some (.ref j),some vt,some (.ref bc),some vg]/\Same (without [d,j] Hb) G3/\yu G2 G3/\bH cV P w G3 d y/\G3 j=some (.dT r)/\(∀g∈(Xw N P').take i,rL t (λa=>a≠d/\a≠j) G3 r g)/\y.length<=i+1/\ (∀k v,yq y k=some v->∃xs n h p,v=.ref xs/\aW (λa=>a≠d/\a≠j) G3 cS cU xs (yd t (yp h p) n)/\Wv (mM t) (zh (plan t)) (yd t (yp h p) n)/\k=(hZ h,(p:Int))/\(yd t (yp h p) n).ready=[])/\yq y (hZ [o],(R:Int))=some vs) ?_ (λfin=>?_)
   rintro bL G3 ⟨y,vs,rfl,F,bB,g3,p3,b9,bI,ba,ev⟩;obtain⟨U,n',h',p',rfl,SA,a8,ek,b0⟩:=ba _ _ ev;obtain rfl:[o]=h':=qr (congrArg Prod.fst ek);obtain rfl:R=p':=Int.ofNat.inj (congrArg Prod.snd ek);have av:Is G3 (.tup [hT [o],.int (R:Int)]) (.ref bc):=aw.tups bB ⟨ju _,trivial,trivial⟩;have b6:Is G3 (.tup [hT [a],.int (jg:Int)]) vg:=ig.tups bB ⟨ju _,trivial,trivial⟩;have dr:Is G3 (tI [(a:Int),(o:Int),(q:Int)]) vt:=(bE.mono W).tups bB (ju _);obtain⟨bt,rfl,co⟩:=Fd dr;have c0:aW (λ_=>True) G3 cS cU U (yd t (yp [o] R) n'):=SA.keep (λ_ _ _ e=>e) (yu.refl _) λ_ _=>trivial;obtain⟨bJ,ei,d2,ea,d6,ft,ff,fl,fn,z1,z2,z3,⟨os,z4,z5⟩,_⟩:=id SA;have er:(yd t (yp [o] R) n').wov.length<=1200:=by have q:=a8.most;have q2:tot (mM t) (zh (plan t))=Q4 t.ss (plan t):=W0 (ka t);have q4:Q4 t.ss (plan t)<=1200:=PH.deeds;omega
   refine⟨d,bc,y,(hZ [o],(R:Int)),.ref U,J,J,g3,av,ev,U,bJ,_,J,z1,J,U,_,[a],jg,vg,J,c0,b6,_,J,?_⟩;by_cases c:jg<yb (yd t (yp [o] R) n').done [a];rw[bj c];refine wf ?_;refine⟨d,bc,y,(hZ [o],(R:Int)),.ref U,J,J,g3,av,ev,U,bJ,_,J,z1,J,U,_,[a],jg,vg,J,c0,b6,by rw[rJ,a8.cnt];exact c,by omega,λl4 G4 j4 Z e4 fa i4=>⟨bF,λp5 G5 s5 e6 dv=>?_⟩⟩;refine⟨p5,bt,_,_,J,J,aE.of dv,aE.of ((Z.trans s5) _ _ co),by simp,bF,(λz=>by cases z),λ_ p6 h6=>?_⟩;exact dp a o q _ p6 _ _ (s1.trans (a5.trans (bC.trans (F.trans ((Z.trans s5).trans (Same.new h6 _)))))) ha ho hq ⟨⟨n',R,jg,⟨cn,bh⟩,⟨cl,bg⟩,J,bj c⟩,b0,a8⟩ zd;rw[c6 c];refine yi ?_;refine⟨d,bc,y,(hZ [o],(R:Int)),.ref U,J,J,g3,av,ev,U,cS,bJ,_,_,J,z1,CS.cls,CS.n,K3,d2,os,J,.inl (aG.of z4),λl4 a3=>?_⟩;have Z:=Same.new a3 (.lst os);have cv:upd G3 l4 (.lst os) l4=some (.lst os):=zd;generalize upd G3 l4 (.lst os)=G4 at Z cv⊢;have ca:[(a:Int),(o:Int),(q:Int)] ∉ (Xw N P').take i:=λz=>by have nd:=FY N P';rw[<-List.take_append_drop i (Xw N P'),List.nodup_append]at nd;exact nd.2.2 _ z _ (bv (i:=0) (by rw[List.getElem?_drop];exact eg)) J
   have cb:yq r (kI [(a:Int),(o:Int),(q:Int)])=none:=by cases e:yq r (kI [(a:Int),(o:Int),(q:Int)])with|none=>rfl| some u=>have:=Wy e;rw[aS]at this;obtain⟨g,S,eg⟩:=bu.mp this;exact absurd (aR eg▸S) ca
   obtain⟨ed,dV⟩:=g3.some;have b2:l4≠d/\l4≠j:=⟨(λz=>by rw[z,dV]at a3;cases a3),λz=>by rw[z,p3]at a3;cases a3⟩
   refine⟨j,_,J,Q7.t (Z _ _ p3) (Z _ _ co) (Zi (by omega)),?_⟩;have p4:=Z _ _ p3;have g4:=g3.same Z;have t5:yu G4 (upd G4 j (.dT (v4 r (kI [(a:Int),(o:Int),(q:Int)]) (.ref l4)))):=yu.upd p4 (λ_ z=>by cases z);have lp:=wc r (kI [(a:Int),(o:Int),(q:Int)]) (.ref l4);refine⟨_,_,_,y,_,J,qy (F.trans Z) (yk (by simp)),g4.by t5 (upd_ne (ai b4)),zd,bI,by omega,λk' v' e'=>?_,?_,λg S=>?_⟩
   . obtain⟨bw,n2,h2,p2,r1,r2,r3⟩:=ba k' v' e';exact⟨bw,n2,h2,p2,r1,(r2.same Z).keep (λb u nb e=>by rw[upd_ne nb.2];exact e) t5 (λ_ nb=>nb),r3⟩
   . rw[Zl _ cb,ax,aS,cq,eg];simp
   . rw[cq,eg]at S;rcases ce.mp S with S|S
     . obtain⟨a2,o2,q2,l2,ap,e1,e2,e3,e4,e5⟩:=b9 g S;refine⟨a2,o2,q2,l2,ap,e1,?_,e3,(e4.by (Z _) Z.tups).by (λu e=>by rw[upd_ne e3.2];exact e) t5,e5⟩;rw[kj,if_neg (λz=>ca (by have z:=aR z;rw[<-z];exact S))];exact e2
     . obtain rfl:g=[(a:Int),(o:Int),(q:Int)]:=by simpa using S
       exact⟨a,o,q,l4,_,J,by rw[kj,if_pos J],b2,(bY.mk os cv (z5.mono Z)).by (λu e=>by rw[upd_ne b2.2];exact e) t5,⟨n',R,jg,⟨cn,bh⟩,⟨cl,bg⟩,J,c6 c⟩,b0,a8⟩
   refine⟨d,bc,C,(hZ [o],(R:Int)),J,J,a7,aw,_,J,?_⟩;cases ev:yq C (hZ [o],(R:Int))with|some vs=>exact yi (fin _ G2 ⟨C,vs,J,bM,yu.refl _,a7,bD,bd,by omega,bb,ev⟩)| none=>
     refine wf ?_;refine(λx dx hx dK ew=>?_);have sn:Same G2 (upd (upd G2 dx (.own x)) x (.ins cS dx [])):=λb o e=>by rw[upd_ne (zj e hx),upd_ne (zj e dK)];exact e
     refine⟨G2,x,dx,xp,.ref bc,t,L,[o],R,J,zd,sn,hx,bK.same W,PH,aw.mono sn,λn3 G3 F d3 bI SA=>⟨J,?_⟩⟩;have g3:=a7.same F;have av:=aw.mono F;have p3:=F _ _ bD;refine⟨d,bc,C,(hZ [o],(R:Int)),J,J,g3,av,Zi (by omega),λo' dE=>?_⟩;have lp:=wc C (hZ [o],(R:Int)) (.ref x);obtain⟨ee,e2⟩:=a7.some;have b3:∀b,G2 b=none->b≠d/\b≠j:=λb nb=>⟨(λz=>by rw[z,e2]at nb;cases nb),(λz=>by rw[z,bD]at nb;cases nb)⟩
     refine fin _ (upd G3 d o') ⟨v4 C (hZ [o],(R:Int)) (.ref x),.ref x,J,qy (bM.trans F) (yk (by simp)),F.tups.trans g3.tups,dE,(upd_ne b4).trans p3,(λg S=>by obtain⟨a2,o2,q2,l2,ap,e1,e2,e3,e4,e5⟩:=bd g S;exact⟨a2,o2,q2,l2,ap,e1,e2,e3,(e4.by (F _) F.tups).by (λu e=>by rw[upd_ne e3.1];exact e) g3.tups,e5⟩),by omega,λk' v' e'=>?_,by rw[kj,if_pos J]⟩
     rw[kj]at e';by_cases ck:k'=(hZ [o],(R:Int));rw[if_pos ck]at e';cases e';exact⟨x,n3,[o],R,J,SA.keep (λb u nb e=>by rw[upd_ne (b3 b nb).1];exact e) g3.tups b3,d3,ck,bI⟩;rw[if_neg ck]at e';obtain⟨bw,n2,h2,p2,r1,r2,r3⟩:=bb k' v' e';exact⟨bw,n2,h2,p2,r1,(r2.same F).keep (λb u nb e=>by rw[upd_ne nb.1];exact e) g3.tups (λ_ nb=>nb),r3⟩
 rintro σ G ⟨x8,x9,bx,C,r,rfl,sG,gG,pG,_,_,_,aS,a6⟩;rw[b7,cr]at aS a6;exact⟨bF,λq9 H9 s9 ey h9=>dn _ _ r H9 (s1.trans (a5.trans (bC.trans (sG.trans s9)))) (xa s1 (xa a5 b5)) h9 (s9 _ _ pG) ⟨aS,λg S=>by obtain⟨a2,o2,q2,l2,ap,e1,e2,e3,e4,e5⟩:=a6 g S;exact⟨a2,o2,q2,l2,ap,e1,e2,trivial,e4.by (s9 _) s9.tups,e5⟩⟩⟩
end
noncomputable def uK(n i q:Nat):List aI:=[.rai 0 1,.awa 0 ((n:Int)*((q:Int)+1))]
noncomputable def dI(n i:Nat):List Nat:=(List.range n).filter λj=>decide (j≠i)
noncomputable def nr(n i q:Nat):List aI:=.rai (i:Int) 1::(dI n i).map λj:Nat=>aI.awa (j:Int) ((q:Int)+1)
noncomputable def fZ(n i:Nat):List Nat:=[2*i+1,2*i+2].filter λj=>decide (j<n)
noncomputable def ni(n i q:Nat):List aI:=(fZ n i).map (λj:Nat=>aI.awa (j:Int) ((q:Int)+1))++[.rai (i:Int) 1]++(if i=0 then[]else[.awa 0 ((q:Int)+1)])
theorem qI{b k:Int}(h:H p=some (.tup [.str "raise",.int b,.int k])):Is H (eD (.rai b k)) (.ref p):=⟨p,_,J,h,_,_,J,J,_,_,J,J,_,_,J,J,J⟩
theorem nU{b k:Int}(h:H p=some (.tup [.str "await",.int b,.int k])):Is H (eD (.awa b k)) (.ref p):=⟨p,_,J,h,_,_,J,J,_,_,J,J,_,_,J,J,J⟩
theorem xD(h:H p=some (.tup [.str "say",.str x])):Is H (eD (.say x)) (.ref p):=⟨p,_,J,h,_,_,J,J,_,_,J,J,J⟩
theorem nV{xs:O V}{a:O T}(h:H l=some (.lst xs))(i:IsL H a xs):Is H (.lst a) (.ref l):=⟨l,xs,J,h,i⟩
theorem qw{H:Hp}:∀{b us:List T}{xs a:List V},IsL H b xs->IsL H us a->IsL H (b++us) (xs++a)|[],us,xs,a,h,g=>by cases(h);exact g| t::b,us,xs,a,h,g=>by obtain⟨v,r,rfl,d,c⟩:=h;exact⟨v,r++a,J,d,qw c g⟩
theorem jb{t:T}(h:Is H t v):IsL H [t] [v]:=⟨v,[],J,h,J⟩
theorem pC{i j:Int}(d:0<=i)(c:i<=1000)(b:0<=j)(a:j<=1000):iN i j:=by unfold iN;omega
theorem AO(n i:Nat):(List.range (n+1)).filter (λj=>decide (j≠i))=(List.range n).filter (λj=>decide (j≠i))++if n≠i then[n]else[]:=by
 rw[List.range_succ,List.filter_append]
 grind
theorem Fw(n i:Nat):(dI n i).length<=n:=by
 unfold dI
 grind
theorem zV(n i:Nat):(fZ n i).length<=2:=by unfold fZ;grind
theorem D1{X:Cx}:qX X .Mult (rI iN λi j=>.int (i*j)):=by intro a s b H x y v u Q I d c h;exact Fc a s b H x y v u Q I d c h
theorem dQ.mems(a:O gu):qt (a.map pE):=by rw[qt.all];intro t b;obtain⟨m,_,rfl⟩:=bu.mp b;exact⟨trivial,trivial,trivial⟩
theorem dQ.deed(d:aI):dQ (eD d):=by cases d with| beg j a=>exact⟨trivial,trivial,dQ.mems a,trivial⟩|_=>first|exact⟨trivial,trivial,trivial⟩|exact⟨trivial,trivial,trivial,trivial⟩
theorem dQ.deeds(b:O aI):qt (b.map eD):=by rw[qt.all];intro t a;obtain⟨m,_,rfl⟩:=bu.mp a;exact dQ.deed m
structure Gr(H0 H:Hp)(l:Addr)(ds:List aI)(ys:List V):Prop where
 same:Same H0 H
 at':H l=some (.lst ys)
 it:IsL H (ds.map eD) ys
theorem Gr.len{a:O aI}(g:Gr H0 H l a ys):ys.length=a.length:=by have:=g.it.length;rw[aa]at this;exact this
theorem Gr.apps{c es:O aI}{a:O V}(h:H0 l=none)(g:Gr H0 H l c ys)(s:Same H H1)(i:IsL H1 (es.map eD) a):Gr H0 (upd H1 l (.lst (ys++a))) l (c++es) (ys++a):=by
 have d:yu H1 (upd H1 l (.lst (ys++a))):=λb f e=>by rw[upd_ne (λz=>by rw[z,s _ _ g.at']at e;cases e)];exact e
 refine⟨λb o e=>?_,zd,?_⟩;rw[upd_ne (λz=>by simp_all)];exact s _ _ (g.same _ _ e);rw[ax];exact qw (IsL.tups d (dQ.deeds c) (g.it.mono s)) (IsL.tups d (dQ.deeds es) i)
theorem Gr.app{a:O aI}{d:aI}(b:H0 l=none)(g:Gr H0 H l a ys)(s:Same H H1)(i:Is H1 (eD d) v):Gr H0 (upd H1 l (.lst (ys++[v]))) l (a++[d]) (ys++[v]):=g.apps b s (jb i)
theorem Gr.nil(a:H l=none):Gr H (upd H l (.lst [])) l [] []:=⟨Same.new a _,zd,J⟩
theorem W6{n:Nat}(h:n<1000):n<sizeLine:=c8 h (wm (ae 1000))
theorem iO{a n:Nat}(h:a<n):((i:Int)-(a:Int))%(n:Int)=(((i+n-a)%n:Nat):Int):=by rw[Int.natCast_emod,Int.ofNat_sub (by omega),Int.natCast_add,show((i:Int)+n-a)=(i-a)+n by omega,Int.add_emod_right]
noncomputable def lA(n i q:Nat):Nat->Nat->Nat->List aI|0,_,_=>[]|f+1,k,G=>if G<n then aI.rai ((k*n+i:Nat):Int) 1::.awa ((k*n+(i+n-G)%n:Nat):Int) ((q:Int)+1)::lA n i q f (k+1) (2*G)else[]
noncomputable def o7(n i q:Nat):List aI:=lA n i q 5 0 1
theorem FT{n:Nat}:∀{f k a:Nat},n<=a->lA n i q f k a=[]|0,_,_,_=>rfl|f+1,k,a,h=>by unfold lA;rw[if_neg (by omega)]
def K4(kd:Str):Prop:=kd="shared"\/kd="own"\/kd="spread"\/kd="tree"
noncomputable def np(kd:Str)(n i q:Nat):List aI:=if kd="shared" then uK n i q else if kd="own" then nr n i q else if kd="spread" then o7 n i q else ni n i q
noncomputable def one(kd:Str)(n i q:Nat):List aI:=.say "come"::np kd n i q++[.say "go"]
noncomputable def eW(kd:Str)(n i p:Nat):List aI:=(List.range p).flatMap (one kd n i)
theorem Aq{n i q:Nat}:∀(f k a:Nat),(lA n i q f k a).length<=2*f
 |0,_,_=>ae 0
 | f+1,k,a=>by
   unfold lA;by_cases h:a<n;rw[if_pos h,d7,d7];have:=Aq (n:=n) (i:=i) (q:=q) f (k+1) (2*a);omega
   grind
theorem iq{n:Nat}(h:i<n):(dI n i).length+1<=n:=by
 unfold dI;have a:=(List.length_filter_lt_length_iff_exists (p:=λj=>decide (j≠i))).mpr ⟨i,dj.mpr h,by simp⟩
 grind
theorem zX{n:Nat}(d:i<n)(e:n<=16):(np kd n i q).length<=16:=by
 unfold np;by_cases c:kd="shared";rw[if_pos c];show 2<=16;decide;rw[if_neg c];by_cases b:kd="own";rw[if_pos b];unfold nr;rw[d7,aa];have:=iq d;omega;rw[if_neg b];by_cases a:kd="spread";rw[if_pos a];have:=Aq (n:=n) (i:=i) (q:=q) 5 0 1;unfold o7;omega;rw[if_neg a];unfold ni;rw[cj,cj,aa];have:=zV n i
 grind
theorem Ft{n:Nat}(b:i<n)(a:n<=16):(one kd n i q).length<=18:=by
 unfold one;rw[cj,d7];have:=zX (kd:=kd) (q:=q) b a
 simp_all
theorem Au(kd:Str)(n i p:Nat):eW kd n i (p+1)=eW kd n i p++one kd n i p:=by unfold eW;rw[List.range_succ,List.flatMap_append];simp
theorem zY{kd:Str}{n i:Nat}(b:i<n)(a:n<=16):∀p,(eW kd n i p).length<=18*p|0=>ae 0| p+1=>by rw[Au,cj];have:=zY (kd:=kd) b a p;have:=Ft (kd:=kd) (q:=p) b a;omega
noncomputable def bt(n:Nat):Nat:=Builtin.Int.intBits ((n:Int)-1)
noncomputable def jW(kd:Str)(n:Nat):Int:=if kd="shared" then 1 else if kd="spread" then(n:Int)*(bt n:Int)else(n:Int)
noncomputable def hk(kd:Str)(n p:Nat):aB:=⟨jW kd n,0,(List.range n).map λi=>((i:Nat),([]:List gu)),(List.range n).map λi=>eW kd n i p⟩
theorem Lz(j:Nat):(List.range (j+1)).map (λi=>eC ((i:Nat),([]:O gu)))=(List.range j).map (λi=>eC ((i:Nat),([]:O gu)))++[eC (j,[])]:=by rw[List.range_succ,ax];rfl
theorem Mn(kd:Str)(n p j:Nat):(List.range (j+1)).map (λi=>eS (eW kd n i p))=(List.range j).map (λi=>eS (eW kd n i p))++[eS (eW kd n j p)]:=by rw[List.range_succ,ax];rfl
end My
namespace My
variable{l s0:List Int}
section
variable{A D:Type}[DecidableEq A]
noncomputable def ve(l:List (Nat×List A)):List A:=l.flatMap (·.2)
theorem yO{l:O (Nat×O A)}{h:A}:h∈ve l↔∃r∈l,h∈r.2:=List.mem_flatMap
theorem tO{b:Nat}:∀(l:List (Nat×List A)),(ve l).Perm (Yw l b++ve (Zg l b))
 |[]=>.refl _
 | (c,a)::r=>by
   unfold Yw Zg;by_cases e:c=b
   . rw[if_pos e,if_pos e];exact .refl _
   . rw[if_neg e,if_neg e];show(a++ve r).Perm (Yw r b++(a++ve (Zg r b)));refine((tO (b:=b) r).append_left a).trans ?_;rw[<-List.append_assoc,<-List.append_assoc];exact List.perm_append_comm.append_right _
theorem qK{b:Nat}{h:A}:∀(l:List (Nat×List A)),(ve (jv l b h)).Perm (h::ve l)
 |[]=>.refl _
 | (c,a)::r=>by
   unfold jv;by_cases e:c=b
   . rw[if_pos e];show(a++[h]++ve r).Perm (h::(a++ve r));rw[List.append_assoc];exact List.perm_middle
   . rw[if_neg e];show(a++ve (jv r b h)).Perm (h::(a++ve r));exact((qK r).append_left a).trans List.perm_middle
theorem tM{b:Nat}:∀{l:List (Nat×List A)},(l.map (·.1)).Nodup->((Zg l b).map (·.1)).Nodup/\∀r∈Zg l b,r∈l/\r.1≠b
 |[],_=>⟨List.nodup_nil,λ_ h=>nomatch h⟩
 | (c, n)::q,j=>by
   obtain⟨i,g⟩:=bz.mp j;unfold Zg;by_cases e:c=b
   . rw[if_pos e];exact⟨g,λr a=>⟨bq _ a,λz=>i (by show c∈_;rw[e,<-z];exact List.mem_map_of_mem (f:=(·.1)) a)⟩⟩
   . rw[if_neg e];obtain⟨m,d⟩:=tM (b:=b) g;refine⟨bz.mpr ⟨λz=>?_,m⟩,λr a=>?_⟩
     . obtain⟨r,a,f⟩:=bu.mp z;exact i (by show c∈_;have f:r.1=c:=f;rw[<-f];exact List.mem_map_of_mem (f:=(·.1)) (d r a).1)
     . rcases ag.mp a with z|z
       . rw[z];exact⟨bp,e⟩
       . exact⟨bq _ (d r z).1,(d r z).2⟩
theorem yN{b:Nat}{h:A}:∀{l:List (Nat×List A)},(l.map (·.1)).Nodup->((jv l b h).map (·.1)).Nodup/\(∀k∈(jv l b h).map (·.1),k=b\/k∈l.map (·.1))/\∀r∈jv l b h,∀x∈r.2,(x=h/\r.1=b)\/∃q∈l,q.1=r.1/\x∈q.2
 |[],_=>⟨by simp[jv],by simp[jv],by simp[jv]⟩
 | (c, s)::q,j=>by
   obtain⟨g,f⟩:=bz.mp j;unfold jv;by_cases e:c=b
   . rw[if_pos e];refine⟨bz.mpr ⟨g,f⟩,λk hk=>.inr hk,λr d x a=>?_⟩;rcases ag.mp d with z|z
     . rw[z]at a⊢;rcases ce.mp a with y|y
       . exact .inr ⟨_,bp,J,y⟩
       . exact .inl ⟨ak.mp y,e⟩
     . exact .inr ⟨_,bq _ z,J,a⟩
   . rw[if_neg e];obtain⟨n,i,m⟩:=yN (b:=b) (h:=h) f;refine⟨bz.mpr ⟨λz=>?_,n⟩,λk hk=>?_,λr d x a=>?_⟩
     . rcases i _ z with y|y
       . exact e y
       . exact g y
     . rcases ag.mp hk with z|z
       . exact .inr (by rw[z];exact bp)
       . exact(i k z).imp id (bq _)
     . rcases ag.mp d with z|z
       . rw[z]at a⊢;exact .inr ⟨_,bp,J,a⟩
       . exact(m r z x a).imp id λ⟨y,o,p⟩=>⟨y,bq _ o,p⟩
variable(M:dG A D)
inductive Lg(held:A->Nat->Bool)(d0:List (A×Nat))(s0:List Int):List A->List (A×Nat)->List Int->Prop|nil:Lg held d0 s0 [] d0 s0|snoc:∀{s:WS A}{h:A}{x:D},Lg held d0 s0 s.wov s.done s.sums->h∈zh s.done->Yl M s h=true->dW M s h=some x->held h (yb s.done h)=false->Lg held d0 s0 (s.wov++[h]) (Zo M s h) (aO s.sums (M.ra x))
structure WI(held:A->Nat->Bool)(d0:List (A×Nat))(s0:List Int)(s:WS A):Prop where
 one:(s.ready++(ve s.wait++s.stop)).Nodup
 key:(s.wait.map (·.1)).Nodup
 cov:∀h∈zh s.done,h∈s.ready\/h∈ve s.wait\/h∈s.stop\/dW M s h=none
 wt:∀r∈s.wait,∀h∈r.2,∃x m,dW M s h=some x/\M.aw x=some (r.1,m)/\¬m<=s.sums.getD r.1 0
 st:∀h∈s.stop,held h (yb s.done h)=true
 lg:Lg M held d0 s0 s.wov s.done s.sums
theorem GB{s:WS A}{h:A}{x:D}(a:dW M s h=some x)(m:¬Yl M s h=true):∃b k,M.aw x=some (b,k)/\¬k<=s.sums.getD b 0:=by unfold Yl at m;rw[a]at m;cases e:M.aw x with|none=>simp[e]at m|some q=>exact⟨q.1,q.2,J,by simpa[e]using m⟩
theorem Lc{r:Option (Nat×Int)}{b:Nat}(h:∀c k,r=some (c,k)->c≠b):(aO l r).getD b 0=l.getD b 0:=by cases r with|none=>rfl|some p=>simp[aO,c7,List.getElem?_set_ne (h p.1 p.2 J)]
theorem WI.stopped{held:A->Nat->Bool}{d:O (A×Nat)}{s:WS A}(W:WI M held d s0 s){r:O A}{h:A}(b:s.ready=r++[h])(hh:held h (yb s.done h)=true):WI M held d s0 {s with ready:=r,stop:=s.stop++[h]}:=by
 refine⟨?_,W.key,λx a=>?_,W.wt,λx a=>?_,W.lg⟩
 . have o:=W.one;rw[b]at o;refine(List.Perm.nodup_iff ?_).mp o;show(r++[h]++(ve s.wait++s.stop)).Perm (r++(ve s.wait++(s.stop++[h])));rw[List.append_assoc,<-List.append_assoc (ve s.wait)];exact List.perm_append_comm.append_left r
 . rcases W.cov x a with c|c|c|c
   . rw[b]at c;rcases ce.mp c with y|y
     . exact .inl y
     . exact .inr (.inr (.inl (cu _ y)))
   . exact .inr (.inl c)
   . exact .inr (.inr (.inl (dk _ c)))
   . exact .inr (.inr (.inr c))
 . rcases ce.mp a with y|y
   . exact W.st x y
   . rw[ak.mp y];exact hh
theorem WI.turn {held:A->Nat->Bool} {S:List (A×Nat)} {s:WS A} (L:∀h p,M.bg h p=none) (W:WI M held S s0 s) {r:List A} {h:A} (l:s.ready=r++[h]) (hk:h∈zh s.done):WI M held S s0 (q8 M held {s with ready:=r} h):=by
 have o:=W.one;rw[l]at o;have K:(h::(r++(ve s.wait++s.stop))).Nodup:=(List.Perm.nodup_iff (by rw[List.append_assoc];exact List.perm_middle)).mp o;obtain⟨hn,E⟩:=bz.mp K;have Z:h ∉ ve s.wait:=λz=>hn (cu _ (dk _ z));have ns:h ∉ s.stop:=λz=>hn (cu _ (cu _ z));unfold q8;cases e:dW M {s with ready:=r} h with
 | none=>
   by_cases c:held h (yb s.done h)=true
   . simp only[c,if_true];exact W.stopped M l c
   . simp only[c,if_false,Bool.false_eq_true];refine⟨E,W.key,λx a=>?_,W.wt,W.st,W.lg⟩;rcases W.cov x a with c|c
     . rw[l]at c;rcases ce.mp c with y|y
       . exact .inl y
       . rw[ak.mp y];exact .inr (.inr (.inr e))
     . exact .inr c
 | some d =>
   have R:dW M s h=some d:=e;by_cases c:held h (yb s.done h)=true
   . simp only[c,if_true];exact W.stopped M l c
   . simp only[c,if_false,Bool.false_eq_true];by_cases m:Yl M {s with ready:=r} h=true
     . simp only[m,if_true];have G:Zo M {s with ready:=r} h=vm s.done h (yb s.done h+1):=by unfold Zo;rw[L];rfl
       have P:∀x,x≠h->yb (vm s.done h (yb s.done h+1)) x=yb s.done x:=λx a=>by rw[ke,if_neg (λz=>a z.symm)]
       have N:∀x,x≠h->dW M (Z5 M {s with ready:=r} h d) x=dW M s x:=λx a=>by unfold dW Z5;rw[G];show(M.scr x)[yb (vm s.done h _) x]?=_;rw[P x a]
       have X:∀x,x∈kh {s with ready:=r} (M.ra d)++ve (qm {s with ready:=r} (M.ra d))↔x∈ve s.wait:=λx=>by
        cases q:M.ra d with
        |none=>exact ce.trans ⟨λz=>z.elim (λy=>nomatch y) id,.inr⟩
        |some p=>exact(tO s.wait).mem_iff.symm
       refine⟨?_,?_,λx a=>?_,λq f x a=>?_,λx a=>?_,Lg.snoc W.lg hk m e (Bool.eq_false_iff.mpr c)⟩
       . refine(List.Perm.nodup_iff ?_).mp o;have D:(kh {s with ready:=r} (M.ra d)++ve (qm {s with ready:=r} (M.ra d))).Perm (ve s.wait):=by
          cases q:M.ra d with
          |none=>exact .refl _
          |some p=>exact(tO s.wait).symm
         show(r++[h]++(ve s.wait++s.stop)).Perm (r++kh {s with ready:=r} (M.ra d)++[h]++(M.bg h (yb s.done h)).toList++(ve (qm {s with ready:=r} (M.ra d))++s.stop));rw[L];show(r++[h]++(ve s.wait++s.stop)).Perm (r++kh {s with ready:=r} (M.ra d)++[h]++[]++(ve (qm {s with ready:=r} (M.ra d))++s.stop));rw[cp];generalize kh {s with ready:=r} (M.ra d)=u at D⊢;generalize ve (qm {s with ready:=r} (M.ra d))=v at D⊢;simp only[List.append_assoc];refine List.Perm.append_left r ?_;refine((D.symm.append_right s.stop).append_left [h]).trans ?_;simp only[List.append_assoc];rw[<-List.append_assoc [h] u,<-List.append_assoc u [h]];exact List.perm_append_comm.append_right _
       . cases q:M.ra d with
         |none=>simpa[Z5,qm,q]using W.key
         |some p=>simpa[Z5,qm,q]using(tM (b:=p.1) W.key).1
       . have F:x∈zh s.done:=by have:x∈zh (Zo M {s with ready:=r} h):=a;rw[G,Zz hk]at this;exact this
         by_cases g:x=h
         . refine .inl ?_;show x∈r++kh _ _++[h]++_;rw[g];exact dk _ (cu _ bp)
         . rcases W.cov x F with y|y|y|y
           . rw[l]at y;rcases ce.mp y with z|z
             . exact .inl (dk _ (dk _ (dk _ z)))
             . exact absurd (ak.mp z) g
           . rcases ce.mp ((X x).mpr y)with z|z
             . exact .inl (dk _ (dk _ (cu _ z)))
             . exact .inr (.inl z)
           . exact .inr (.inr (.inl y))
           . exact .inr (.inr (.inr ((N x g).trans y)))
       . have i:q∈s.wait/\∀c k,M.ra d=some (c,k)->c≠q.1:=by
          have f:q∈qm {s with ready:=r} (M.ra d):=f;cases z:M.ra d with
          |none=>rw[z]at f;exact⟨f,λc k y=>nomatch y⟩
          | some p=>rw[z]at f;obtain⟨a1,a2⟩:=(tM (b:=p.1) W.key).2 q f;exact⟨a1,λc k y=>by cases y;exact λw=>a2 w.symm⟩
         obtain⟨y,k,C,t,n⟩:=W.wt q i.1 x a;have g:x≠h:=λz=>Z (yO.mpr ⟨q,i.1,z▸a⟩);refine⟨y,k,(N x g).trans C,t,?_⟩;show¬k<=(aO s.sums (M.ra d)).getD q.1 0;rw[Lc i.2];exact n
       . have g:x≠h:=λz=>ns (z▸a);show held x (yb (Zo M _ h) x)=true;rw[G,P x g];exact W.st x a
     . simp only[m,if_false,Bool.false_eq_true];obtain⟨b,k,Q,e2⟩:=GB M R m;simp only[Q];obtain⟨k1,k2,k3⟩:=yN (b:=b) (h:=h) W.key;refine⟨?_,k1,λx a=>?_,λq f x a=>?_,W.st,W.lg⟩
       . refine(List.Perm.nodup_iff ?_).mp K;show(h::(r++(ve s.wait++s.stop))).Perm (r++(ve (jv s.wait b h)++s.stop));refine List.perm_middle.symm.trans (List.Perm.append_left r ?_);exact((qK s.wait).symm.append_right s.stop)
       . rcases W.cov x a with y|y|y
         . rw[l]at y;rcases ce.mp y with z|z
           . exact .inl z
           . exact .inr (.inl ((qK s.wait).mem_iff.mpr (by rw[ak.mp z];exact bp)))
         . exact .inr (.inl ((qK s.wait).mem_iff.mpr (bq _ y)))
         . exact .inr (.inr y)
       . rcases k3 q f x a with⟨rfl,z⟩|⟨p,hp,H,U⟩
         . exact⟨d,k,R,by rw[z];exact Q,by rw[z];exact e2⟩
         . obtain⟨y,j,C,t,n⟩:=W.wt p hp x U;exact⟨y,j,C,by rw[<-H];exact t,by rw[<-H];exact n⟩
theorem WI.fin{held:A->Nat->Bool}{g:O (A×Nat)}{s:WS A}(W:WI M held g s0 s)(e:s.ready=[]){h:A}(hk:h∈zh s.done):held h (yb s.done h)=true\/Yl M s h=false:=by
 rcases W.cov h hk with y|y|y|y
 . rw[e]at y;nomatch y
 . obtain⟨r,b,a⟩:=yO.mp y;obtain⟨x,m,f,d,c⟩:=W.wt r b h a;refine .inr ?_;unfold Yl;rw[f];simp only[d];exact c6 c
 . exact .inl (W.st h y)
 . refine .inr ?_;unfold Yl;rw[y]
end
end My
namespace My
variable{s0:List Int}
section
variable{A D:Type}[DecidableEq A]{M:dG A D}{held:A->Nat->Bool}{d0:List (A×Nat)}
end
end My
namespace My
variable{F s:List Nat}{hh hp:Nat}{hl:Nat->Nat->Bool}
inductive Cd|r (b k:Nat)|a (b m:Nat)|o
deriving DecidableEq
noncomputable def pd(b:Nat):Cd->Nat|.r c k=>if c=b then k else 0|_=>0
noncomputable def gg(b:Nat)(l:List Cd):Nat:=(l.map (pd b)).sum
noncomputable def eR:List (List Cd)->(Nat->Nat)->Nat->Nat|[],_,_=>0|l::S,c,b=>gg b (l.take (c 0))+eR S (λi=>c (i+1)) b
noncomputable def Xx(c:Nat->Nat)(i:Nat):Nat->Nat:=λx=>if x=i then c x+1 else c x
noncomputable def lm(G:Nat->Nat):Cd->Bool|.a b m=>decide (m<=G b)|_=>true
noncomputable def Qa(S:List (List Cd))(hl:Nat->Nat->Bool)(c:Nat->Nat)(i:Nat):Bool:=match(S.getD i [])[c i]? with|none=>false|some d=> !hl i (c i) && lm (eR S c) d
inductive Rc(S:List (List Cd))(hl:Nat->Nat->Bool):(Nat->Nat)->Prop|zero:Rc S hl λ_=>0|step:∀{c i},Rc S hl c->i<S.length->Qa S hl c i=true->Rc S hl (Xx c i)
theorem AL{b:Nat}:∀{l:List Cd}{p q:Nat},p<=q->gg b (l.take p)<=gg b (l.take q)|[],_,_,_=>by simp|d::l,0,q,_=>by simp[gg]|d::l,p+1,0,h=>by omega| d::l,p+1,q+1,h=>by have:=AL (b:=b) (l:=l) (Nat.le_of_succ_le_succ h);simp only[gg,List.take_succ_cons,c4,List.sum_cons]at this⊢;omega
theorem xX{b:Nat}:∀{S:List (List Cd)}{c e:Nat->Nat},(∀i,i<S.length->c i<=e i)->eR S c b<=eR S e b|[],_,_,_=>ae _|l::S,c,e,h=>Nat.add_le_add (AL (h 0 (Nat.succ_pos _))) (xX λi a=>h (i+1) (Nat.succ_lt_succ a))
theorem wB{S:List (List Cd)}{F c:Nat->Nat}(l:∀i,i<S.length->Qa S hl F i=false)(R:Rc S hl c):∀i,i<S.length->c i<=F i:=by
 induction R with|zero=>exact λi _=>be _| step R n a f=>
   rename_i c j
   intro x g;unfold Xx;by_cases e:x=j
   . subst e;rw[if_pos J];rcases Nat.lt_or_ge (c x) (F x)with z|z
     . exact z
     . have q:c x=F x:=Nat.le_antisymm (f x g) z;have:=l x g;unfold Qa at this a;rw[<-q]at this;cases h:(S.getD x [])[c x]? with|none=>rw[h]at a;cases a| some d=>simp only[h]at this a;rw[cg]at a;rw[a.1,Bool.true_and]at this;cases d with| a b m=>have p:=cm a.2;have o:=of_decide_eq_false this;have:=xX (b:=b) f;omega|r b k=>cases this|o=>cases this
   . rw[if_neg e];exact f x g
theorem Do{S:O (O Cd)}{F c:Nat->Nat}(R:Rc S hl F)(d:∀i,i<S.length->Qa S hl F i=false)(e:Rc S hl c)(a:∀i,i<S.length->Qa S hl c i=false):∀i,i<S.length->c i=F i:=λi b=>Nat.le_antisymm (wB d e i b) (wB a R i b)
noncomputable def Jk:List Nat->Nat->Nat->List Nat|[],_,_=>[]|x::r,0,k=>(x+k)::r|x::r,b+1,k=>x::Jk r b k
noncomputable def jD(st:Nat):List Cd->Nat->List Nat->(Nat×List Cd)×List Nat|[],p,s=>((p,[]),s)| d::l,p,s=>if p=st then((p,d::l),s)else match d with|.o=>jD st l (p+1) s|.r b k=>jD st l (p+1) (Jk s b k)|.a b m=>if m<=s.getD b 0 then jD st l (p+1) s else((p,d::l),s)
noncomputable def kC(hh hp:Nat):Nat->List (Nat×List Cd)->List Nat->List (Nat×List Cd)×List Nat|_,[],s=>([],s)| i,(p,l)::r,s=>match jD (if i=hh then hp else 1000) l p s with| (x,s)=>match kC hh hp (i+1) r s with|(y,s)=>(x::y,s)
noncomputable def lu(hh hp:Nat):Nat->List (Nat×List Cd)->List Nat->List (Nat×List Cd)×List Nat|0,x,s=>(x,s)| f+1,x,s=>match kC hh hp 0 x s with|(y,t)=>if y.map (·.1)=x.map (·.1)then(y,t)else lu hh hp f y t
noncomputable def Ck(st:Nat)(s:List Nat)(p:Nat):List Cd->Bool|[]=>true|d::_=>decide (p=st) || !(lm (λb=>s.getD b 0) d)
noncomputable def nG(hh hp:Nat)(s:List Nat):Nat->List (Nat×List Cd)->Bool|_,[]=>true|i,(p,l)::r=>Ck (if i=hh then hp else 1000) s p l && nG hh hp s (i+1) r
noncomputable def fin(S:List (List Cd))(b hh hp:Nat):Option (List Nat):=match lu hh hp 60 (S.map λl=>(0,l)) (List.replicate b 0)with|(x,s)=>if nG hh hp s 0 x then some (x.map (·.1))else none
noncomputable def iH(hh hp i p:Nat):Bool:=decide (i=hh) && decide (p=hp)
theorem wF{i p:Nat}(h:p<1000):iH hh hp i p=decide (p=if i=hh then hp else 1000):=by
 unfold iH;by_cases e:i=hh
 . simp[e]
 . have:¬p=1000:=by omega
   simp[e,this]
structure fQ(S:List (List Cd))(nb hh hp:Nat)(c:Nat->Nat)(s:List Nat):Prop where
 rc:Rc S (iH hh hp) c
 lv:∀b,b<nb->s.getD b 0=eR S c b
 len:s.length=nb
theorem Bs{k:Nat}:∀{s:List Nat}{b:Nat},(Jk s b k).length=s.length|[],_=>rfl|x::r,0=>rfl|x::r,b+1=>congrArg (· +1) (Bs (s:=r) (b:=b))
theorem Br{k c:Nat}:∀{s:List Nat}{b:Nat},b<s.length->(Jk s b k).getD c 0=s.getD c 0+if b=c then k else 0|[],_,h=>nomatch h|x::r,0,_=>by cases c<;>simp[Jk,List.getD]| x ::r,b+1,h=>by cases c with|zero=>simp[Jk,List.getD]| succ c=>have:=Br (k:=k) (c:=c) (s:=r) (b:=b) (Nat.lt_of_succ_lt_succ h);simp only[Jk,List.getD_cons_succ]at this⊢;rw[this];simp
theorem K9{b:Nat}:∀{S:List (List Cd)}{c:Nat->Nat}{i:Nat}{d:Cd},(S.getD i [])[c i]?=some d->eR S (Xx c i) b=eR S c b+pd b d
 |[],_,_,_,h=>by simp at h
 | l::S,c,0,d,h=>by have h:l[c 0]?=some d:=h;show gg b (l.take (c 0+1))+eR S (λi=>Xx c 0 (i+1)) b=gg b (l.take (c 0))+eR S (λi=>c (i+1)) b+pd b d;have e:(λi=>Xx c 0 (i+1))=λi=>c (i+1):=funext λi=>if_neg (Nat.succ_ne_zero i);rw[e,cq,h];simp[gg,List.sum_append];omega
 | l::S,c,i+1,d,h=>by
   have h:(S.getD i [])[c (i+1)]?=some d:=h;have q:=K9 (b:=b) (c:=λi=>c (i+1)) h;have e:(λj=>Xx c (i+1) (j+1))=Xx (λi=>c (i+1)) i:=funext λj=>by unfold Xx;simp
   show gg b (l.take (Xx c (i+1) 0))+eR S (λj=>Xx c (i+1) (j+1)) b=_;rw[e,q];show gg b (l.take (if 0=i+1 then _ else c 0))+_=gg b (l.take (c 0))+eR S (λi=>c (i+1)) b+pd b d;rw[if_neg (Nat.succ_ne_zero i).symm];omega
def MQ(G:Nat):Cd->Prop|.r b _=>b<G|.a b _=>b<G|.o=>True
structure mE(S:List (List Cd))(nb:Nat):Prop where
 ok:∀l∈S,∀d∈l,MQ nb d
 few:∀l∈S,l.length<=1000
theorem fQ.next{S:List (List Cd)}{f i:Nat}{c:Nat->Nat}{d:Cd}(m:fQ S f hh hp c s)(O:mE S f)(g:i<S.length)(a:(S.getD i [])[c i]?=some d)(hs:¬c i=if i=hh then hp else 1000)(o:lm (λb=>s.getD b 0) d=true):fQ S f hh hp (Xx c i) (match d with|.r b k=>Jk s b k|_=>s):=by
 have n:S.getD i []∈S:=by rw[c7,bo g];exact List.getElem_mem g
 have l:=O.ok _ n d (bv a);have h:c i<1000:=c8 (ci.mp a).1 (O.few _ n);have j:Qa S (iH hh hp) c i=true:=by unfold Qa;rw[a];simp only[wF h,c6 hs,Bool.not_false,Bool.true_and];cases d with| a b k=>have e:=m.lv b l;show decide (k<=eR S c b)=true;rw[<-e];exact o|_=>rfl
 refine⟨.step m.rc g j,λb p=>?_,?_⟩
 . rw[K9 a,<-m.lv b p];cases d with| r x k=>rw[Br (by rw[m.len];exact l)];rfl|_=>rfl
 . cases d with|r x k=>rw[Bs];exact m.len|_=>exact m.len
theorem zT{S:List (List Cd)}{g hh hp i:Nat}(O:mE S g)(o:i<S.length):∀{l:List Cd}{c:Nat->Nat}{s:List Nat},fQ S g hh hp c s->l=(S.getD i []).drop (c i)->∃a,fQ S g hh hp a (jD (if i=hh then hp else 1000) l (c i) s).2/\(∀j,j≠i->a j=c j)/\(jD (if i=hh then hp else 1000) l (c i) s).1=(a i,(S.getD i []).drop (a i))
 |[],c,s,m,e=>⟨c,m,λ_ _=>rfl,by unfold jD;rw[<-e]⟩
 | d ::l,c,s,m,e=>by
   have p:(S.getD i [])[c i]?=some d:=by have:=congrArg (·[0]?) e;simpa using this.symm
   have y:l=(S.getD i []).drop (c i+1):=by have:=congrArg (List.drop 1) e;simpa[List.drop_drop,Nat.add_comm]using this
   have f:∃a,fQ S g hh hp a s/\(∀j,j≠i->a j=c j)/\(c i,d::l)=(a i,(S.getD i []).drop (a i)):=⟨c,m,λ_ _=>rfl,by rw[e]⟩
   have v:Xx c i i=c i+1:=if_pos J;have go:∀{n},fQ S g hh hp (Xx c i) n->∃a,fQ S g hh hp a (jD (if i=hh then hp else 1000) l (c i+1) n).2/\(∀j,j≠i->a j=c j)/\(jD (if i=hh then hp else 1000) l (c i+1) n).1=(a i,(S.getD i []).drop (a i)):=λ{n} w=>by obtain⟨a,u,x,t⟩:=zT (l:=l) (c:=Xx c i) (s:=n) O o w (by rw[v];exact y);rw[v]at u t;exact⟨a,u,λj r=>(x j r).trans (if_neg r),t⟩
   unfold jD;by_cases h:c i=if i=hh then hp else 1000
   . rw[if_pos h];exact f
   . rw[if_neg h];cases d with
     |o=>exact go (m.next O o p h J)
     |r b k=>exact go (m.next O o p h J)
     | a b k=>
       show∃a,fQ S g hh hp a (if k<=s.getD b 0 then _ else _:(Nat×List Cd)×List Nat).2/\_/\(if k<=s.getD b 0 then _ else _:(Nat×List Cd)×List Nat).1=_;by_cases q:k<=s.getD b 0
       . rw[if_pos q];exact go (m.next O o p h (bj q))
       . rw[if_neg q];exact f
def j9(S:List (List Cd))(c:Nat->Nat):Nat->List (Nat×List Cd)->Prop|i,[]=>i=S.length|i,x::r=>i<S.length/\x=(c i,(S.getD i []).drop (c i))/\j9 S c (i+1) r
theorem j9.of{S:List (List Cd)}{c e:Nat->Nat}:∀{r:List (Nat×List Cd)}{i:Nat},(∀j,i<=j->e j=c j)->j9 S c i r->j9 S e i r|[],_,_,h=>h|x::r,i,k,⟨d,b,a⟩=>⟨d,by rw[k i (ae _)];exact b,j9.of (λj f=>k j (by omega)) a⟩
theorem AW{S:List (List Cd)}{a hh hp:Nat}(O:mE S a):∀{r:List (Nat×List Cd)}{i:Nat}{c:Nat->Nat}{s:List Nat},fQ S a hh hp c s->j9 S c i r->∃b,fQ S a hh hp b (kC hh hp i r s).2/\j9 S b i (kC hh hp i r s).1/\∀j,j<i->b j=c j|[],i,c,s,m,h=>⟨c,m,h,λ_ _=>rfl⟩| (p,l)::r,i,c,s,m,⟨f,u,t⟩=>by cases u;obtain⟨x,o,e,v⟩:=zT O f m J;obtain⟨w,n,g,d⟩:=AW (i:=i+1) O o (j9.of (λj q=>e j (by omega)) t);refine⟨w,n,⟨f,?_,g⟩,λj q=>(d j (by omega)).trans (e j (by omega))⟩;rw[d i (by omega)];exact v
theorem AX{S:List (List Cd)}{a hh hp:Nat}(O:mE S a):∀{f:Nat}{r:List (Nat×List Cd)}{c:Nat->Nat}{s:List Nat},fQ S a hh hp c s->j9 S c 0 r->∃g,fQ S a hh hp g (lu hh hp f r s).2/\j9 S g 0 (lu hh hp f r s).1
 |0,r,c,s,m,h=>⟨c,m,h⟩
 | f+1,r,c,s,m,h=>by
   obtain⟨i,d,b,_⟩:=AW O m h;have e:lu hh hp (f+1) r s=if(kC hh hp 0 r s).1.map (·.1)=r.map (·.1)then kC hh hp 0 r s else lu hh hp f (kC hh hp 0 r s).1 (kC hh hp 0 r s).2:=rfl
   rw[e];split
   . exact⟨i,d,b⟩
   . exact AX O d b
theorem wW {S:List (List Cd)} {o hh hp:Nat} {c:Nat->Nat} {s:List Nat} (O:mE S o) (m:fQ S o hh hp c s):∀{r:List (Nat×List Cd)} {i:Nat},j9 S c i r->nG hh hp s i r=true->∀j,i<=j->j<S.length->Qa S (iH hh hp) c j=false
 |[],i,h,_,j,n,l=>absurd l (by have h:i=S.length:=h;omega)
 | x :: r,i,⟨n,l,u⟩,b,j,w,t=>by
   cases l;unfold nG at b;rw[cg]at b;by_cases e:i=j
   . subst e;have b:=b.1;unfold Qa;cases f:(S.getD i [])[c i]? with
     |none=>rfl
     | some d=>
       have p:S.getD i []∈S:=by rw[c7,bo n];exact List.getElem_mem n
       have q:=O.ok _ p d (bv f);have a:=(ci.mp f).1;have g:c i<1000:=c8 a (O.few _ p);have v:(S.getD i []).drop (c i)=d::(S.getD i []).drop (c i+1):=by rw[List.drop_eq_getElem_cons a];rw[bo a]at f;rw[Option.some.inj f]
       rw[v]at b;simp only[Ck,Bool.or_eq_true,decide_eq_true_eq]at b;simp only[wF g];rcases b with b|b
       . rw[bj b];rfl
       . have:lm (eR S c) d=false:=by
          cases d with
          | a x k=>have e:=m.lv x q;have b:(!decide (k<=s.getD x 0))=true:=b;show decide (k<=eR S c x)=false;rw[<-e];simpa using b
          |_=>simp[lm]at b
         rw[this,Bool.and_false]
   . exact wW O m u b.2 j (by omega) t
theorem wK{S:List (List Cd)}:∀{T:List (List Cd)}{i:Nat},S.drop i=T->i<=S.length->j9 S (λ_=>0) i (T.map λl=>(0,l))
 | [],i,h,b=>by have:=congrArg List.length h;rw[List.length_drop]at this;show i=S.length;simp at this;omega
 | l::T,i,h,b=>by
   have a:i<S.length:=by have:=congrArg List.length h;rw[List.length_drop]at this;simp at this;omega
   rw[List.drop_eq_getElem_cons a]at h;injection h with d c;refine⟨a,?_,wK c a⟩;rw[c7,bo a,<-d];rfl
theorem K8{b:Nat}:∀(S:List (List Cd)),eR S (λ_=>0) b=0|[]=>rfl| l::S=>by unfold eR;rw[K8 S];simp[gg]
theorem AY{S:List (List Cd)}{c:Nat->Nat}:∀{r:List (Nat×List Cd)}{i:Nat},j9 S c i r->∀j,i+j<S.length->(r.map (·.1)).getD j 0=c (i+j)|[],i,h,j,a=>absurd a (by have h:i=S.length:=h;omega)|x::r,i,⟨e,d,b⟩,0,_=>by rw[d];rfl| x::r,i,⟨e,d,b⟩,j+1,a=>by have:=AY b j (by omega);show(r.map (·.1)).getD j 0=_;rw[this];congr 1;omega
theorem wY{S:List (List Cd)}{a:Nat}(O:mE S a)(e:fin S a hh hp=some F){c:Nat->Nat}(R:Rc S (iH hh hp) c)(n:∀i,i<S.length->Qa S (iH hh hp) c i=false):∀i,i<S.length->c i=F.getD i 0:=by
 obtain⟨o,f,d⟩:=AX (f:=60) (hh:=hh) (hp:=hp) O (s:=List.replicate a 0) ⟨.zero,λb m=>by rw[K8];simp[List.getD,m],fc⟩ (wK (S:=S) (T:=S) (i:=0) J (be _));unfold fin at e
 revert e
 generalize lu hh hp 60 (S.map λl=>(0,l)) (List.replicate a 0)=q at f d;intro e;have e:(if nG hh hp q.2 0 q.1 then some (q.1.map (·.1))else none)=some F:=e;split at e
 . rename_i b
   cases e;intro i h;rw[Do f.rc (λj g=>wW O f d b j (be _) g) R n i h];have:=AY d i (by omega);rw[Nat.zero_add]at this;exact this.symm
 . cases e
end My
namespace My
open PySem PySem.Spec PyProof.Rows L2
variable{C a cD cP cR:Addr}{osl:Array (Option Value)}{X:Cx}{dL Cc:FuncData}{base h:Heap}{H1:Hp}{b:Int}{kvs:List (aJ×V)}{es:List Expr}{ns s:List Int}{F L cs:List Nat}{ps xs:List Str}{r:List V}{i j m o p q:Nat}{hl lk:Nat->Nat->Bool}{an od:Option Addr}{aD:Pos}{P:Program}{st:Stmt}{kd x:Str}{mg:Str->Option Value}{v:V}{oc:Value}{w:World}
structure Flat(hs:aB):Prop where
 law:dA hs
 pl:∀s∈hs.ss,∀d∈s,jY hs.b d
noncomputable def fm:aI->Cd|.rai b k=>.r b.toNat k.toNat|.awa b m=>.a b.toNat m.toNat|_=>.o
noncomputable def hV(hs:aB)(i:Nat):yz:=hs.ss.getD (hs.fs.getD i (0,[])).1 []
noncomputable def cS(hs:aB):List (List Cd):=(List.range hs.fs.length).map λi=>(hV hs i).map fm
section
variable{hs:aB}
theorem Flat.plS(F:Flat hs)(j:Nat):∀d∈hs.ss.getD j [],jY hs.b d:=λd a=>by rw[c7]at a;cases e:hs.ss[j]? with|none=>rw[e]at a;cases a|some s=>rw[e]at a;exact F.pl s (bv e) d a
theorem Flat.plan(F:Flat hs):My.plan hs=(hs.fs.map (·.1)).zipIdx.map λq=>([q.2],q.1):=rfl
theorem Flat.keys(F:Flat hs):zh (My.plan hs)=(List.range hs.fs.length).map λi=>[i]:=by
 have:=Qs (hs.fs.map (·.1))
 rwa[aa]at this
theorem Flat.mem(F:Flat hs){h:O Nat}:h∈zh (My.plan hs)↔∃i,i<hs.fs.length/\h=[i]:=by rw[F.keys];simp[eq_comm]
theorem Flat.scr(F:Flat hs){i:Nat}(a:i<hs.fs.length):(mM hs).scr [i]=hV hs i:=by
 have b:([i],(hs.fs.getD i (0,[])).1)∈My.plan hs:=by rw[F.plan];refine bu.mpr ⟨((hs.fs.getD i (0,[])).1,i),?_,J⟩;rw[List.mem_zipIdx_iff_getElem?];simp[c7,bo a]
 show(if[i]∈zh (My.plan hs)then hs.ss.getD (yb (My.plan hs) [i]) []else[])=_;rw[if_pos (F.mem.mpr ⟨i,a,J⟩),zU (ka hs) b];rfl
theorem Flat.bg(F:Flat hs)(h:O Nat)(p:Nat):(mM hs).bg h p=none:=rfl
theorem Flat.fst(F:Flat hs):Yp (My.plan hs)=zh (My.plan hs):=rfl
theorem JF(l:O (O Nat)):zh (xj l)=l:=by unfold zh xj;rw[bn];exact List.map_id _
theorem IC(l:List (List Nat))(h:List Nat):yb (xj l) h=0:=by induction l with|nil=>rfl| cons x l a=>show(if x=h then 0 else yb (xj l) h)=0;rw[a];split<;>rfl
theorem qF(F:Flat hs)(held:List ((List Int×Int)×V)):∀n,WI (mM hs) (vx held) (xj (Yp (My.plan hs))) (jf hs) (yd hs held n)/\Wv (mM hs) (zh (My.plan hs)) (yd hs held n)
 | 0=>by have W:=Xf F.law.pl;refine⟨⟨?_,List.nodup_nil,λh a=>.inl a,(λr b=>by cases b),(λh a=>by cases a),Lg.nil⟩,W⟩;show(zh (xj (Yp (My.plan hs)))++([]++[])).Nodup;rw[cp,cp];exact W.nd
 | n +1=>by
   obtain⟨I,W⟩:=qF F held n;show WI _ _ _ _ (Xy _ _ (yd hs held n))/\Wv _ _ (Xy _ _ (yd hs held n));rcases List.eq_nil_or_concat (yd hs held n).ready with e|⟨r,h,e⟩
   . have:Xy (mM hs) (vx held) (yd hs held n)=yd hs held n:=by unfold Xy;rw[e];rfl
     rw[this];exact⟨I,W⟩
   . rw[List.concat_eq_append]at e;rw[A9 e];exact⟨I.turn _ F.bg e (W.rdy h (by rw[e];simp)),(Wv.turn (B5 hs F.law.pl) W e).1⟩
theorem pZ:(cS hs).length=hs.fs.length:=by unfold cS;rw[aa,da]
theorem so(a:i<hs.fs.length):(cS hs).getD i []=(hV hs i).map fm:=by unfold cS;rw[c7,au,List.getElem?_range a];rfl
theorem wD(F:Flat hs):mE (cS hs) hs.b.toNat:=by
 refine⟨λl a d h=>?_,λl a=>?_⟩
 . obtain⟨i,_,rfl⟩:=bu.mp a;obtain⟨x,g,rfl⟩:=bu.mp h;have:=F.plS _ x g;cases x with| rai b k=>obtain⟨f,c,_⟩:=this;show b.toNat<hs.b.toNat;omega| awa b k=>obtain⟨f,c,_⟩:=this;show b.toNat<hs.b.toNat;omega|_=>trivial
 . obtain⟨i,_,rfl⟩:=bu.mp a;rw[aa];unfold hV;rw[c7];cases e:hs.ss[(hs.fs.getD i (0,[])).1]? with|none=>simp| some s=>have:=F.law.pl.nw.len s (bv e);exact this
theorem Jy(F:Flat hs){held:List Nat->Nat->Bool}(hh:∀i p,i<hs.fs.length->held [i] p=hl i p){y:List (List Nat)}{d:List (List Nat×Nat)}(L:Lg (mM hs) held (xj (Yp (My.plan hs))) (jf hs) y d s):zh d=zh (My.plan hs)/\s.length=hs.b.toNat/\Rc (cS hs) hl (λi=>yb d [i])/\∀b,b<hs.b.toNat->s.getD b 0=(eR (cS hs) (λi=>yb d [i]) b:Int):=by
 induction L with
 | nil=>
   have e:(λi=>yb (xj (Yp (My.plan hs))) [i])=λ_=>0:=funext λi=>IC _ _;refine⟨by rw[JF,F.fst],fc,?_,λb o=>?_⟩
   . rw[e];exact .zero
   . rw[e,K8];unfold jf;simp[c7,o]
 | snoc L hk f hn M G=>
   rename_i s h x
   obtain⟨n,K,H,t⟩:=G;rw[n]at hk;obtain⟨i,l,rfl⟩:=F.mem.mp hk;have v:Zo (mM hs) s [i]=vm s.done [i] (yb s.done [i]+1):=by unfold Zo;rw[F.bg];rfl
   have w:(λj=>yb (Zo (mM hs) s [i]) [j])=Xx (λj=>yb s.done [j]) i:=funext λj=>by
    rw[v,ke];unfold Xx;by_cases c:j=i
    . rw[if_pos c,c,if_pos J]
    . rw[if_neg c,if_neg (λz=>c (by injection z with z;exact z.symm))]
   have u:(hV hs i)[yb s.done [i]]?=some x:=by have:((mM hs).scr [i])[yb s.done [i]]?=some x:=hn;rw[F.scr l]at this;exact this
   have g:((cS hs).getD i [])[(λj=>yb s.done [j]) i]?=some (fm x):=by rw[so l,au];show Option.map fm ((hV hs i)[yb s.done [i]]?)=_;rw[u];rfl
   have r:=F.plS _ x (bv u);have q:Qa (cS hs) hl (λj=>yb s.done [j]) i=true:=by
    unfold Qa;rw[g];show(!hl i (yb s.done [i]) && lm _ (fm x))=true;rw[<-hh i _ l,M];cases x with
    | awa b m=>obtain⟨E,D,C,A⟩:=r;unfold Yl at f;rw[hn]at f;have f:decide (m<=s.sums.getD b.toNat 0)=true:=f;have f:=cm f;rw[t b.toNat (by omega)]at f;show decide (m.toNat<=_)=true;exact bj (by omega)
    |_=>rfl
   refine⟨?_,?_,?_,λb o=>?_⟩
   . rw[v,Zz (by rw[n];exact hk),n]
   . rw[Ky];exact K
   . rw[w];exact .step H (by rw[pZ];exact l) q
   . rw[w,K9 g];have a:=t b o;show(aO s.sums (dB x)).getD b 0=_;cases x with
     | rai c k=>
       obtain⟨E,D,C,A⟩:=r;show(s.sums.set c.toNat (s.sums.getD c.toNat 0+k)).getD b 0=((_+if c.toNat=b then k.toNat else 0:Nat):Int);rw[c7,List.getElem?_set];by_cases e:c.toNat=b
       . rw[if_pos e,if_pos (by omega),if_pos e];rw[e,a];simp;omega
       . rw[if_neg e,if_neg e,Nat.add_zero,<-a,c7]
     |_=>exact a.trans (by simp[fm,pd])
theorem Az(F:Flat hs){held:List Nat->Nat->Bool}(hh:∀i p,i<hs.fs.length->held [i] p=hl i p){st:WS (List Nat)}(W:WI (mM hs) held (xj (Yp (My.plan hs))) (jf hs) st)(e:st.ready=[]):∀i,i<(cS hs).length->Qa (cS hs) hl (λi=>yb st.done [i]) i=false:=λi a=>by
 rw[pZ]at a;obtain⟨l,t,s,g⟩:=Jy F hh W.lg;have:=W.fin _ e (h:=[i]) (by rw[l];exact F.mem.mpr ⟨i,a,J⟩);unfold Qa;cases c:(hV hs i)[yb st.done [i]]? with
 | none=>
   have:((cS hs).getD i [])[(λj=>yb st.done [j]) i]?=none:=by rw[so a,au];show Option.map fm ((hV hs i)[yb st.done [i]]?)=_;rw[c];rfl
   rw[this]
 | some x=>
   have d:((cS hs).getD i [])[(λj=>yb st.done [j]) i]?=some (fm x):=by rw[so a,au];show Option.map fm ((hV hs i)[yb st.done [i]]?)=_;rw[c];rfl
   rw[d];show(!hl i (yb st.done [i]) && lm _ (fm x))=false;rw[<-hh i _ a];rcases this with h|h
   . rw[h];rfl
   . have hn:dW (mM hs) st [i]=some x:=by show((mM hs).scr [i])[yb st.done [i]]?=some x;rw[F.scr a];exact c
     unfold Yl at h;rw[hn]at h;have f:=F.plS _ x (bv c);cases x with
     | awa b m=>obtain⟨r,q,o,n⟩:=f;have h:decide (m<=st.sums.getD b.toNat 0)=false:=h;have h:=of_decide_eq_false h;rw[g b.toNat (by omega)]at h;show(!_ && decide (m.toNat<=_))=false;rw[c6 (by omega),Bool.and_false]
     |_=>cases h
theorem AC{a:Nat}:vx (yp [o] a) [i] p=iH o a i p:=by
 unfold vx yp iH;show(yq [((hZ [o],(a:Int)),V.bl true)] (hZ [i],(p:Int))).isSome=_;have e:(yq [((hZ [o],(a:Int)),V.bl true)] (hZ [i],(p:Int)))=if(hZ [i],(p:Int))=(hZ [o],(a:Int))then some (.bl true)else none:=by rw[<-Zl (kvs:=[]) (k:=(hZ [o],(a:Int))) (V.bl true) J |>.trans (List.nil_append _),kj];rfl
 rw[e];by_cases c:i=o/\p=a
 . rw[c.1,c.2,if_pos J];simp
 . rw[if_neg (λz=>c ⟨by have:=qr (congrArg Prod.fst z);injection this,Int.ofNat.inj (congrArg Prod.snd z)⟩)];have:¬(i=o/\p=a):=c;rw[<-Bool.decide_and,c6 c];rfl
theorem yU(F:Flat hs){a n:Nat}(e:(yd hs (yp [o] a) n).ready=[])(f:fin (cS hs) hs.b.toNat o a=some L)(b:i<hs.fs.length):yb (yd hs (yp [o] a) n).done [i]=L.getD i 0:=by obtain⟨W,_⟩:=qF F (yp [o] a) n;exact wY (wD F) f (Jy F (λi p _=>AC) W.lg).2.2.1 (Az F (λi p _=>AC) W e) i (by rw[pZ];exact b)
theorem E3(F:Flat hs){n:Nat}(e:(yd hs [] n).ready=[])(f:fin (cS hs) hs.b.toNat 1000 0=some L)(a:i<hs.fs.length):yb (yd hs [] n).done [i]=L.getD i 0:=by
 have b:∀i p,i<hs.fs.length->vx [] [i] p=iH 1000 0 i p:=λi p a=>by have:=F.law.pl.f40;unfold iH;rw[c6 (by omega)];rfl
 obtain⟨W,_⟩:=qF F [] n;exact wY (wD F) f (Jy F b W.lg).2.2.1 (Az F b W e) i (by rw[pZ];exact a)
end
noncomputable abbrev Ks:Stmt:=aX 100
noncomputable abbrev nP:Stmt:=aX 101
noncomputable abbrev Kq:Stmt:=aX 103
inductive dZ(f:Nat->Nat->Nat->List aI)(vs:List V)(H:Hp)(Q:VK)(e0:XK):Prop|mk:∀n i q:Nat,vs=[.int (n:Int),.int (i:Int),.int (q:Int)]->i<n->n<=16->q<4->(∀v H',Same H H'->Is H' (.lst ((f n i q).map eD)) v->Q v H')->dZ f vs H Q e0
section
variable{K:W.Frag}
theorem I0:aA ["n","number","phase"] ["n","number","phase"] (zf Ks):=.of
theorem JO(D:bG K mg "shared_deeds" Ks):Ok P w K mg base "shared_deeds" 1 ["n","number","phase"] (dZ uK):=by refine wa D I0 λf r A a s H t Q E C h=>?_;intro X;obtain⟨n,i,q,rfl,G,j,F,e⟩:=h;refine⟨_,zg (zk (w9 (za (xi (za zi (za ze (za ze zc)))) (za (xi (za zi (za ze (za (ya wb (pv 0) (ya xv (pv 2) ze)) zc)))) zc)))),?_⟩;refine⟨by show 3<=1000;decide,λv N d z p=>?_⟩;refine⟨_,_,J,J,?_⟩;have g:iN (n:Int) ((q:Int)+1):=pC (by omega) (by omega) (by omega) (by omega);refine⟨_,_,J,J,g,by show 3<=1000;decide,λu M c y o=>⟨by show 2<=1000;decide,λl L b x m=>?_⟩⟩;exact e _ _ (d.trans (c.trans b)) (nV m ((qw (jb (qI (c _ _ p))) (jb (nU o))).mono b))
theorem yS:aA ["n","number","phase","others"] ["n","number","phase"] (zf nP):=.of
theorem EL(D:bG K mg "own_deeds" nP)(T:Txt K mg):Ok P w K mg base "own_deeds" 1 ["n","number","phase"] (dZ nr):=by
 refine wa D yS λf ah A F s H vs Q E hr h=>?_;intro X;obtain⟨n,i,q,rfl,hi,af,hq,kk⟩:=h;have nd:=yS.nd;refine⟨_,zb (Vn (i:=3) (own:=["other"]) (cap:=[1]) J (yt (zf nP) J J (by decide+kernel) (by decide+kernel) (by decide+kernel) ⟨⟨_,J,.inl J,v8 J⟩,trivial⟩) (ww J T.range (za (aN 0) zc)) (λ_ _ _ _=>zp (i:=0) (by show(["other","number"]:O Str).Nodup;decide+kernel)) (λ_ _ _ _=>jp (zm X1 (aN 0) (aN 1) (zu _))) (λ_ _ _ _=>aN 0) nd J J (by with_unfolding_all rfl))
  (zg (zk (ya tu (Qv (za (je (za zi (za (aN 1) (za ze zc)))) zc)) (qc (own:=["other"]) (cap:=[2]) J (yt (zf nP) J J (by decide+kernel) (by decide+kernel) (by decide+kernel) ⟨⟨_,J,.inl J,v8 J⟩,trivial⟩) (qi (aN 3)) (λ_ _ _ _=>zp (i:=0) (by show(["other","phase"]:O Str).Nodup;decide+kernel)) (λ_ _ _ _=>xu) (λ_ _ _ _=>je (za zi (za (aN 0) (za (ya xv (aN 1) ze) zc)))))))),?_⟩
 refine⟨_,J,_,J,by omega,by omega,?_⟩;refine jq (lo:=0) (n:=(n:Int).toNat) (λj a d=>Same H d/\a=((List.range j).filter λz=>decide (z≠i)).map λz:Nat=>V.int (z:Int)) ⟨Same.refl H,J⟩ (λj a d Z ⟨_,e⟩=>?_) ?_ ?_
 . rw[e,aa];refine c9 (f9 _ _) ?_;rw[da];exact wm (by omega)
 . rintro j a d Z ⟨t,rfl⟩;refine⟨_,J,_,J,J,_,J,jw (λz=>?_) (λz=>?_)⟩
   . have z:j≠i:=λe=>by rw[e,dy]at z;simp at z
     refine⟨_,J,t,?_⟩;rw[AO,if_pos z,ax,dy];rfl
   . have z:j=i:=Classical.byContradiction λe=>z (by have:V.int (0+(j:Int))≠V.int (i:Int):=λy=>e (by have:=V.int.inj y;omega);rw[c6 this];rfl)
     refine⟨t,?_⟩;rw[AO,if_neg (λy=>y z),cp]
 rintro a H1 ⟨t,rfl⟩ l hl;rw[show(n:Int).toNat=n from d9 n,show((List.range n).filter λz=>decide (z≠i))=dI n i from rfl];have W:=Same.new hl (.lst ((dI n i).map λz:Nat=>V.int (z:Int)));have g2:upd H1 l (.lst ((dI n i).map λz:Nat=>V.int (z:Int))) l=some (.lst ((dI n i).map λz:Nat=>V.int (z:Int))):=zd;generalize upd H1 l (.lst ((dI n i).map λz:Nat=>V.int (z:Int)))=H2 at W g2⊢;refine⟨_,J,bF,λc h1=>?_⟩;have C:=Same.new h1 (.tup [.str "raise",.int (i:Int),.int 1]);have g3:upd H2 c (.tup [.str "raise",.int (i:Int),.int 1]) c=some (.tup [.str "raise",.int (i:Int),.int 1]):=zd;generalize upd H2 c (.tup [.str "raise",.int (i:Int),.int 1])=H3 at C g3⊢;refine⟨bF,λv N=>?_⟩;have r:=Same.new N (.lst [.ref c]);have g4:upd H3 v (.lst [.ref c]) v=some (.lst [.ref c]):=zd;generalize upd H3 v (.lst [.ref c])=H4 at r g4⊢;have o:=r _ _ (C _ _ g2);have R:=r _ _ g3;refine⟨_,J,l,J,⟨_,aG.of o⟩,?_⟩;have ol:=Fw n i;refine Zy (xs:=(dI n i).map λz:Nat=>V.int (z:Int)) (λj a d=>Same H4 d/\IsL d (((dI n i).take j).map λz:Nat=>eD (.awa (z:Int) ((q:Int)+1))) a) ⟨Same.refl H4,J⟩ (λj a d Z ⟨s',e⟩=>⟨aG.of (s' _ _ o),?_⟩) ?_ ?_
 . have e:=e.length;rw[aa,d5]at e;exact wm (by omega)
 . rintro j x a S m ⟨g,e⟩;rw[au]at m;cases G:(dI n i)[j]? with|none=>rw[G]at m;cases m| some z=>rw[G]at m;cases m;refine V3 ?_;refine⟨_,J,_,J,_,_,J,J,bF,λp hp=>?_⟩;have b:=Same.new hp (.tup [.str "await",.int (z:Int),.int ((q:Int)+1)]);refine⟨g.trans b,?_⟩;rw[List.take_succ,G,ax];exact qw (e.mono b) (jb (nU zd))
 . rintro a S ⟨g,e⟩ u M;rw[aa,cr]at e;have b:=Same.new M (.lst a);have g6:upd S u (.lst a) u=some (.lst a):=zd;generalize upd S u (.lst a)=H6 at b g6⊢;have el:=e.length;rw[aa]at el;refine⟨v,u,_,_,J,J,b _ _ (g _ _ g4),g6,(by show 1+a.length<=sizeLine;exact wm (by omega)),λl3 L=>?_⟩;have U:=Same.new L (.lst ([.ref c]++a));refine kk _ _ (t.trans (W.trans (C.trans (r.trans (g.trans (b.trans U)))))) (nV zd ?_);have:=qw (jb (qI (b _ _ (g _ _ R)))) (e.mono b);have e2:(nr n i q).map eD=[eD (.rai (i:Int) 1)]++(dI n i).map λz:Nat=>eD (.awa (z:Int) ((q:Int)+1)):=by unfold nr;rw[c4,bn];rfl
   rw[e2];exact this.mono U
theorem An:aA ["n","number","phase","below","deeds"] ["n","number","phase"] (zf Kq):=.of
theorem Fq(D:bG K mg "tree_deeds" Kq)(T:Txt K mg):Ok P w K mg base "tree_deeds" 1 ["n","number","phase"] (dZ ni):=by
 refine wa D An λf aS A af s H vs Q E hr h=>?_;intro X;obtain⟨n,i,q,rfl,hi,aK,hq,kk⟩:=h;have nd:=An.nd;refine⟨_,zb (Vn (i:=3) (own:=["other"]) (cap:=[0]) J (yt (zf Kq) J J (by decide+kernel) (by decide+kernel) (by decide+kernel) ⟨⟨_,J,.inl J,v8 J⟩,trivial⟩) (j1 (je (za (ya xv (ya wb ze (aN 1)) ze) (za (ya xv (ya wb ze (aN 1)) ze) zc)))) (λ_ _ _ _=>zp (i:=0) (by show(["other","n"]:O Str).Nodup;decide+kernel)) (λ_ _ _ _=>jp (zm mV (aN 0) (aN 1) (zu _))) (λ_ _ _ _=>aN 0) nd J J (by with_unfolding_all rfl))
  (zb (zo (i:=4) nd (ya tu (qc (own:=["other"]) (cap:=[2]) J (yt (zf Kq) J J (by decide+kernel) (by decide+kernel) (by decide+kernel) ⟨⟨_,J,.inl J,v8 J⟩,trivial⟩) (qi (aN 3)) (λ_ _ _ _=>zp (i:=0) (by show(["other","phase"]:O Str).Nodup;decide+kernel)) (λ_ _ _ _=>xu) (λ_ _ _ _=>je (za zi (za (aN 0) (za (ya xv (aN 1) ze) zc)))))
   (Qv (za (je (za zi (za (aN 1) (za ze zc)))) zc))))
  (zg (zk (qo (zm y0 (aN 1) ze (zu _)) (aN 4) (ya tu (aN 4) (Qv (za (je (za zi (za ze (za (ya xv (aN 2) ze) zc)))) zc))))))),?_⟩
 refine⟨_,J,_,_,J,J,pC (by omega) (by omega) (by omega) (by omega),_,_,J,J,_,J,_,_,J,J,pC (by omega) (by omega) (by omega) (by omega),_,_,J,J,bF,λR h0=>?_⟩;have s0:=Same.new h0 (.tup [.int (2*(i:Int)+1),.int (2*(i:Int)+2)]);have g0:upd H R (.tup [.int (2*(i:Int)+1),.int (2*(i:Int)+2)]) R=some (.tup [.int (2*(i:Int)+1),.int (2*(i:Int)+2)]):=zd;generalize upd H R (.tup [.int (2*(i:Int)+1),.int (2*(i:Int)+2)])=H0 at s0 g0⊢;refine⟨R,J,⟨_,aE.of g0⟩,?_⟩;refine nX (xs:=[.int (2*(i:Int)+1),.int (2*(i:Int)+2)]) (λj a r=>Same H0 r/\a=((([2*i+1,2*i+2]:O Nat).take j).filter λz=>decide (z<n)).map λz:Nat=>V.int (z:Int)) ⟨Same.refl H0,J⟩ (λj a r hj ⟨s',e⟩=>⟨aE.of (s' _ _ g0),?_⟩) ?_ ?_
 . rw[e,aa];refine c9 (f9 _ _) ?_;rw[d5];exact wm (by show min j 2<=1000;omega)
 . rintro j x a r g ⟨N,rfl⟩;obtain⟨z,hz,rfl⟩:∃z:Nat,([2*i+1,2*i+2]:O Nat)[j]?=some z/\x=V.int (z:Int):=by match j,g with|0,g=>cases g;exact⟨_,J,by congr 1⟩|1,g=>cases g;exact⟨_,J,by congr 1⟩
   refine⟨_,J,_,J,_,_,J,J,_,J,jw (λc=>?_) (λc=>?_)⟩
   . have c:z<n:=by have:=cm c;omega
     refine⟨_,J,N,?_⟩;rw[List.take_succ,hz,List.filter_append,ax];show _++[V.int (z:Int)]=_++List.map _ (List.filter _ [z]);rw[List.filter_cons,if_pos (bj c)];rfl
   . have c:¬z<n:=λy=>c (bj (by omega));refine⟨N,?_⟩;rw[List.take_succ,hz,List.filter_append,ax];show _=_++List.map _ (List.filter _ [z]);rw[List.filter_cons,if_neg (by rw[c6 c];exact br),List.filter_nil,List.map_nil,cp]
 rintro a H1 ⟨N,rfl⟩ l hl;rw[show((([2*i+1,2*i+2]:O Nat).take ([.int (2*(i:Int)+1),.int (2*(i:Int)+2)]:O V).length).filter λz=>decide (z<n))=fZ n i from rfl];have s2:=Same.new hl (.lst ((fZ n i).map λz:Nat=>V.int (z:Int)));have g2:upd H1 l (.lst ((fZ n i).map λz:Nat=>V.int (z:Int))) l=some (.lst ((fZ n i).map λz:Nat=>V.int (z:Int))):=zd;generalize upd H1 l (.lst ((fZ n i).map λz:Nat=>V.int (z:Int)))=H2 at s2 g2⊢;refine⟨_,J,l,J,⟨_,aG.of g2⟩,?_⟩;have ol:=zV n i;refine Zy (xs:=(fZ n i).map λz:Nat=>V.int (z:Int)) (λj a r=>Same H2 r/\IsL r (((fZ n i).take j).map λz:Nat=>eD (.awa (z:Int) ((q:Int)+1))) a) ⟨Same.refl H2,J⟩ (λj a r hj ⟨s',e⟩=>⟨aG.of (s' _ _ g2),?_⟩) ?_ ?_
 . have e:=e.length;rw[aa,d5]at e;exact wm (by omega)
 . rintro j x a H5 g ⟨s5,e⟩;rw[au]at g;cases ho:(fZ n i)[j]? with|none=>rw[ho]at g;cases g| some z=>rw[ho]at g;cases g;refine V3 ?_;refine⟨_,J,_,J,_,_,J,J,bF,λp hp=>?_⟩;have t:=Same.new hp (.tup [.str "await",.int (z:Int),.int ((q:Int)+1)]);refine⟨s5.trans t,?_⟩;rw[List.take_succ,ho,ax];exact qw (e.mono t) (jb (nU zd))
 rintro a H5 ⟨s5,e⟩ W aw;rw[aa,cr]at e;have t:=Same.new aw (.lst a);have g6:upd H5 W (.lst a) W=some (.lst a):=zd;generalize upd H5 W (.lst a)=H6 at t g6⊢;have el:=e.length;rw[aa]at el;refine⟨_,J,bF,λb h1=>?_⟩;have M:=Same.new h1 (.tup [.str "raise",.int (i:Int),.int 1]);have g7:upd H6 b (.tup [.str "raise",.int (i:Int),.int 1]) b=some (.tup [.str "raise",.int (i:Int),.int 1]):=zd;generalize upd H6 b (.tup [.str "raise",.int (i:Int),.int 1])=H7 at M g7⊢;refine⟨bF,λZ ay=>?_⟩;have u:=Same.new ay (.lst [.ref b]);have g8:upd H7 Z (.lst [.ref b]) Z=some (.lst [.ref b]):=zd;generalize upd H7 Z (.lst [.ref b])=H8 at u g8⊢;refine⟨W,Z,_,_,J,J,u _ _ (M _ _ g6),g8,(wm (by show a.length+1<=1000;omega)),λU av=>?_⟩;have L:=Same.new av (.lst (a++[.ref b]));have g9:upd H8 U (.lst (a++[.ref b])) U=some (.lst (a++[.ref b])):=zd;generalize upd H8 U (.lst (a++[.ref b]))=H9 at L g9⊢;have S9:Same H H9:=s0.trans (N.trans (s2.trans (s5.trans (t.trans (M.trans (u.trans L))))));have i9:IsL H9 (((fZ n i).map λz:Nat=>eD (.awa (z:Int) ((q:Int)+1)))++[eD (.rai (i:Int) 1)]) (a++[.ref b]):=qw (e.mono (t.trans (M.trans (u.trans L)))) (jb (qI (L _ _ (u _ _ g7))));have ed:(ni n i q).map eD=((fZ n i).map λz:Nat=>eD (.awa (z:Int) ((q:Int)+1)))++[eD (.rai (i:Int) 1)]++(if i=0 then[]else[eD (.awa 0 ((q:Int)+1))]):=by unfold ni;rw[ax,ax,bn];congr 1;by_cases z:i=0<;>simp[z]
 refine⟨_,J,J,_,J,jw (λc=>?_) (λc=>?_)⟩
 . have c:i=0:=by have:=V.int.inj (cm c);omega
   refine⟨_,J,kk _ _ S9 (nV g9 ?_)⟩;rw[ed,if_pos c,cp];exact i9
 . have c:¬i=0:=λz=>c (by rw[z];exact bj J);refine⟨_,J,_,J,_,_,J,J,bF,λo h4=>?_⟩;have m:=Same.new h4 (.tup [.str "await",.int 0,.int ((q:Int)+1)]);have F:upd H9 o (.tup [.str "await",.int 0,.int ((q:Int)+1)]) o=some (.tup [.str "await",.int 0,.int ((q:Int)+1)]):=zd;generalize upd H9 o (.tup [.str "await",.int 0,.int ((q:Int)+1)])=G at m F⊢;refine⟨bF,λS ap=>?_⟩;have d:=Same.new ap (.lst [.ref o]);have C:upd G S (.lst [.ref o]) S=some (.lst [.ref o]):=zd;generalize upd G S (.lst [.ref o])=a3 at d C⊢;refine⟨U,S,_,_,J,J,d _ _ (m _ _ g9),C,(by rw[cj];exact wm (by show a.length+1+1<=1000;omega)),λl5 ah=>?_⟩;have v:=Same.new ah (.lst (a++[.ref b]++[.ref o]));refine kk _ _ (S9.trans (m.trans (d.trans v))) (nV zd ?_);rw[ed,if_neg c];exact(qw (i9.mono (m.trans d)) (jb (nU (d _ _ F)))).mono v
end
noncomputable abbrev Kr:Stmt:=aX 102
noncomputable abbrev t6:Stmt:=aX 104
section
variable{K:W.Frag}
theorem BF:aA ["n","number","phase","deeds","first_box","far"] ["n","number","phase"] (zf Kr):=.of
theorem JP(D:bG K mg "spread_deeds" Kr)(T:Txt K mg):Ok P w K mg base "spread_deeds" 1 ["n","number","phase"] (dZ o7):=by
 refine wa D BF λf ap A u s H vs Q E hr h=>?_;intro X;obtain⟨n,i,q,rfl,hi,ah,hq,kk⟩:=h;have j:=BF.nd;refine⟨_,zb (zo (i:=3) j (Qv zc)) (zb (zo (i:=4) j ze) (zb (zo (i:=5) j ze) (zb (AT PassesOwn.never (zm mV (aN 5) (aN 0) (zu _)) (zb (wo (ja PySem.F.plainAttrs_list PySem.F.slot_list_append PySem.F.type_list_append qf (aN 3) (za (je (za zi (za (ya xv (aN 4) (aN 1)) (za ze zc)))) zc))) (zb (wo (ja PySem.F.plainAttrs_list PySem.F.slot_list_append PySem.F.type_list_append qf (aN 3) (za (je (za zi (za (ya xv (aN 4) (ya Y7 (ya Y6 (aN 1) (aN 5)) (aN 0))) (za (ya xv (aN 2) ze) zc)))) zc))) (zb (yA (i:=4) j J (Or.inl J) (aN 0) xB) (zg (yA (i:=5) j J (Or.inl J) ze D1))))))
  (zg (zk (aN 3)))))),?_⟩
 refine⟨bF,λl v=>?_⟩;have W:=Gr.nil v;generalize upd H l (.lst [])=H0 at W⊢;refine⟨λm C S=>∃(k a:Nat)(p:O aI)(d:O V),Gr H S l p d/\p++lA n i q m k a=o7 n i q/\n<=a*2^m/\a<=32/\m+k=5/\p.length=2*k/\C=[some (.int (n:Int)),some (.int (i:Int)),some (.int (q:Int)),some (.ref l),some (.int ((k*n:Nat):Int)),some (.int (a:Int))],⟨5,0,1,[],[],W,J,by omega,by omega,J,J,by simp[L2.start]⟩,?_⟩
 rintro m C R ⟨k,a,p,d,b,y,hn,af,hm,hd,rfl⟩;refine⟨_,J,_,J,_,_,J,J,_,J,jw (λc=>?_) (λc=>?_)⟩
 . have c:a<n:=by have:=cm c;omega
   obtain⟨m,rfl⟩:∃m',m=m'+1:=by cases m with|zero=>rw[Nat.pow_zero,Nat.mul_one]at hn;omega|succ m=>exact⟨m,J⟩
   refine⟨_,λZ S z=>⟨m,by omega,z⟩,?_⟩;have gl:=b.len;have e4:((k*n:Nat):Int)+(i:Int)=((k*n+i:Nat):Int):=by omega
   have e5:((k*n:Nat):Int)+((i:Int)-(a:Int))%(n:Int)=((k*n+(i+n-a)%n:Nat):Int):=by rw[iO c];omega
   refine⟨_,J,.inl ⟨J,_,aG.of b.at'⟩,_,J,_,J,_,_,J,J,bF,λe h1=>?_⟩;have t:=Same.new h1 (.tup [.str "raise",.int (((k*n:Nat):Int)+(i:Int)),.int 1]);have G:upd R e (.tup [.str "raise",.int (((k*n:Nat):Int)+(i:Int)),.int 1]) e=some (.tup [.str "raise",.int (((k*n:Nat):Int)+(i:Int)),.int 1]):=zd;generalize upd R e (.tup [.str "raise",.int (((k*n:Nat):Int)+(i:Int)),.int 1])=N at t G⊢;refine⟨l,d,_,J,J,t _ _ b.at',W6 (by omega),?_⟩;have o:=b.app v t (qI (show N e=some (.tup [.str "raise",.int ((k*n+i:Nat):Int),.int 1]) by rw[<-e4];exact G));generalize upd N l (.lst (d++[.ref e]))=M at o⊢;refine⟨_,J,.inl ⟨J,_,aG.of o.at'⟩,_,J,_,J,_,J,_,_,J,J,_,J,_,_,J,J,(by omega),_,_,J,J,_,J,_,_,J,J,bF,λg h2=>?_⟩;have r:=Same.new h2 (.tup [.str "await",.int (((k*n:Nat):Int)+((i:Int)-(a:Int))%(n:Int)),.int ((q:Int)+1)]);have F:upd M g (.tup [.str "await",.int (((k*n:Nat):Int)+((i:Int)-(a:Int))%(n:Int)),.int ((q:Int)+1)]) g=some (.tup [.str "await",.int (((k*n:Nat):Int)+((i:Int)-(a:Int))%(n:Int)),.int ((q:Int)+1)]):=zd;generalize upd M g (.tup [.str "await",.int (((k*n:Nat):Int)+((i:Int)-(a:Int))%(n:Int)),.int ((q:Int)+1)])=L at r F⊢;have x:=o.len;rw[cj]at x;refine⟨l,_,_,J,J,r _ _ o.at',W6 (by rw[cj];show d.length+1<1000;omega),?_⟩;have U:=o.app v r (nU (show L g=some (.tup [.str "await",.int ((k*n+(i+n-a)%n:Nat):Int),.int ((q:Int)+1)]) by rw[<-e5];exact F));generalize upd L l (.lst (d++[.ref e]++[.ref g]))=H5 at U⊢;refine⟨_,J,_,_,J,J,_,_,J,J,pC (by omega) (by omega) (by omega) (by omega),?_⟩;refine⟨k+1,2*a,_,_,U,?_,?_,by omega,by omega,?_,?_⟩
   . rw[<-y,List.append_assoc,List.append_assoc];congr 1;show _=(if a<n then _ else _);rw[if_pos c];rfl
   . rw[Nat.pow_succ]at hn;rw[Nat.mul_comm 2 a,Nat.mul_assoc,Nat.mul_comm 2];exact hn
   . rw[cj,cj,hd];show 2*k+1+1=2*(k+1);omega
   . have e6:((k*n:Nat):Int)+(n:Int)=(((k+1)*n:Nat):Int):=by rw[Nat.succ_mul];omega
     have e7:(a:Int)*2=((2*a:Nat):Int):=by omega
     rw[<-e6,<-e7];rfl
 . have c:n<=a:=Classical.byContradiction λz=>c (bj (by omega));rw[FT c,cp]at y;subst y;exact⟨_,J,kk _ _ b.same (nV b.at' b.it)⟩
end
noncomputable abbrev Wa:Stmt:=aX 105
inductive lY(vs:List V)(H:Hp)(Q:VK)(e0:XK):Prop|mk:∀(kd:Str)(n i q:Nat),vs=[.str kd,.int (n:Int),.int (i:Int),.int (q:Int)]->i<n->n<=16->q<4->(∀v H',Same H H'->Is H' (.lst ((np kd n i q).map eD)) v->Q v H')->lY vs H Q e0
inductive gX(vs:List V)(H:Hp)(Q:VK)(e0:XK):Prop|mk:∀(kd:Str)(n i p:Nat),vs=[.str kd,.int (n:Int),.int (i:Int),.int (p:Int)]->i<n->n<=16->p<=4->(∀v H',Same H H'->Is H' (eS (eW kd n i p)) v->Q v H')->gX vs H Q e0
section
variable{K:W.Frag}
theorem HY:aA ["kind","n","number","phase"] ["kind","n","number","phase"] (zf t6):=.of
theorem GT(D:bG K mg "met_by" t6)(r:Ok P w K mg base "shared_deeds" 1 ["n","number","phase"] (dZ uK))(p:Ok P w K mg base "own_deeds" 1 ["n","number","phase"] (dZ nr))(o:Ok P w K mg base "spread_deeds" 1 ["n","number","phase"] (dZ o7)) (m:Ok P w K mg base "tree_deeds" 1 ["n","number","phase"] (dZ ni)):Ok P w K mg base "met_by" 2 ["kind","n","number","phase"] lY:=by
 refine wa D HY λf t A j s H u Q E d h=>?_;intro X;obtain⟨l,n,i,q,rfl,g,b,e,a⟩:=h;refine⟨_,zb (ye (zm y0 (aN 0) zi (zu _)) (zg (zk (yc r d (za (aN 1) (za (aN 2) (za (aN 3) zc)))))) zn) (zb (ye (zm y0 (aN 0) zi (zu _)) (zg (zk (yc p d (za (aN 1) (za (aN 2) (za (aN 3) zc)))))) zn) (zb (ye (zm y0 (aN 0) zi (zu _)) (zg (zk (yc o d (za (aN 1) (za (aN 2) (za (aN 3) zc)))))) zn) (zg (zk (yc m d (za (aN 1) (za (aN 2) (za (aN 3) zc)))))))),?_⟩
 unfold np at a;refine⟨_,J,J,_,J,jw (λc=>?_) (λc=>?_)⟩
 . have c:l="shared":=V.str.inj (cm c);rw[if_pos c]at a;exact⟨_,J,_,J,_,J,n,i,q,J,g,b,e,a⟩
 rw[if_neg (λz=>c (by rw[z];exact bj J))]at a;refine⟨_,J,J,_,J,jw (λc=>?_) (λc=>?_)⟩
 . have c:l="own":=V.str.inj (cm c);rw[if_pos c]at a;exact⟨_,J,_,J,_,J,n,i,q,J,g,b,e,a⟩
 rw[if_neg (λz=>c (by rw[z];exact bj J))]at a;refine⟨_,J,J,_,J,jw (λc=>?_) (λc=>?_)⟩
 . have c:l="spread":=V.str.inj (cm c);rw[if_pos c]at a;exact⟨_,J,_,J,_,J,n,i,q,J,g,b,e,a⟩
 rw[if_neg (λz=>c (by rw[z];exact bj J))]at a;exact⟨_,J,_,J,_,J,n,i,q,J,g,b,e,a⟩
theorem Jb:aA ["kind","n","number","p","deeds","phase"] ["kind","n","number","p"] (zf Wa):=.of
theorem LL(D:bG K mg "script_of" Wa)(T:Txt K mg)(o1:Ok P w K mg base "met_by" 2 ["kind","n","number","phase"] lY):Ok P w K mg base "script_of" 3 ["kind","n","number","p"] gX:=by
 refine wa D Jb λf af A z s H vs Q E hr h=>?_;intro X;obtain⟨b,n,i,p,rfl,G,e,hp,kk⟩:=h;have W:=Jb.nd;refine⟨_,zb (zo (i:=4) W (Qv zc)) (zb (wy PassesOwn.never J (ww J T.range (za (aN 3) zc)) (zp (i:=5) W) (zb (wo (ja PySem.F.plainAttrs_list PySem.F.slot_list_append PySem.F.type_list_append qf (aN 4) (za (je (za zi (za zi zc))) zc))) (zb (wo (ja PySem.F.plainAttrs_list PySem.F.slot_list_extend PySem.F.type_list_extend Xq (aN 4) (za (yc o1 hr (za (aN 0) (za (aN 1) (za (aN 2) (za (aN 5) zc))))) zc))) (zg (wo (ja PySem.F.plainAttrs_list PySem.F.slot_list_append PySem.F.type_list_append qf (aN 4) (za (je (za zi (za zi zc))) zc)))))))
  (zg (zk (yx Z3 J T.tuple Xj (za (aN 4) zc))))),?_⟩
 refine⟨bF,λl o=>?_⟩;have G0:=Gr.nil o;generalize upd H l (.lst [])=H0 at G0⊢;refine⟨_,J,_,J,by omega,by omega,?_⟩;refine Xs (lo:=0) (n:=(p:Int).toNat) (λj t H'=>∃a u,Gr H H' l (eW b n i j) a/\t=[some (.str b),some (.int (n:Int)),some (.int (i:Int)),some (.int (p:Int)),some (.ref l),u]) ⟨[],none,G0,J⟩ ?_ ?_
 . rintro j t M F ⟨a,u,c,rfl⟩;have F:j<p:=by rw[d9]at F;exact F
   have gl:=c.len;have dl:=zY (kd:=b) G e j;refine⟨_,J,.inl ⟨J,_,aG.of c.at'⟩,bF,λd h1=>?_⟩;have y:=Same.new h1 (.tup [.str "say",.str "come"]);have g1:upd M d (.tup [.str "say",.str "come"]) d=some (.tup [.str "say",.str "come"]):=zd;generalize upd M d (.tup [.str "say",.str "come"])=H2 at y g1⊢;refine⟨l,a,_,J,J,y _ _ c.at',W6 (by omega),?_⟩;have r:=c.app o y (xD g1);generalize upd H2 l (.lst (a++[.ref d]))=H3 at r⊢;have L:(a++[V.ref d]).length=(eW b n i j).length+1:=by rw[cj,gl];rfl
   rw[show(0:Int)+(j:Int)=(j:Int)from dy _];refine⟨_,J,.inl ⟨J,_,aG.of r.at'⟩,_,J,_,J,_,J,_,J,b,n,i,j,J,G,e,by omega,λv H4 S i4=>?_⟩;obtain⟨m,N,rfl,hm,Z⟩:=i4;have R:=Z.length;rw[aa]at R;have pl:=zX (kd:=b) (q:=j) G e;refine⟨l,m,_,_,J,J,S _ _ r.at',hm,wm (by omega),?_⟩;have q:=r.apps o S Z;generalize upd H4 l (.lst (a++[.ref d]++N))=H5 at q⊢;refine⟨_,J,.inl ⟨J,_,aG.of q.at'⟩,bF,λg h2=>?_⟩;have x:=Same.new h2 (.tup [.str "say",.str "go"]);have g5:upd H5 g (.tup [.str "say",.str "go"]) g=some (.tup [.str "say",.str "go"]):=zd;generalize upd H5 g (.tup [.str "say",.str "go"])=H6 at x g5⊢;refine⟨l,_,_,J,J,x _ _ q.at',W6 (by rw[cj,L,R];omega),?_⟩;have G4:=q.app o x (xD g5);refine⟨a++[.ref d]++N++[.ref g],_,?_,J⟩;rw[Au,show eW b n i j++one b n i j=eW b n i j++[.say "come"]++np b n i j++[.say "go"] by unfold one;simp];exact G4
 . rintro t M ⟨a,u,c,rfl⟩;rw[show((p:Int)).toNat=p from d9 p]at c;refine⟨_,J,l,a,J,.inl ⟨aG.of c.at',λl2 C=>?_⟩⟩;have U:=Same.new C (.tup a);exact kk _ _ (c.same.trans U) ⟨l2,a,J,zd,c.it.mono U⟩
end
theorem yT{a:List yz}(h:∀s∈a,s.length<=30):∀l:List (List Nat×Nat),Q4 a l<=30*l.length
 |[]=>ae _
 | q::l=>by
   have b:=yT h l;have c:(a.getD q.2 []).length<=30:=by
    rw[c7];cases e:a[q.2]? with
    |none=>simp
    |some s=>exact h s (bv e)
   unfold Q4 at b⊢;rw[c4,List.sum_cons,d7,Nat.mul_add];omega
theorem pz.law{h:aB}(F:pz h):dA h:=by
 have pl:(jo (h.fs.map (·.1))).length=h.fs.length:=by unfold jo;rw[aa,List.length_zipIdx,aa]
 have f17:=F.f17;have d:=yT F.len (jo (h.fs.map (·.1)));refine⟨F,⟨⟨λs a d f=>(F.pl s a d f).no,λs a=>by have:=F.len s a;omega,F.w0⟩,F.n20,by omega,λc g=>(F.call c g).2,λc g=>(F.call c g).1,by omega,by omega,F.b0,by have:=F.b99;omega,λs a x i=>?_,λs a d f b m e=>?_⟩⟩
 . rcases F.pl s a _ i with rfl|rfl<;>decide+kernel
 . have:=F.pl s a d f;rcases e with rfl|rfl<;>exact⟨this.1,this.2.1⟩
theorem Ah{hs:aB}{d:Str}{k h:Nat}(a:X5 hs d k q j)(b:X5 hs d k q h):j=h:=by
 have e:∀{i f:Nat},X5 hs d k q i->X5 hs d k q f->¬i<f:=λ{i f} a b c=>by
  have l:((mM hs).scr [k]).take (i+1)=((mM hs).scr [k]).take i++[.say d]:=by rw[cq,a.1];rfl
  have g:(((mM hs).scr [k]).take (i+1)).countP (v9 d)<=(((mM hs).scr [k]).take f).countP (v9 d):=(List.take_sublist_take_left c).countP_le;rw[l,List.countP_append,a.2,b.2]at g;have g:q+(if v9 d (.say d)=true then 1 else 0)<=q:=by simpa[List.countP_cons]using g
  rw[if_pos (by simp[v9])]at g;omega
 have:=e a b;have:=e b a;omega
noncomputable def bT(b:Int)(n:Nat)(G:List yz):aB:=⟨b,0,(List.range n).map λi=>((i:Nat),([]:List gu)),G⟩
noncomputable def B6(b:Int):aI->Bool|.rai x k=>decide (0<=x/\x<b/\1<=k/\k<=99)|.awa x m=>decide (0<=x/\x<b/\1<=m/\m<=9999)|.say x=>decide (x="come") ||decide (x="go")|_=>false
theorem DG{d:aI}(h:B6 b d=true):jY b d:=by cases d with|rai x k=>exact cm (p:=0<=x/\x<b/\1<=k/\k<=99) h|awa x m=>exact cm (p:=0<=x/\x<b/\1<=m/\m<=9999) h| say x=>have h:(decide (x="come") ||decide (x="go"))=true:=h;rw[Bool.or_eq_true,decide_eq_true_eq,decide_eq_true_eq]at h;exact h|_=>cases h
noncomputable def pO(b:Int)(n:Nat)(G:List yz):Bool:=decide (0<=b/\b<=99/\1<=n/\n<=17/\G.length=n) && G.all λs=>decide (s.length<=30) && s.all (B6 b)
theorem tE{n:Nat}{a:O yz}(h:pO b n a=true):pz (bT b n a)/\a.length=n:=by
 unfold pO at h;rw[cg,decide_eq_true_eq,db]at h;obtain⟨⟨q,f,r,j,l⟩,h⟩:=h;have g:∀s∈a,s.length<=30/\∀d∈s,jY b d:=λs e=>by have:=h s e;rw[cg,decide_eq_true_eq,db]at this;exact⟨this.1,λd o=>DG (this.2 d o)⟩
 have t:(bT b n a).fs.length=n:=by unfold bT;rw[aa,da]
 refine⟨⟨q,f,J,by show 1<=a.length;omega,by show a.length<=20;omega,by omega,by omega,λc p=>?_,λs e=>(g s e).1,λs e=>(g s e).2⟩,l⟩;obtain⟨i,m,rfl⟩:=bu.mp p;exact⟨by have:=dj.mp m;show i<a.length;omega,J⟩
theorem He{n:Nat}{a:O yz}(h:pO b n a=true):Flat (bT b n a):=⟨(tE h).1.law,(tE h).1.pl⟩
section
variable{n:Nat}{ss:List yz}
theorem mU:(bT b n ss).fs.length=n:=by unfold bT;rw[aa,da]
theorem rH(a:i<n):hV (bT b n ss) i=ss.getD i []:=by unfold hV bT;simp[c7,au,List.getElem?_range a]
theorem rO(hl:ss.length=n):cS (bT b n ss)=ss.map λs=>s.map fm:=by
 unfold cS;rw[mU];refine List.ext_getElem (by simp[hl]) λi c d=>?_;have a:i<n:=by simpa using c
 rw[List.getElem_map,List.getElem_range,rH a,List.getElem_map,c7,bo (by omega)];rfl
noncomputable def plS(s:yz)(G:Str)(q:Nat):Nat:=(Xd G s s.length).getD q 0
noncomputable def nu(s:yz)(G:Str)(q j:Nat):Bool:=((s[j]?).map (v9 G)).getD false && decide ((s.take j).countP (v9 G)=q)
theorem wU{k:Nat}{a:Str}(F:Flat (bT b n ss))(hk:k<n)(h:nu (ss.getD k []) a q j=true):X5 (bT b n ss) a k q j:=by unfold nu at h;rw[cg,decide_eq_true_eq]at h;unfold X5;rw[F.scr (by rw[mU];exact hk),rH hk];refine⟨?_,h.2⟩;have h:=h.1;cases e:(ss.getD k [])[j]? with|none=>rw[e]at h;cases h| some d=>rw[e]at h;cases d with|say x=>rw[show x=a from cm h]|_=>cases h
noncomputable def uL(b:Int)(n p:Nat)(G:List yz):Bool:=pO b n G && (Yo (bT b n G) n p && (decide (fin (G.map λs=>s.map fm) b.toNat 1000 0=some (G.map List.length)) && G.all λs=>(List.range p).all λq=>nu s "come" q (plS s "come" q) && nu s "go" q (plS s "go" q)))
structure vI(b:Int)(n p:Nat)(ss:List yz):Prop where
 flat:Flat (bT b n ss)
 made:Yo (bT b n ss) n p=true
 all:∀n0,(yd (bT b n ss) [] n0).ready=[]->kf (bT b n ss) (yd (bT b n ss) [] n0).done=true
 len:ss.length=n
 come:∀k q,k<n->q<p->X5 (bT b n ss) "come" k q (plS (ss.getD k []) "come" q)
 go:∀k q,k<n->q<p->X5 (bT b n ss) "go" k q (plS (ss.getD k []) "go" q)
theorem DE(h:uL b n p ss=true):vI b n p ss:=by
 unfold uL at h;rw[cg,cg,cg,decide_eq_true_eq,db]at h;obtain⟨l,s,j,r⟩:=h;have F:=He l;have d:=(tE l).2;have o:∀k,k<n->ss.getD k []∈ss:=λk hk=>by rw[c7,bo (by omega)];exact List.getElem_mem _
 have g:∀k q,k<n->q<p->nu (ss.getD k []) "come" q (plS (ss.getD k []) "come" q)=true/\nu (ss.getD k []) "go" q (plS (ss.getD k []) "go" q)=true:=λk q hk a=>by have:=db.mp (r _ (o k hk)) q (dj.mpr a);rw[cg]at this;exact this
 refine⟨F,s,λm e=>?_,d,λk q hk a=>wU F hk (g k q hk a).1,λk q hk a=>wU F hk (g k q hk a).2⟩;refine db.mpr λh f=>?_;obtain⟨i,c,rfl⟩:=F.mem.mp f;have W:=(qF F [] m).1;obtain⟨t,_⟩:=Jy F (hl:=λi p=>vx [] [i] p) (λ_ _ _=>rfl) W.lg;unfold iI;rw[cg,decide_eq_true_eq,decide_eq_true_eq];refine⟨by rw[t];exact f,?_⟩;rw[<-rO d]at j;rw[E3 F e j c,F.scr c,rH (by rw[mU]at c;exact c)];rw[mU]at c;simp[c7,au,bo (show i<ss.length by omega)]
noncomputable def uI(b:Int)(G:List yz)(a o q:Nat):Bool:=match fin (G.map λs=>s.map fm) b.toNat o (plS (G.getD o []) "come" q)with|some F=>decide (F.getD a 0<=plS (G.getD a []) "go" q)|none=>false
theorem DM{a:Nat}{d:Bool}{st:WS (O Nat)}(B:vI b n p ss)(i:a<n)(j:o<n)(h:q<p)(S:eV (bT b n ss) a o q d st)(f:fin (ss.map λs=>s.map fm) b.toNat o (plS (ss.getD o []) "come" q)=some F):decide (plS (ss.getD a []) "go" q<F.getD a 0)=d:=by obtain⟨⟨r,u,t,m,l,e,c⟩,g,_⟩:=S;obtain rfl:=Ah m (B.come o q j h);obtain rfl:=Ah l (B.go a q i h);rw[<-rO B.len]at f;rw[e]at g c;rw[yU B.flat g f (by rw[mU];exact i)]at c;exact c
theorem Dg{a:Nat}{d:Bool}{st:WS (O Nat)}(B:vI b n p ss)(g:a<n)(e:o<n)(c:q<p)(S:eV (bT b n ss) a o q d st)(h:uI b ss a o q=true):d=false:=by
 unfold uI at h;split at h
 . rename_i F f
   have:=DM B g e c S f;have h:=cm h;rw[<-this];exact c6 (by omega)
 . cases h
end
noncomputable abbrev Qq:Stmt:=aX 106
noncomputable abbrev Vg:Stmt:=aX 107
theorem Ff:mF X "int.bit_length" (λx vs H Q=>∃i,x=.int i/\vs=[]/\Q (.int ((Builtin.Int.intBits i:Nat):Int)) H):=by intro a s d H x vs v e Q I b c h;obtain⟨i,rfl,rfl,q⟩:=h;obtain⟨t,rfl⟩:=b;cases c;exact call_gives F.slot_int_bit_length (typeIs_int _ _ _) F.entry_int_bit_length (F.args_int_bit_length_1 _) (AutoIntG2.int_bit_length_int_0 i t) ⟨.int _,H,I.tok _,⟨_,J⟩,q⟩
inductive lZ(vs:List V)(H:Hp)(Q:VK)(e0:XK):Prop|mk:∀(kd:Str)(n p:Nat),vs=[.str kd,.int (n:Int),.int (p:Int)]->K4 kd->1<=n->n<=16->p<=4->dA (hk kd n p)->(∀v H',Same H H'->Is H' (eH (hk kd n p)) v->Q v H')->lZ vs H Q e0
inductive mr(vs:List V)(H:Hp)(Q:VK)(e0:XK):Prop|mk:∀(kd:Str)(n:Nat),vs=[.str kd,.int (n:Int)]->1<=n->n<=16->Q (.int (jW kd n)) H->mr vs H Q e0
section
variable{K:W.Frag}
theorem Lf:aA ["kind","n"] ["kind","n"] (zf Qq):=.of
theorem KI(D:bG K mg "boxes_of" Qq):Ok P w K mg base "boxes_of" 1 ["kind","n"] mr:=by
 refine wa D Lf λf g A b s H i Q E j h=>?_;intro X;obtain⟨d,n,rfl,l,e,a⟩:=h;refine⟨_,zb (ye (zm y0 (aN 0) zi (zu _)) (zg (zk ze)) zn) (zg (zk (qo (zm y0 (aN 0) zi (zu _)) (ya wb (aN 1) (yD PySem.F.plainAttrs_int PySem.F.slot_int_bit_length PySem.F.type_int_bit_length Ff (ya Y6 (aN 1) ze))) (aN 1)))),?_⟩
 unfold jW at a;refine⟨_,J,J,_,J,jw (λc=>?_) (λc=>?_)⟩
 . have c:d="shared":=V.str.inj (cm c);rw[if_pos c]at a;exact a
 rw[if_neg (λz=>c (by rw[z];exact bj J))]at a;refine⟨_,J,J,_,J,jw (λc=>?_) (λc=>?_)⟩
 . have c:d="spread":=V.str.inj (cm c);rw[if_pos c]at a;exact⟨_,J,_,J,_,_,J,J,J,_,J,J,_,_,J,J,.inl ⟨by omega,by omega⟩,a⟩
 rw[if_neg (λz=>c (by rw[z];exact bj J))]at a;exact⟨_,J,a⟩
theorem Bm:aA ["kind","n","p","firsts","scripts","house"] ["kind","n","p"] (zf Vg):=.of
theorem GS(D:bG K mg "made" Vg)(T:Txt K mg)(TM:mD mg)(hK:∃F,mg "KINDS"=some (.ref F)/\∀H,aE K H F [.str "shared",.str "own",.str "spread",.str "tree"])(o1:Ok P w K mg base "is_within" 2 ["thing","least","most"] (spT mC))(o2:Ok P w K mg base "script_of" 3 ["kind","n","number","p"] gX)(o3:Ok P w K mg base "boxes_of" 1 ["kind","n"] mr) (o4:Ok P w K mg base "is_house" 22 ["thing"] (spT jX)):Ok P w K mg base "made" 23 ["kind","n","p"] lZ:=by
 refine wa D Bm ?_;rintro f aw A W s H vs Q E x ⟨d,n,p,rfl,k4,h1,y,h4,hG,kk⟩ X;have Z:=Bm.nd;obtain⟨F,hK,hM⟩:=hK;refine⟨_,zb (ye (zm Me (pv 0) (tT (v:=.ref F) J hK J) J) (zg xn) zn) (zb (ye (PW.pt (Xz (xt (y7 (yc o1 (x.mono (by decide)) (za (pv 1) (za ze (za (y8 TM.MEET) zc)))))) (Z1 (xt (y7 (yc o1 (x.mono (by decide)) (za (pv 2) (za ze (za (y8 TM.PHAS) zc))))))))) (zg xn) zn) (zb (zo (i:=3) Z (yx Z3 J T.tuple Xj (za (qc (own:=["number"]) (cap:=[]) J (yt (zf Vg) J J (by decide+kernel) (by decide+kernel) (by decide+kernel) trivial) (ww J T.range (za (pv 1) zc)) (λ_ _ _ _=>zp (i:=0) (by show(["number"]:O Str).Nodup;decide+kernel)) (λ_ _ _ _=>xu) (λ_ _ _ _=>xi (za (pv 0) (za (xi zc) zc)))) zc)))
  (zb (zo (i:=4) Z (yx Z3 J T.tuple Xj (za (qc (own:=["number"]) (cap:=[0,1,2]) J (yt (zf Vg) J J (by decide+kernel) (by decide+kernel) (by decide+kernel) ⟨⟨_,J,.inl J,v8 J⟩,⟨_,J,.inl J,v8 J⟩,⟨_,J,.inl J,v8 J⟩,trivial⟩) (ww J T.range (za (pv 1) zc)) (λ_ _ _ _=>zp (i:=0) (by show(["number","kind","n","p"]:O Str).Nodup;decide+kernel)) (λ_ _ _ _=>xu) (λ_ _ _ _=>yc o2 (x.mono (by decide)) (za (pv 1) (za (pv 2) (za (pv 0) (za (pv 3) zc)))))) zc)))
  (zb (zo (i:=5) Z (xi (za (yc o3 (x.mono (by decide)) (za (pv 0) (za (pv 1) zc))) (za ze (za (pv 3) (za (pv 4) zc)))))) (zb (ye (xt (y7 (yc o4 x (za (pv 5) zc)))) (zg xn) zn) (zg (zk (pv 5)))))))),?_⟩
 have C:(([.str "shared",.str "own",.str "spread",.str "tree"]:O V).all Xe)=true:=rfl;refine⟨F,_,J,.inr (hM H),J,C,_,J,jw (λc=>absurd c (by rcases k4 with rfl|rfl|rfl|rfl<;>decide+kernel)) (λ_=>?_)⟩;refine⟨⟨n,1,16,J,by omega,by omega⟩,λH1 s1=>⟨_,J,yi ⟨⟨p,0,4,J,by omega,by omega⟩,λH2 s2=>⟨_,J,yi ?_⟩⟩⟩⟩;have S2:=s1.trans s2;refine⟨_,J,by omega,by omega,?_⟩;refine jq (lo:=0) (n:=(n:Int).toNat) (λj a l=>Same H2 l/\IsL l ((List.range j).map λi=>eC ((i:Nat),([]:O gu))) a) ⟨Same.refl H2,J⟩ (λj a l h ⟨_,e⟩=>?_) ?_ ?_
 . have:=e.length;rw[aa,da]at this;rw[d9]at h;exact wm (by omega)
 . rintro j a H3 h ⟨U,e⟩;refine V3 ?_;refine⟨by show 0<=1000;decide,λq1 H4 o n4 M=>⟨by show 2<=1000;decide,λq2 q g n5 z=>?_⟩⟩;rw[dy]at z;refine⟨U.trans (o.trans g),?_⟩;rw[Lz];exact qw (e.mono (o.trans g)) (jb ⟨q2,_,J,z,_,_,J,J,_,_,J,⟨q1,[],J,g _ _ M,J⟩,J⟩)
 rintro a H3 ⟨U,e3⟩ L av;rw[d9]at e3;have o:=Same.new av (.lst a);have M:upd H3 L (.lst a) L=some (.lst a):=zd;generalize upd H3 L (.lst a)=H4 at o M⊢;refine⟨L,_,J,.inl ⟨aG.of M,λu ap=>?_⟩⟩;have g:=Same.new ap (.tup a);have z:upd H4 u (.tup a) u=some (.tup a):=zd;generalize upd H4 u (.tup a)=q at g z⊢;have i5:Is q (.tup ((hk d n p).fs.map eC)) (.ref u):=⟨u,a,J,z,by show IsL q (((List.range n).map λi=>((i:Nat),([]:O gu))).map eC) a;rw[bn];exact e3.mono (o.trans g)⟩
 refine⟨_,J,by omega,by omega,?_⟩;refine jq (lo:=0) (n:=(n:Int).toNat) (λj a l=>Same q l/\IsL l ((List.range j).map λi=>eS (eW d n i p)) a) ⟨Same.refl q,J⟩ (λj a l h ⟨_,e⟩=>?_) ?_ ?_
 . have:=e.length;rw[aa,da]at this;rw[d9]at h;exact wm (by omega)
 . rintro j b H6 h ⟨S,e⟩;rw[d9]at h;refine V3 ?_;rw[dy];refine⟨d,n,j,p,J,h,y,h4,λv H7 m i7=>?_⟩;refine⟨S.trans m,?_⟩;rw[Mn];exact qw (e.mono m) (jb i7)
 rintro b H6 ⟨S,e6⟩ G ah;rw[d9]at e6;have m:=Same.new ah (.lst b);have g7:upd H6 G (.lst b) G=some (.lst b):=zd;generalize upd H6 G (.lst b)=H7 at m g7⊢;refine⟨G,_,J,.inl ⟨aG.of g7,λt af=>?_⟩⟩;have R:=Same.new af (.tup b);have g8:upd H7 t (.tup b) t=some (.tup b):=zd;generalize upd H7 t (.tup b)=H8 at R g8⊢;have i8:Is H8 (.tup ((hk d n p).ss.map eS)) (.ref t):=⟨t,b,J,g8,by show IsL H8 (((List.range n).map λi=>eW d n i p).map eS) b;rw[bn];exact e6.mono (m.trans R)⟩
 have S8:Same q H8:=S.trans (m.trans R);refine⟨d,n,J,h1,y,by show 4<=1000;decide,λl5 H9 N n9 g9=>?_⟩;have S9:Same H H9:=S2.trans (U.trans (o.trans (g.trans (S8.trans N))));have i9:Is H9 (eH (hk d n p)) (.ref l5):=⟨l5,_,J,g9,_,_,J,J,_,_,J,J,_,_,J,i5.mono (S8.trans N),_,_,J,i8.mono N,J⟩
 exact⟨⟨hk d n p,_,J,i9,hG.fl⟩,λay r=>⟨_,J,yi (kk _ _ (S9.trans r) (i9.mono r))⟩⟩
end
theorem IE:bootBuiltins "sorted"=some (.builtin "sorted"):=by decide+kernel
noncomputable abbrev Zs:Stmt:=(xx nY).getD 4 dH
noncomputable abbrev sZ:Stmt:=(xx nY).getD 5 dH
noncomputable def fX(q:List Nat×Nat):T:=.tup [hT q.1,.int (q.2:Int)]
theorem nT(q:O Nat×Nat):dQ (fX q):=⟨ju _,trivial,trivial⟩
theorem J7(ns:O (O Nat×Nat)):qt (ns.map fX):=qt.all.mpr λt a=>by obtain⟨q,_,rfl⟩:=bu.mp a;exact nT q
noncomputable def fW(hs:aB)(h:List Nat):List (List Nat×Nat):=(List.range ((mM hs).scr h).length).map λp=>(h,p)
structure Gw(H0 H:Hp)(l:Addr)(ts:List T)(ys:List V):Prop where
 same:Same H0 H
 at':H l=some (.lst ys)
 it:IsL H ts ys
theorem Gw.apps{f H:Hp}{l:Y}{d us:O T}{c a:O V}(j:f l=none)(g:Gw f H l d c)(n:qt d)(m:qt us)(s:Same H H1)(i:IsL H1 us a):Gw f (upd H1 l (.lst (c++a))) l (d++us) (c++a):=by
 have h:yu H1 (upd H1 l (.lst (c++a))):=λb p e=>by rw[upd_ne (λz=>by rw[z,s _ _ g.at']at e;cases e)];exact e
 refine⟨λb o e=>?_,zd,?_⟩
 . rw[upd_ne (λz=>by rw[z,j]at e;cases e)];exact s _ _ (g.same _ _ e)
 . exact qw (IsL.tups h n (g.it.mono s)) (IsL.tups h m i)
inductive jI(cP cR:Addr)(vs:List V)(H:Hp)(Q:VK)(e0:XK):Prop|mk:∀(x:Addr)(hs:aB)(L:RL)(q:List Nat×Nat)(d:aI)(vn:V),vs=[.ref x,vn]->aM H cP cR hs L x->q.1∈zh (plan hs)->Is H (fX q) vn->((mM hs).scr q.1)[q.2]?=some d->(∀v,Is H (eD d) v->Q v H)->jI cP cR vs H Q e0
inductive mf(cP cR:Addr)(vs:List V)(H:Hp)(Q:VK)(e0:XK):Prop|mk:∀(x:Addr)(hs:aB)(L:RL),vs=[.ref x]->aM H cP cR hs L x->Flat hs->(∀l (ks:List (List Nat)) H',Same H H'->H l=none->ks.Perm (zh (plan hs))->Is H' (.lst ((ks.flatMap (fW hs)).map fX)) (.ref l)->Q (.ref l) H')->mf cP cR vs H Q e0
section
variable{K:W.Frag}
theorem FP:aA ["self","name"] ["self","name"] (zf sZ):=.of
theorem Fs(D:qk K cP "what" "Plan.what" sZ)(o:aH K cP aZ)(CR:aH K cR aT):bU P w K mg base cP "what" 1 ["self","name"] (jI cP cR):=by refine ku (k:=0) D FP ?_;rintro f af A g s H t Q E S ⟨x,hs,L,q,d,vn,rfl,PA,W,G,Z,F⟩ X;have R:=ji S;refine⟨_,zg (zk (zr zt (zx (wg R (zx (pv 0) J) (zr zt (pv 1) ze)) J) (zr zt (pv 1) ze))),?_⟩;obtain⟨dp,vv,ar,y,U,j,b,m,vc,t,ab,an,ac,C,z,_⟩:=PA.role W;obtain⟨a,xs,rfl,n,v1,r,rfl,N,v,e,rfl,M,c⟩:=G;cases(show e=[]from c);cases(show v=.int (q.2:Int)from M);obtain⟨bh,rfl,i⟩:=kz N;obtain⟨aS,p,rfl,l,h⟩:=z;obtain⟨u,e1,e2⟩:=h.get (i:=q.2) (t:=eD d) (by rw[au,Z];rfl);exact⟨x,cP,dp,_,_,J,U,o.cls,o.n,vi,a,_,_,_,J,J,aE.of n,J,ar,_,J,b▸DGet.t j i,y,cR,m,_,_,J,C,CR.cls,CR.n,qd,a,_,_,_,J,J,aE.of n,J,aS,p,_,u,J,J,aE.of l,y9 e1,F u e2⟩
theorem Vb:aA ["self","names","hand"] ["self"] (zf Zs):=.of
theorem L8(D:qk K cP "every_deed" "Plan.every_deed" Zs)(T:Txt K mg)(CP:aH K cP aZ)(CR:aH K cR aT):bU P w K mg base cP "every_deed" 1 ["self"] (mf cP cR):=by
 refine ku (k:=0) D Vb ?_;rintro f bw A ah s H vs Q E hr ⟨x,a,L,rfl,PA,F,kk⟩ X;have hu:=ji hr;have nd:=Vb.nd;refine⟨_,zb (zo (i:=1) nd (w9 zc)) (zb (wy PassesOwn.never J (qi (yf (JY J) J T.sorted IE (za (zx (pv 0) J) zc))) (zp (i:=2) nd) (zg (wo (ja PySem.F.plainAttrs_list PySem.F.slot_list_extend PySem.F.type_list_extend Xq (pv 1) (za (qc (own:=["place"]) (cap:=[2]) J (yt (zf Zs) J J (by decide+kernel) (by decide+kernel) (by decide+kernel) ⟨⟨_,J,.inl J,v8 J⟩,trivial⟩) (ww J T.range (za (yf yg J T.len we (za (zx (wg hu (zx (pv 0) J) (pv 2)) J) zc)) zc)) (λ_ _ _ _=>zp (i:=0) (by show(["place","hand"]:O Str).Nodup;decide+kernel)) (λ_ _ _ _=>xu) (λ_ _ _ _=>xi (za (pv 1) (za (pv 0) zc)))) zc)))))
  (zg (zk (pv 1)))),?_⟩
 refine⟨by show 0<=1000;decide,λl H1 s1 n1 g1=>?_⟩;obtain⟨dp,vh,ar,hp,ih,a7,ba,bk⟩:=id PA;have a3:(yw L).map (·.1)=((zh (plan a)).map hZ).map kI:=by rw[<-Zf ba];unfold yw vp;rw[bn,bn,bn];rfl
 have bl:(zh (plan a)).length<=60:=by rw[uB];exact F.law.pl.few60
 refine⟨x,cP,dp,_,_,J,s1 _ _ hp,CP.cls,CP.n,vi,ar,(zh (plan a)).map hZ,J,⟨_,s1 _ _ a7,a3⟩,λg hg=>?_,by rw[aa];omega,λv o ix r=>?_⟩
 . obtain⟨h,y,rfl⟩:=bu.mp hg;obtain⟨i,_,rfl⟩:=F.mem.mp y;exact λz=>by cases z
 obtain⟨d,bb,N⟩:=G9 (HG ((zh (plan a)).map hZ)) J;rw[bb]at ix;have M:=Same.new r (.lst v);have g2:upd H1 o (.lst v) o=some (.lst v):=zd;have nl:o≠l:=λz=>by rw[z,g1]at r;cases r
 generalize upd H1 o (.lst v)=H2 at M g2⊢;have S:=ix.length;rw[aa,aa]at S;have bi:=N.length_eq;have nk:d.Nodup:=N.nodup_iff.mpr (ka a);have tot:∀i,((d.take i).flatMap (fW a)).length<=1200:=λi=>by
  have e:((d.take i).flatMap (fW a)).length=((d.take i).map λh=>((mM a).scr h).length).sum:=by rw[List.length_flatMap];congr 1;refine List.map_congr_left λh _=>?_;unfold fW;rw[aa,da]
  have q:=W4 (f:=λh=>((mM a).scr h).length) (l:=d.take i) (all:=zh (plan a)) (nk.sublist (List.take_sublist i d)) λh y=>N.mem_iff.mp (List.mem_of_mem_take y);have q2:tot (mM a) (zh (plan a))=Q4 a.ss (plan a):=W0 (ka a);have q4:Q4 a.ss (plan a)<=1200:=F.law.pl.deeds;unfold My.tot at q2;omega
 have hb:without [l] H2 l=none:=yk (by simp);have ap:o ∉ [l]:=λZ=>nl (ak.mp Z);have tw:yu H2 (without [l] H2):=λb n e=>by rw[yj (λZ=>by rw[ak.mp Z,M _ _ g1]at e;cases e)];exact e
 have s0:Same H (without [l] H2):=(s1.trans M).without λm Z=>by rw[ak.mp Z];exact n1
 refine⟨o,J,⟨v,aG.of g2⟩,?_⟩;refine Zn (K:=K) (a:=o) (xs:=v) (λi σ G=>∃(x2:Option V)(n:O V),σ=[some (.ref x),some (.ref l),x2]/\Gw (without [l] H2) G l (((d.take i).flatMap (fW a)).map fX) n)
  ⟨none,[],J,xq,M _ _ g1,J⟩ (λi σ G _ ⟨_,n,_,g⟩=>aG.of (g.same _ _ (by rw[yj ap];exact g2))) ?_ ?_
 . rintro i z σ G hz ⟨x2,n,rfl,g⟩;obtain⟨tt,W,iz⟩:=ix.get' hz;rw[bn,au]at W;obtain⟨h,y,rfl⟩:=cw.mp W;have R:Is G (hT h) z:=((iz.mono M).tups tw (ju _)).mono g.same;have a5:h∈zh (plan a):=N.mem_iff.mp (bv y);obtain⟨bh,rfl,a6⟩:=kz R;obtain⟨bd,vv,bg,rl,av,af,U,bc,vc,vs,ab,an,ac,r1,r2,_⟩:=(PA.same (s0.trans g.same)).role a5;obtain⟨aS,xS,rfl,a8,ay⟩:=r2;have t:=ay.length;rw[aa]at t;have et:d.take (i+1)=d.take i++[h]:=by rw[cq,y];rfl
   have aw:(fW a h).length=xS.length:=by unfold fW;rw[aa,da,t]
   have t2:=tot (i+1);rw[et,List.flatMap_append,cj,List.flatMap_singleton,aw]at t2;have gl:=g.it.length;rw[aa]at gl;refine⟨.inl ⟨J,_,aG.of g.at'⟩,x,cP,bd,_,_,J,av,CP.cls,CP.n,vi,bg,_,J,U▸DGet.t af a6,rl,cR,bc,_,_,J,r1,CR.cls,CR.n,qd,aS,xS,J,.inr (aE.of a8),_,J,by omega,by omega,?_⟩;refine jq (lo:=0) (n:=(xS.length:Int).toNat) (λj c u=>Same G u/\IsL u (((List.range j).map λp=>(h,p)).map fX) c) ⟨Same.refl _,J⟩ (λj c u hj ⟨_,e⟩=>?_) ?_ ?_
   . rw[e.length,aa,aa,da,sizeLine_eq];rw[d9]at hj;omega
   . rintro j c u hj ⟨sj,ej⟩;refine V3 ?_;refine⟨by show 2<=1000;decide,λp3 G3 s3 n3 g3=>⟨sj.trans s3,?_⟩⟩;rw[dy]at g3;rw[List.range_succ,ax,ax];exact qw (ej.mono s3) (jb ⟨p3,_,J,g3,IsL.two ((R.mono sj).mono s3) J⟩)
   . rintro c u ⟨sj,ej⟩ l3 aK;rw[d9,t]at ej;have s4:=Same.new aK (.lst c);have g4:upd u l3 (.lst c) l3=some (.lst c):=zd;generalize upd u l3 (.lst c)=G4 at s4 g4⊢;have C:=sj.trans s4;have zl:=ej.length;rw[aa,aa,da]at zl;refine⟨l,l3,n,c,J,J,C _ _ g.at',g4,by rw[sizeLine_eq];omega,?_⟩;refine⟨_,n++c,J,?_⟩;rw[et,List.flatMap_append,ax,List.flatMap_singleton];exact g.apps hb (J7 _) (J7 _) C (ej.mono s4)
 . rintro σ G ⟨x2,n,rfl,g⟩;rw[S,cr]at g;exact kk l d G (s0.trans g.same) n1 N ⟨l,n,J,g.at',g.it⟩
end
noncomputable abbrev ul:Stmt:=aX 78
noncomputable def jB:List (List Nat)->List (List Nat)->List (List Nat×Nat)|_,[]=>[]|G,h::r=>(h,G.count h)::jB (G++[h]) r
noncomputable def dC(G:List (List Nat)):List (List Nat×Nat):=jB [] G
theorem zO:∀(us a vs:List (List Nat)),jB a (us++vs)=jB a us++jB (a++us) vs|[],a,vs=>by rw[cp];rfl| h::us,a,vs=>by show(h,_)::jB (a++[h]) (us++vs)=(h,_)::(jB (a++[h]) us++_);rw[zO us,List.append_assoc];rfl
theorem GG(us:O (O Nat))(h:O Nat):dC (us++[h])=dC us++[(h,us.count h)]:=zO us [] [h]
theorem tS:∀(us a:List (List Nat)),(jB a us).length=us.length|[],_=>rfl|h::us,a=>congrArg (· +1) (tS us (a++[h]))
inductive lX(vs:List V)(H:Hp)(Q:VK)(e0:XK):Prop|mk:∀(aw:Addr)(ws:List (List Nat)),vs=[.ref aw]->bY H aw ws->ws.length<=1200->(∀l H',Same H H'->H l=none->Is H' (.lst ((dC ws).map fX)) (.ref l)->Q (.ref l) H')->lX vs H Q e0
section
variable{K:W.Frag}
theorem Bo:aA ["weaving","done","names","hand"] ["weaving"] (zf ul):=.of
theorem GV(D:bG K mg "named" ul):Ok P w K mg base "named" 1 ["weaving"] lX:=by
 refine wa (k:=0) D Bo ?_;rintro f ay A af s H Z Q E hr ⟨aw,d,rfl,⟨Z,F,C⟩,hw,kk⟩ X;have hu:=ji hr;have nd:=Bo.nd;refine⟨_,zb (zo (i:=1) nd Y5) (zb (zo (i:=2) nd (w9 zc)) (zb (wy PassesOwn.never J (qi (pv 0)) (zp (i:=3) nd) (zb (wo (ja PySem.F.plainAttrs_list PySem.F.slot_list_append PySem.F.type_list_append qf (pv 2) (za (xi (za (pv 3) (za (Vu hu (pv 1) (pv 3) ze ⟨J,J,J,J⟩) zc))) zc))) (zg (Yj hu (pv 1) (pv 3) (ya xv (Vu hu (pv 1) (pv 3) ze ⟨J,J,J,J⟩) ze) J))))
  (zg (zk (pv 2))))),?_⟩
 have L:=C.length;rw[aa]at L;intro ad R;have r:=Same.new R (.dT []);have g1:upd H ad (.dT []) ad=some (.dT []):=zd;generalize upd H ad (.dT [])=H1 at r g1⊢;refine⟨by show 0<=1000;decide,λl H2 s2 n2 g2=>?_⟩;have u:ad≠l:=λz=>by rw[<-z,g1]at n2;cases n2
 have hb:∀b,b∈[l,ad]->H b=none:=λb hm=>by
  rcases ag.mp hm with z|z
  . rw[z];exact xa r n2
  . rw[ak.mp z];exact R
 have s0:Same H (without [l,ad] H2):=(r.trans s2).without hb;have ah:without [l,ad] H2 l=none:=yk (by simp);have ap:without [l,ad] H2 ad=none:=yk (by simp);refine⟨aw,J,⟨Z,aG.of ((r.trans s2) _ _ F)⟩,?_⟩;refine Zn (K:=K) (a:=aw) (xs:=Z) (λi W G=>∃(x3:Option V)(a:O V)(m:O (O aJ×V)),W=[some (.ref aw),some (.ref ad),some (.ref l),x3]/\Same (without [l,ad] H2) G/\G l=some (.lst a)/\IsL G ((dC (d.take i)).map fX) a/\G ad=some (.dT m)/\m.length<=i/\∀h:O Nat,(yq m (kI (hZ h))).getD (.int 0)=.int ((d.take i).count h:Int))
  ⟨none,[],[],J,xq,g2,J,s2 _ _ g1,ae _,λh=>rfl⟩ (λi W G _ ⟨_,_,_,_,q,_⟩=>aG.of ((s0.trans q) _ _ F)) ?_ ?_
 . rintro i z W G hz ⟨x3,a,m,rfl,q,S,x,gd,av,hc⟩;have hi:i<Z.length:=(ci.mp hz).1;obtain⟨tt,M,iz⟩:=C.get' hz;rw[au]at M;obtain⟨h,hh,rfl⟩:=cw.mp M;have v:Is G (hT h) z:=iz.mono (s0.trans q);obtain⟨bh,rfl,N⟩:=kz v;have et:d.take (i+1)=d.take i++[h]:=by rw[cq,hh];rfl
   have yl:=x.length;rw[aa]at yl;have nl:=tS (d.take i) [];rw[d5]at nl;have nl:(dC (d.take i)).length=min i d.length:=nl;refine⟨.inl ⟨J,_,aG.of S⟩,ad,J,.inr ⟨_,.inl gd⟩,_,DGet.t gd N,?_⟩;rw[hc h];refine⟨by show 2<=1000;decide,λj p n n3 g3=>⟨l,a,_,J,J,n _ _ S,by rw[sizeLine_eq];omega,?_⟩⟩;have t4:yu p (upd p l (.lst (a++[.ref j]))):=yu.upd (n _ _ S) (λ_ z=>by cases z);have g:upd p l (.lst (a++[.ref j])) ad=some (.dT m):=by rw[upd_ne u];exact n _ _ gd
   have U:upd p l (.lst (a++[.ref j])) bh=some (.tup ((kI (hZ h)).map kV)):=t4 _ _ (n _ _ N);refine⟨ad,J,.inr ⟨_,.inl g⟩,_,DGet.t g U,?_⟩;rw[hc h];refine⟨_,_,J,J,ad,_,J,Q7.t g U (by rw[sizeLine_eq];omega),?_⟩;have t5:yu (upd p l (.lst (a++[.ref j]))) (upd (upd p l (.lst (a++[.ref j]))) ad (.dT (v4 m (kI (hZ h)) (.int (((d.take i).count h:Int)+1))))):=yu.upd g (λ_ z=>by cases z);have lp:=wc m (kI (hZ h)) (.int (((d.take i).count h:Int)+1));refine⟨_,a++[.ref j],_,J,λb o e=>?_,?_,?_,zd,by omega,λh'=>?_⟩
   . rw[upd_ne (λz=>by rw[z,ap]at e;cases e),upd_ne (λz=>by rw[z,ah]at e;cases e)];exact n _ _ (q _ _ e)
   . rw[upd_ne (ai u)];exact zd
   . rw[et,GG,ax];exact(qw ((x.mono n).tups t4 (J7 _)) (jb (Is.tups t4 (nT (h,(d.take i).count h)) (show Is p (fX (h,(d.take i).count h)) (.ref j)from⟨j,_,J,g3,IsL.two (v.mono n) J⟩)))).tups t5 (qt.all.mpr λt ht=>by
      rcases ce.mp ht with y|y
      . exact qt.all.mp (J7 _) t y
      . rw[ak.mp y];exact nT _)
   . rw[kj,et,List.count_append];by_cases c:h'=h
     . rw[c,if_pos J];simp
     . rw[if_neg (λz=>c (qr (aR z))),hc h',List.count_singleton,if_neg (by simpa using ai c),Nat.add_zero]
 . rintro W G ⟨x3,a,m,rfl,q,S,x,_⟩;rw[L,cr]at x;exact kk l G (s0.trans q) (xa r n2) ⟨l,a,J,S,x⟩
end
noncomputable abbrev Vi:Stmt:=aX 96
theorem Ed:bootBuiltins "max"=some (.builtin "max"):=by decide+kernel
noncomputable def Wn:aI->Bool|.awa _ _=>true|_=>false
noncomputable def eB(hs:aB)(ns:List (List Nat×Nat)):List (List Nat×Nat):=ns.filter λq=>((((mM hs).scr q.1)[q.2]?).map Wn).getD false
noncomputable def hF(lk:Nat->Nat->Bool):Nat->Nat->Int|0,_=>1|i+1,j=>if i<j/\lk i j=true then(if hF lk i i+1>hF lk i j then hF lk i i+1 else hF lk i j)else hF lk i j
noncomputable def mI(lk:List Nat×Nat->List Nat×Nat->Bool)(G:List (List Nat×Nat)):Int:=(eQ none ((List.range G.length).map (hF (λi j=>lk (G.getD i ([],0)) (G.getD j ([],0))) G.length))).getD 0
theorem sJ:∀{us d:List (List Nat)}{q:List Nat×Nat},q∈jB d us->q.1∈us/\d.count q.1<=q.2/\q.2<(d++us).count q.1
 |[],_,_,h=>nomatch h
 | h::us,d,q,f=>by
   rcases ag.mp f with e|e
   . rw[e];refine⟨bp,ae _,?_⟩;show d.count h<(d++h::us).count h;rw[List.count_append,List.count_cons_self];omega
   . obtain⟨a,b,c⟩:=sJ e;rw[List.append_assoc]at c;rw[List.count_append]at b;exact⟨bq _ a,by omega,c⟩
theorem xP:∀(us a:List (List Nat)),(jB a us).Nodup|[],_=>List.nodup_nil| h ::us,a=>bz.mpr ⟨λz=>by obtain⟨_,b,_⟩:=sJ z;have b:(a++[h]).count h<=a.count h:=b;rw[List.count_append,List.count_cons_self]at b;omega,xP us _⟩
theorem xQ{hs:aB}{st:WS (O Nat)}(F:Flat hs)(W:Wv (mM hs) (zh (plan hs)) st){q:O Nat×Nat}(b:q∈dC st.wov):q.1∈zh (plan hs)/\∃d,((mM hs).scr q.1)[q.2]?=some d:=by
 obtain⟨a,_,c⟩:=sJ b;have c:q.2<st.wov.count q.1:=c;have e:=W.cnt q.1;have hk:q.1∈zh st.done:=Classical.byContradiction λz=>by have:=Xv z;rw[rJ,e]at c;omega
 have lo:=W.low q.1 hk;rw[rJ,e]at c;exact⟨W.sub _ hk,_,bo (by omega)⟩
noncomputable def Wl(q:List Nat×Nat):List Int×Int:=(hZ q.1,(q.2:Int))
theorem AF{a b:O Nat×Nat}(h:Wl a=Wl b):a=b:=Prod.ext (qr (congrArg Prod.fst h)) (Int.ofNat.inj (congrArg Prod.snd h))
theorem sF{b:O (O Nat×Nat)}(c:b.Nodup):(b.map Wl).Nodup:=List.pairwise_map.mpr (c.imp λa e=>a (AF e))
section
variable{κ:Type}[DecidableEq κ]
theorem F0{kvs:List (κ×V)}{k:κ}(h:k ∉ kvs.map (·.1)):yq kvs k=none:=by cases e:yq kvs k with|none=>rfl|some v=>exact absurd (Wy e) h
theorem BQ:∀(rows kvs:List (κ×V)),((kvs++rows).map (·.1)).Nodup->Zt rows kvs=kvs++rows
 |[],kvs,_=>(cp kvs).symm
 | r::rows,kvs,h=>by
   have e:kvs++r::rows=(kvs++[r])++rows:=by simp
   have hn:r.1 ∉ kvs.map (·.1):=λz=>by rw[ax,List.nodup_append]at h;exact h.2.2 _ z _ bp J
   show Zt rows (v4 kvs r.1 r.2)=_;rw[Zl _ (F0 hn),e];exact BQ rows (kvs++[r]) (e▸h)
theorem ug:∀{kvs:List (κ×V)}{j:Nat}{r:κ×V},(kvs.map (·.1)).Nodup->kvs[j]?=some r->yq kvs r.1=some r.2|p::kvs,0,r,_,e=>by cases e;exact xz J| p::kvs,j+1,r,h,e=>by have h:(p.1::kvs.map (·.1)).Nodup:=h;have h:=bz.mp h;have e:kvs[j]?=some r:=e;rw[xl (λz=>h.1 (by rw[z];exact List.mem_map_of_mem (f:=(·.1)) (bv e)))];exact ug h.2 e
theorem Hk{kvs:O (κ×V)}{k:κ}(h:k∈kvs.map (·.1)):(v4 kvs k v).map (·.1)=kvs.map (·.1):=by unfold v4;rw[if_pos (by obtain⟨q,a,rfl⟩:=bu.mp h;exact List.any_eq_true.mpr ⟨q,a,bj J⟩),bn];refine List.map_congr_left λq _=>?_;show(if q.1=k then(q.1,v)else q).1=q.1;split<;>rfl
end
inductive gw(aw:List (List Nat×Nat))(f:Nat->Int)(kvs:List ((List Int×Int)×V)):Prop|mk:kvs.map (·.1)=aw.map Wl->(∀j q,aw[j]?=some q->yq kvs (Wl q)=some (.int (f j)))->gw aw f kvs
theorem gw.to{a:O (O Nat×Nat)}{f g:Nat->Int}{kvs:O ((O Int×Int)×V)}(h:gw a f kvs)(e:∀j,j<a.length->f j=g j):gw a g kvs:=by obtain⟨d,c⟩:=h;exact⟨d,λj q b=>by rw[<-e j (ci.mp b).1];exact c j q b⟩
theorem gw.vals{a:O (O Nat×Nat)}{f:Nat->Int}{kvs:O ((O Int×Int)×V)}(i:a.Nodup)(h:gw a f kvs):kvs.map (·.2)=((List.range a.length).map f).map V.int:=by
 obtain⟨d,l⟩:=h;have m:kvs.length=a.length:=by have:=congrArg List.length d;rwa[aa,aa]at this
 rw[bn];refine List.ext_getElem? λj=>?_;by_cases c:j<a.length
 . rw[au,au,List.getElem?_range c];have e:=bo (l:=kvs) (i:=j) (by omega);have g:=bo c;have b:(kvs.map (·.1))[j]?=(a.map Wl)[j]?:=by rw[d]
   rw[au,au,e,g]at b;have b:(kvs[j]).1=Wl a[j]:=Option.some.inj b;have v:=ug (by rw[d];exact sF i) e;rw[b,l j _ g]at v;rw[e];exact v.symm
 . rw[f8 (by rw[aa];omega),f8 (by rw[aa,da];omega)]
theorem gw.put{b:O (O Nat×Nat)}{f:Nat->Int}{kvs:O ((O Int×Int)×V)}{q:O Nat×Nat}{x:Int}(l:b.Nodup)(h:gw b f kvs)(d:b[j]?=some q):gw b (λi=>if i=j then x else f i) (v4 kvs (Wl q) (.int x)):=by
 obtain⟨e,m⟩:=h;refine⟨(Hk (by rw[e];exact List.mem_map_of_mem (bv d))).trans e,λi g a=>?_⟩;rw[kj];by_cases c:i=j
 . subst c;rw[d]at a;cases a;rw[if_pos J,if_pos J]
 . rw[if_neg (λz=>c ((List.getElem?_inj (ci.mp a).1 l).mp (a.trans ((congrArg some (AF z)).trans d.symm)))),if_neg c];exact m i g a
theorem IM{b a:Type}{R:b->a->Prop}{xs:List b}{c:List a}{x:b}{y:a}(p:Paired R xs c)(h:R x y):Paired R (xs++[x]) (c++[y]):=by induction p with|nil=>exact .cons h .nil|cons e _ d=>exact .cons e d
theorem C5(lk:Nat->Nat->Bool)(i:Nat):hF lk (i+1) i=hF lk i i:=if_neg (λz=>cy _ z.1)
theorem C7(c:i<j):hF lk (i+1) j=if lk i j=true then(if hF lk i i+1>hF lk i j then hF lk i i+1 else hF lk i j)else hF lk i j:=by show(if i<j/\lk i j=true then _ else _)=_;cases e:lk i j with|true=>rw[if_pos ⟨c,J⟩,if_pos J]|false=>rw[if_neg (λz=>br z.2),if_neg br]
theorem C6(c:j<=i):hF lk (i+1) j=hF lk i j:=if_neg (λz=>by omega)
theorem zA{a:Type}{xs:O a}{x d:a}(h:xs[i]?=some x):xs.getD i d=x:=by rw[c7,h];rfl
theorem Gy{a:Type}(xs:O a)(i:Nat):Xh xs (some ((i:Int)+1)) none=xs.drop (i+1):=by
 unfold Xh;rw[show(i:Int)+1=((i+1:Nat):Int)from by omega,HT.oj,HT.qS,List.take_of_length_le (by rw[List.length_drop];omega)];by_cases c:i+1<=xs.length
 . rw[Nat.min_eq_left c]
 . rw[List.drop_of_length_le (by omega),List.drop_of_length_le (by omega)]
inductive mh(cP cR:Addr)(vs:List V)(H:Hp)(Q:VK)(e0:XK):Prop| mk:∀(xp:Addr) (hs:aB) (L:RL) (lk:List Nat×Nat->List Nat×Nat->Bool),vs=[.ref xp]->aM H cP cR hs L xp->Flat hs->(∀one other n,(yd hs (yp one.1 one.2) n).ready=[]->decide (other.2<yb (yd hs (yp one.1 one.2) n).done other.1)= !lk one other)->
   (∀n0 H',Same H H'->(yd hs [] n0).ready=[]->Q (.int (mI lk (eB hs (dC (yd hs [] n0).wov)))) H')->mh cP cR vs H Q e0
section
variable{K:W.Frag}{cS cU:Addr}
theorem A1:aA ["plan","woven","awaits","heights","place","one","stop","other"] ["plan"] (zf Vi):=.of
theorem GN(D:bG K mg "depth_of" Vi)(T:Txt K mg)(bK:mg "max"=none)(CP:aH K cP aZ)(CS:aH K cS dU)(oF:Ok P w K mg base "first_run" 4 ["plan"] (fU cU cP cR))(oO:Ok P w K mg base "woven_on" 5 ["run","held"] (fT P w cU cP cR))(oN:Ok P w K mg base "named" 1 ["weaving"] lX)(oW:bU P w K mg base cP "what" 1 ["self","name"] (jI cP cR))(oS:eX P w K mg base "Stop" cS 6 ["self","plan","one"] (jL cS cU cP cR))(oL:bU P w K mg base cS "lacks" 2 ["self","other"] (jP cS cU)):Ok P w K mg base "depth_of" 8 ["plan"] (mh cP cR):=by
 refine wa (k:=7) D A1 ?_;rintro f ew A cb s H vs Q E hr ⟨xp,h,L,lk,rfl,PA,F,dq,kk⟩ X;have nd:=A1.nd;have a8:=qH hr;have c3:=sy hr;refine⟨_,zb (zo (i:=1) nd (yc oN (hr.mono (by decide)) (za (yc oO (hr.mono (by decide)) (za (yc oF (hr.mono (by decide)) (za (pv 0) zc)) (za (Vr (τ:=cV)) zc))) zc))) (zb (Vn (i:=2) (own:=["name"]) (cap:=[0]) J (yt (zf Vi) J J (by decide+kernel) (by decide+kernel) (by decide+kernel) ⟨⟨_,J,.inl J,v8 J⟩,trivial⟩) (qi (pv 1)) (λ_ _ _ _=>zp (i:=0) (by show(["name","plan"]:O Str).Nodup;decide+kernel)) (λ_ _ _ _=>jp (zm y0 (zr (r:=cO K) zt (v6 oW CP.cls (hr.mono (by decide)) (pv 1) (za (pv 0) zc)) ze (λ_ _=>rfl)) zi (zu _))) (λ_ _ _ _=>pv 0) nd J J (by with_unfolding_all rfl))
  (zb (zo (i:=3) nd (yx (JT (τ:=cV) J c3) J T.dict Ka (za (qc (own:=["name"]) (cap:=[]) J (yt (zf Vi) J J (by decide+kernel) (by decide+kernel) (by decide+kernel) trivial) (qi (pv 2)) (λ_ _ _ _=>zp (i:=0) (by show(["name"]:O Str).Nodup;decide+kernel)) (λ_ _ _ _=>xu) (λ_ _ _ _=>xi (za (pv 0) (za ze zc)))) zc)))
  (zb (wy PassesOwn.never J (AR J T.enumerate (za (pv 2) zc)) (j2 J (yv (zp (i:=4) nd) (yv (zp (i:=5) nd) qv))) (zb (zo (i:=6) nd (mW oS (hr.mono (by decide)) (za (pv 0) (za (pv 5) zc)))) (zg (wy PassesOwn.never J (qi (kr wQ (pv 2) (Zu (ya xv (pv 4) ze)) Zv)) (zp (i:=7) nd) (zg (ye (y7 (v6 oL CS.cls (hr.mono (by decide)) (pv 6) (za (pv 7) zc))) (zg (zR (τ:=cV) a8 (pv 3) (pv 7) (yf (IG J) J bK Ed (za (Vs (τ:=cV) a8 (pv 3) (pv 7) (λ_ _=>rfl)) (za (ya xv (Vs (τ:=cV) a8 (pv 3) (pv 5) (λ_ _=>rfl)) ze) zc))) J)) zn))))))
  (zg (zk (FB J bK J (za (yx (JV (τ:=cV) J) J T.list J9 (za (F4 (τ:=cV) (pv 3)) zc)) zc))))))),?_⟩
 have PH:=F.law.pl;refine⟨xp,h,L,J,PA,PH,λxr ad as H0 H2 b9 s2 ek RF RM=>?_⟩;refine(λah o dv hg=>?_);have s3:=Same.new dv o;generalize upd H2 ah o=H3 at s3 hg⊢;obtain⟨RA,GH,sw⟩:=Kw RF s2 RM s3 hg;refine⟨_,xr,ad,as,ah,h,L,_,_,[],J,RA,GH,PH,Xf PH,Wu h,λn0 ao H4 s4 eu rm l4 aK bE=>?_⟩;have b8:Same H H4:=b9.trans (sw.trans s4);have k2:=kk n0;generalize dV:yd h [] n0=st at k2;have b0:jH h [] (xj (Yp (plan h))) (jf h) n0=st:=dV;rw[b0]at l4 aK bE;have bC:st.wov.length<=1200:=by have q:=aK.most;have q2:tot (mM h) (zh (plan h))=Q4 h.ss (plan h):=W0 (ka h);have q4:Q4 h.ss (plan h)<=1200:=PH.deeds;omega
 refine⟨ao,st.wov,J,l4,bC,λl5 H5 s5 n5 i5=>?_⟩;obtain⟨ee,b5,e5,bL,bB⟩:=i5;cases e5;have bl:=b8.trans s5;have y:(dC st.wov).length=st.wov.length:=tS _ _;have bg:=bB.length;rw[aa,y]at bg;refine⟨l5,J,⟨b5,aG.of bL⟩,?_⟩;refine Zy (λi zs G=>Same H5 G/\IsL G ((eB h ((dC st.wov).take i)).map fX) zs) ⟨Same.refl _,J⟩ (λi zs G hi ⟨g,e⟩=>⟨aG.of (g _ _ bL),?_⟩) ?_ ?_
 . rw[e.length,aa];have:=f9 (λq=>((((mM h).scr q.1)[q.2]?).map Wn).getD false) ((dC st.wov).take i);rw[d5]at this;unfold eB;rw[sizeLine_eq];omega
 . rintro i z zs G hz ⟨g,ez⟩;obtain⟨tt,m,iz⟩:=bB.get' hz;rw[au]at m;obtain⟨q,hq,rfl⟩:=cw.mp m;obtain⟨dn,d,hd⟩:=xQ F aK (bv hq);have b3:=PA.same (bl.trans g);obtain⟨d2,vh,ar,c0,_⟩:=id b3;have et:eB h ((dC st.wov).take (i+1))=eB h ((dC st.wov).take i)++if Wn d=true then[q]else[]:=by unfold eB;rw[cq,hq,List.filter_append];congr 1;show List.filter _ [q]=_;rw[List.filter_cons,hd];rfl
   refine⟨xp,d2,_,J,c0,J,xp,h,L,q,d,z,J,b3,dn,iz.mono g,hd,λv iv=>?_⟩;obtain⟨rr,dg⟩:=Yb d;obtain⟨a5,x5,rfl,dE,v1,r1,rfl,i1,_⟩:=(dg▸iv)
   cases(i1);refine⟨a5,_,0,.str (dw d),J,J,aE.of dE,(show cE (.str (dw d)::r1) ((0:Nat):Int)=_ from y9 J),J,_,J,?_⟩;have ed:decide (V.str (dw d)=V.str "await")=Wn d:=by cases d<;>rfl
   rw[ed];cases ca:Wn d with| true=>rw[ca,if_pos J]at et;refine wf ⟨g,?_⟩;rw[et,ax];exact IsL.append ez ⟨_,_,J,iz.mono g,J⟩| false=>rw[ca,if_neg br,cp]at et;refine yi ⟨g,?_⟩;rw[et];exact ez
 rintro ys G ⟨g,iy⟩ p7 bJ;rw[bg,<-y,cr]at iy;have s7:=Same.new bJ (.lst ys);have g7:upd G p7 (.lst ys) p7=some (.lst ys):=zd;generalize upd G p7 (.lst ys)=H7 at s7 g7⊢;have N:=iy.mono s7;have b7:=bl.trans (g.trans s7);have C:(eB h (dC st.wov)).Nodup:=(xP _ _).filter _;have d4:∀q∈eB h (dC st.wov),q.1∈zh (plan h):=λq hq=>(xQ F aK (List.mem_filter.mp hq).1).1;have d3:(eB h (dC st.wov)).length<=1200:=c9 (f9 _ _) (by rw[y];exact bC);clear iy g bJ s7;have k3:=λH' a b=>k2 H' a b;clear k2;generalize eB h (dC st.wov)=u at N C d4 d3 k3;have aS:=N.length;rw[aa]at aS;refine⟨p7,J,⟨ys,aG.of g7⟩,?_⟩;refine Zy (λi zs G=>∃W:O Y,zs=W.map V.ref/\Same H7 G/\Paired (fr cV G) W ((u.take i).map λq=>(Wl q,V.int 1))) ⟨[],J,Same.refl _,.nil⟩ (λi zs G hi ⟨W,e,g,pb⟩=>⟨aG.of (g _ _ g7),?_⟩) ?_ ?_
 . have:=pb.length;rw[aa,d5]at this;rw[e,aa,sizeLine_eq];omega
 . rintro i z zs G hz ⟨W,rfl,g,pb⟩;obtain⟨tt,m,iz⟩:=N.get' hz;rw[au]at m;obtain⟨q,hq,rfl⟩:=cw.mp m;obtain⟨kb,xk,rfl,en,d8⟩:=id iz;refine⟨by show 2<=1000;decide,λp8 G8 Z n8 g8=>⟨W++[p8],by rw[ax];rfl,g.trans Z,?_⟩⟩;rw[cq,hq,ax];exact IM (Paired.mapP pb λ_ _ z=>z.same Z) ⟨kb,g8,iz.mono (g.trans Z)⟩
 rintro zs G ⟨W,rfl,g,pb⟩ p8 bI;have Z:=Same.new bI (.lst (W.map V.ref));have g8:upd G p8 (.lst (W.map V.ref)) p8=some (.lst (W.map V.ref)):=zd;generalize upd G p8 (.lst (W.map V.ref))=G8 at Z g8⊢;rw[aS,cr]at pb;refine⟨p8,W,_,J,g8,Paired.mapP pb λ_ _ z=>z.same Z,λr H9 s9 n9 g9=>?_⟩;rw[BQ _ [] (by rw[List.nil_append,bn];exact sF C),List.nil_append]at g9;have h9:gw u (λ_=>1) (u.map λq=>(Wl q,V.int 1)):=⟨by rw[bn];rfl,λj q hq=>ug (by rw[bn];exact sF C) (j:=j) (r:=(Wl q,V.int 1)) (by rw[au,hq];rfl)⟩
 generalize (u.map λq=>(Wl q,V.int 1))=ei at g9 h9;have bk:=b7.trans (g.trans Z);have ck:=N.mono (g.trans Z);have dT:=(g.trans Z) _ _ g7;clear N pb g8 Z bI;have sB:Same G8 (without [r] H9):=s9.without (λb hm=>by rw[ak.mp hm];exact n9);have nB:without [r] H9 r=none:=yk (by simp);generalize e0:without [r] H9=B at sB nB;have bh:Same B H9:=e0▸xq;clear e0;have gB:=sB _ _ dT;have iB:=ck.mono sB;have PB:=PA.same (bk.trans sB);refine⟨p7,ys,J,bh _ _ gB,?_⟩;refine Ik (a:=p7) (xs:=ys) (λi σ G=>∃(x4 x5 x6 x7:Option V)(p:O ((O Int×Int)×V)),σ=[some (.ref xp),some (.ref l5),some (.ref p7),some (.ref r),x4,x5,x6,x7]/\Same B G/\bH cV P w G r p/\gw u (hF (λi j=>lk (u.getD i ([],0)) (u.getD j ([],0))) i) p)
  ⟨none,none,none,none,_,J,bh,g9,h9⟩ (λi σ G _ ⟨_,_,_,_,_,_,g,_⟩=>g _ _ gB) ?_ ?_
 . rintro i z σ G q0 hz ⟨x4,x5,x6,x7,p,rfl,g,gG,hG⟩ dp;have sq:=Same.new dp (.tup [.int i,z]);have gq:upd G q0 (.tup [.int i,z]) q0=some (.tup [.int i,z]):=zd;generalize upd G q0 (.tup [.int i,z])=G1 at sq gq⊢;obtain⟨tt,m,iz⟩:=iB.get' hz;rw[au]at m;obtain⟨one,U,rfl⟩:=cw.mp m;obtain⟨k1,ec,rfl,er,_⟩:=id iz;have ap:=g.trans sq;have bN:=gG.same sq;refine⟨q0,_,J,aE.of gq,J,_,_,J,_,_,J,J,?_⟩;refine(λx dx hx du el=>?_);have sn:Same G1 (upd (upd G1 dx (.own x)) x (.ins cS dx [])):=λb o e=>by rw[upd_ne (zj e hx),upd_ne (zj e du)];exact e
   refine⟨G1,x,dx,xp,.ref k1,h,L,one.1,one.2,J,zd,sn,hx,PB.same ap,PH,iz.mono (ap.trans sn),λn3 G3 s3 ey de SA=>⟨J,?_⟩⟩;have a6:=ap.trans s3;refine⟨_,_,J,J,_,J,u.map fX,⟨p7,ys,J,a6 _ _ gB,iB.mono a6⟩,λl4 G4 s4 n4 i4=>?_⟩;rw[Gy]at i4;obtain⟨eg,bd,e4,ba,bx⟩:=i4;cases e4;have hi:i<u.length:=(ci.mp U).1;have b4:=bx.length;rw[List.length_drop,aa]at b4;have bi:=s3.trans s4;have bM:=bN.same bi;have cc:=bM.ne ba;obtain⟨ea,e1⟩:=bN.some;have bw:∀b,G1 b=none->b≠r:=λb nb z=>by rw[z,e1]at nb;cases nb
   have b2:=SA.same s4;have dN:∃bb a3 bc,G4 x=some (.ins cS bb (mZ a3 bc)):=by obtain⟨ev,a3,bc,_,_,_,_,_,_,z1,_⟩:=id b2;exact⟨_,_,_,z1⟩
   have nx:x≠r:=bw x hx;have cv:=(iz.mono ap).mono bi;have b6:=a6.trans s4;generalize d1:(λi j=>lk (u.getD i ([],0)) (u.getD j ([],0)))=av at hG⊢;refine⟨l4,J,⟨bd,aG.of ba⟩,?_⟩;refine Zn (K:=K) (a:=l4) (xs:=bd) (λk σ G=>∃(x7:Option V)(p:O ((O Int×Int)×V)),σ=[some (.ref xp),some (.ref l5),some (.ref p7),some (.ref r),some (.int (i:Int)),some (.ref k1),some (.ref x),x7]/\Same B G/\yu G4 G/\(∀b,b≠r->∀o,G4 b=some o->G b=some o)/\bH cV P w G r p/\gw u (λj=>if j<i+1+k then hF av (i+1) j else hF av i j) p)
    ⟨_,_,J,b6,yu.refl _,λ_ _ _ e=>e,bM,hG.to λj _=>by
     by_cases c:j<i+1+0
     . rw[if_pos c,C6 (by omega)]
     . rw[if_neg c]⟩ (λk σ G _ ⟨_,_,_,_,_,kp,_⟩=>aG.of (kp _ cc _ ba)) ?_ ?_
   . rintro k vz σ G5 c1 ⟨x7,n,rfl,af,t5,M,g5,h5⟩;obtain⟨tt,m,cn⟩:=bx.get' c1;rw[List.getElem?_drop,au]at m;obtain⟨dI,S,rfl⟩:=cw.mp m;have ay:Is G5 (fX dI) vz:=cn.tups t5 (nT _);have co:Is G5 (fX one) (.ref k1):=cv.tups t5 (nT _);obtain⟨a7,eb,rfl,eo,_⟩:=id ay;have d6:aW (λ_=>True) G5 cS cU x _:=b2.keep (λb o nb e=>M b (bw b nb) o e) t5 (λ_ _=>trivial);obtain⟨bb,a3,bc,gx⟩:=dN;refine⟨x,bb,_,J,M _ nx _ gx,J,x,_,dI.1,dI.2,.ref a7,J,d6,ay,_,J,?_⟩;rw[dq one dI n3 de,Bool.not_not];have b1:av i (i+1+k)=lk one dI:=by rw[<-d1];show lk (u.getD i _) (u.getD _ _)=_;rw[zA U,zA S]
     have R:=C7 (lk:=av) (show i<i+1+k by omega);rw[b1]at R;have dK:=h5;obtain⟨dr,bD⟩:=dK;have vo:=(bD _ _ S).trans (congrArg (λt=>some (V.int t)) (if_neg (by omega)));have v1:=(bD _ _ U).trans (congrArg (λt=>some (V.int t)) ((if_pos (by omega)).trans (C5 _ _)));have ej:n.length=u.length:=by have:=congrArg List.length dr;rwa[aa,aa]at this
     cases cl:lk one dI with| true=>
       rw[cl,if_pos J]at R;refine wf ⟨r,a7,n,Wl dI,_,J,J,g5,ay,vo,r,k1,n,Wl one,_,J,J,g5,co,v1,_,_,J,J,_,_,J,r,a7,n,Wl dI,J,J,g5,ay,Zi (by omega),λo' dt=>?_⟩;refine⟨_,_,J,qy af nB,t5.trans g5.tups,λb nb o e=>by rw[upd_ne nb];exact M b nb o e,dt,(h5.put C S).to λj hj=>?_⟩;by_cases c:j=i+1+k
       . refine(if_pos c).trans (Eq.trans ?_ (if_pos (show j<i+1+(k+1) by omega)).symm);rw[c];exact R.symm
       . rw[if_neg c];by_cases c2:j<i+1+k
         . rw[if_pos c2,if_pos (by omega)]
         . rw[if_neg c2,if_neg (by omega)]| false=>
       rw[cl,if_neg br]at R;refine yi ⟨_,_,J,af,t5,M,g5,h5.to λj hj=>?_⟩;by_cases c:j=i+1+k
       . rw[c,if_neg (by omega),if_pos (by omega),R]
       . by_cases c2:j<i+1+k
         . rw[if_pos c2,if_pos (by omega)]
         . rw[if_neg c2,if_neg (by omega)]
   . rintro σ G5 ⟨x7,n,rfl,af,t5,M,g5,h5⟩;refine⟨_,_,_,_,n,J,af,g5,?_⟩;refine h5.to λj hj=>if_pos (by omega)
 rintro σ G ⟨x4,x5,x6,x7,p,rfl,g,gG,hG⟩;rw[aS]at hG;refine⟨r,p,J,gG,λv H2 s2 n2 g2=>⟨v,r,p,J,g2,gG.same s2,λl H3 s3 n3 g3=>⟨l,_,J,aG.of (by rw[<-hG.vals C];exact g3),?_⟩⟩⟩;exact k3 _ (bk.trans (sB.trans (g.trans (s2.trans s3)))) bE
end
noncomputable abbrev Qm:Stmt:=aX 97
theorem Ee:bootBuiltins "set"=some (.type "set"):=by decide+kernel
noncomputable def eO:aI->Option Int|.rai b _=>some b|_=>none
noncomputable def cH(hs:aB)(G:List (List Nat)):List aI:=G.flatMap (mM hs).scr
theorem Xa{x:Int}:∀{l sn:List Int},x∈Xg sn l↔x∈sn\/x∈l
 |[],sn=>by simp[Xg]
 | k ::r,sn=>by
   unfold Xg;split
   . rw [Xa]
     rename_i c
     constructor
     . rintro(h|h)
       . exact .inl h
       . exact .inr (bq _ h)
     . rintro(h|h)
       . exact .inl h
       . rcases ag.mp h with e|e
         . exact .inl (e▸c)
         . exact .inr e
   . rw[Xa];simp[or_assoc,or_left_comm]
theorem Vy:∀{l sn:List Int},sn.Nodup->(Xg sn l).Nodup
 |[],sn,h=>h
 | k ::r,sn,h=>by
   unfold Xg;split
   . exact Vy h
   . rename_i c
     exact Vy (bz.mpr ⟨c,h⟩)
theorem Ia{a b:O Int}(p:a.Perm b):(Xg [] a).length=(Xg [] b).length:=((List.perm_ext_iff_of_nodup (Vy List.nodup_nil) (Vy List.nodup_nil)).mpr λx=>by rw[Xa,Xa,p.mem_iff]).length_eq
theorem sL(hs:aB):∀ks:List (List Nat),(ks.flatMap (fW hs)).map (λq=>((mM hs).scr q.1)[q.2]?)=(cH hs ks).map some
 |[]=>rfl
 | h::ks=>by
   unfold cH;rw[List.flatMap_cons,List.flatMap_cons,ax,ax];have e:=sL hs ks;unfold cH at e;rw[e];congr 1;unfold fW;rw[bn];refine List.ext_getElem? λj=>?_;rw[au,au];by_cases c:j<((mM hs).scr h).length
   . rw[List.getElem?_range c,bo c];show some (((mM hs).scr h)[j]?)=_;rw[bo c];rfl
   . rw[f8 (by rw[da];omega),f8 (by omega)];rfl
theorem Fh{hs:aB}{a:O (O Nat)}{q:O Nat×Nat}(h:(a.flatMap (fW hs))[i]?=some q):q.1∈a/\∃d,((mM hs).scr q.1)[q.2]?=some d/\(cH hs a)[i]?=some d:=by
 have e:=congrArg (·[i]?) (sL hs a);simp only[au,h]at e;refine⟨?_,?_⟩
 . obtain⟨k,hk,b⟩:=List.mem_flatMap.mp (bv h);obtain⟨p,_,rfl⟩:=bu.mp b;exact hk
 . cases c:(cH hs a)[i]? with|none=>rw[c]at e;cases e|some d=>rw[c]at e;exact⟨d,Option.some.inj e,J⟩
inductive mo(vs:List V)(H:Hp)(Q:VK)(e0:XK):Prop| mk:∀hs (v:V) (lk:List Nat×Nat->List Nat×Nat->Bool),vs=[v]->Is H (eH hs) v->Flat hs->(cH hs (zh (plan hs))).length<=300->(∀one other n,(yd hs (yp one.1 one.2) n).ready=[]->decide (other.2<yb (yd hs (yp one.1 one.2) n).done other.1)= !lk one other)->
   (∀n0 a H',Same H H'->(yd hs [] n0).ready=[]->H' a=some (.tup [.int ((Xg [] ((cH hs (zh (plan hs))).filterMap eO)).length:Int),.int ((cH hs (zh (plan hs))).countP Wn:Int),.int (mI lk (eB hs (dC (yd hs [] n0).wov)))])->Q (.ref a) H')->mo vs H Q e0
section
variable{K:W.Frag}
theorem Ai:aA ["house","plan","deeds","raised","awaits"] ["house"] (zf Qm):=.of
theorem Fk(D:bG K mg "cost" Qm)(T:Txt K mg)(av:mg "set"=none)(hC:∃t,mg "MOST_DEEDS_OF_COST"=some (.int 300 t))(CP:aH K cP aZ)(oP:Ok P w K mg base "plan_of" 26 ["house"] (hE cP cR))(oE:bU P w K mg base cP "every_deed" 1 ["self"] (mf cP cR))(oW:bU P w K mg base cP "what" 1 ["self","name"] (jI cP cR))(oD:Ok P w K mg base "depth_of" 8 ["plan"] (mh cP cR)):Ok P w K mg base "cost" 27 ["house"] mo:=by
 refine wa (k:=26) D Ai ?_;rintro f bI A bb s H vs Q E hr ⟨g,v,lk,rfl,hv,F,aK,bk,kk⟩ X;have nd:=Ai.nd;refine⟨_,zb (zo (i:=1) nd (yc oP hr (za (pv 0) zc))) (zb (Vn (i:=2) (own:=["name"]) (cap:=[1]) J (yt (zf Qm) J J (by decide+kernel) (by decide+kernel) (by decide+kernel) ⟨⟨_,J,.inl J,v8 J⟩,trivial⟩) (qi (Vq oE CP.cls (hr.mono (by decide)) (pv 1))) (λ_ _ _ _=>zp (i:=0) (by show(["name","plan"]:O Str).Nodup;decide+kernel)) (λ_ _ _ _=>xu) (λ_ _ _ _=>v6 oW CP.cls (hr.mono (by decide)) (pv 1) (za (pv 0) zc)) nd J J (by with_unfolding_all rfl))
  (zb (ye (zm Je (yf yg J T.len we (za (pv 2) zc)) (y8 hC) (zu _)) (zg xn) zn) (zb (Vn (i:=3) (own:=["deed"]) (cap:=[]) J (yt (zf Qm) J J (by decide+kernel) (by decide+kernel) (by decide+kernel) trivial) (qi (pv 2)) (λ_ _ _ _=>zp (i:=0) (by show(["deed"]:O Str).Nodup;decide+kernel)) (λ_ _ _ _=>jp (zm y0 (zr (r:=cO K) zt (pv 0) ze (λ_ _=>rfl)) zi (zu _))) (λ_ _ _ _=>zr (r:=cO K) zt (pv 0) ze (λ_ _=>rfl)) nd J J (by with_unfolding_all rfl))
  (zb (Vn (i:=4) (own:=["deed"]) (cap:=[]) J (yt (zf Qm) J J (by decide+kernel) (by decide+kernel) (by decide+kernel) trivial) (qi (pv 2)) (λ_ _ _ _=>zp (i:=0) (by show(["deed"]:O Str).Nodup;decide+kernel)) (λ_ _ _ _=>jp (zm y0 (zr (r:=cO K) zt (pv 0) ze (λ_ _=>rfl)) zi (zu _))) (λ_ _ _ _=>pv 0) nd J J (by with_unfolding_all rfl))
  (zg (zk (xi (za (yf IF J T.len we (za (yx (IH J) J av Ee (za (pv 3) zc)) zc)) (za (yf yg J T.len we (za (pv 4) zc)) (za (yc oD (hr.mono (by decide)) (za (pv 1) zc)) zc)))))))))),?_⟩
 refine⟨g,v,J,hv,F.law,λxp L H1 s1 bD PA=>?_⟩;obtain⟨bx,vh,ar,ap,_⟩:=id PA;refine⟨xp,bx,_,J,ap,J,xp,g,L,J,PA,F,λl m H2 s2 n2 pk i2=>?_⟩;obtain⟨l',ys,e,S,iy⟩:=i2;cases e;have PD:(cH g m).Perm (cH g (zh (plan g))):=List.Perm.flatMap_right _ pk;have yl:=iy.length;have nl:(m.flatMap (fW g)).length=(cH g m).length:=by have:=congrArg List.length (sL g m);rwa[aa,aa]at this
 rw[aa,nl]at yl;have bE:(cH g m).length<=300:=by rw[PD.length_eq];exact aK
 rw[<-Ia (PD.filterMap eO),<-PD.countP_eq]at kk;have ba:=s1.trans s2;refine⟨l,J,⟨ys,aG.of S⟩,?_⟩;refine Zy (λi p G=>Same H2 G/\IsL G (((cH g m).take i).map eD) p) ⟨Same.refl _,J⟩ (λi p G hi ⟨j,e⟩=>⟨aG.of (j _ _ S),?_⟩) ?_ ?_
 . rw[e.length,aa,d5,sizeLine_eq];omega
 . rintro i z p G hz ⟨j,ez⟩;refine V3 ?_;obtain⟨tt,n,y⟩:=iy.get' hz;rw[au]at n;obtain⟨q,hq,rfl⟩:=cw.mp n;obtain⟨bh,d,hd,bl⟩:=Fh hq;have a7:=(PA.same s2).same j;obtain⟨a3,bC,bJ,ah,_⟩:=id a7;refine⟨xp,a3,_,J,ah,J,xp,g,L,q,d,z,J,a7,pk.mem_iff.mp bh,y.mono j,hd,λu iu=>⟨j,?_⟩⟩;rw[cq,bl,ax];exact IsL.append ez ⟨_,_,J,iu,J⟩
 rintro p G ⟨j,y⟩ W ay;rw[yl,cr]at y;have s3:=Same.new ay (.lst p);have g3:upd G W (.lst p) W=some (.lst p):=zd;generalize upd G W (.lst p)=H3 at s3 g3⊢;have R:=y.mono s3;have a8:=ba.trans (j.trans s3);have bB:=PA.same (s2.trans (j.trans s3));have zl:=R.length;rw[aa]at zl;clear y j s3 ay S iy n2;refine⟨W,p,J,.inl (aG.of g3),_,_,J,J,_,J,jw (λc=>absurd (cm c) (by rw[zl];omega)) (λ_=>?_)⟩;refine⟨W,J,⟨p,aG.of g3⟩,?_⟩;have fq:∀{G:Hp}{d:aI}{z:V},Is G (eD d) z->∃a r,z=.ref a/\G a=some (.tup (.str (dw d)::r)):=λ{G d z} y=>by
  obtain⟨rr,bg⟩:=Yb d;obtain⟨Z,x5,rfl,C,v1,r1,rfl,i1,_⟩:=(bg▸y)
  cases(i1);exact⟨Z,r1,J,C⟩
 refine Zy (λi o G=>Same H3 G/\o=(((cH g m).take i).filterMap eO).map V.int) ⟨Same.refl _,J⟩ (λi o G hi ⟨j,e⟩=>⟨aG.of (j _ _ g3),?_⟩) ?_ ?_
 . rw[e,aa,sizeLine_eq];have:=List.length_filterMap_le eO ((cH g m).take i);rw[d5]at this;omega
 . rintro i z o G hz ⟨j,rfl⟩;obtain⟨tt,n,y⟩:=R.get' hz;rw[au]at n;obtain⟨d,hd,rfl⟩:=cw.mp n;have af:=y.mono j;obtain⟨Z,r1,rfl,C⟩:=fq af;have U:((cH g m).take (i+1)).filterMap eO=((cH g m).take i).filterMap eO++(eO d).toList:=by rw[cq,hd,List.filterMap_append];cases d<;>rfl
   refine⟨Z,_,0,.str (dw d),J,J,aE.of C,(show cE (.str (dw d)::r1) ((0:Nat):Int)=_ from y9 J),J,_,J,?_⟩;cases d with| rai b k=>obtain⟨a6,x6,e6,bw,v1,r2,rfl,i1,v2,r3,rfl,i2,_⟩:=af;cases e6;cases(i2);refine wf ⟨Z,_,1,.int b,J,J,aE.of bw,(show cE _ ((1:Nat):Int)=_ from y9 J),j,?_⟩;rw[U,ax];rfl| _=>refine yi ⟨j,?_⟩;rw[U];simp[eO]
 rintro o G ⟨j,rfl⟩ p4 aw;rw[zl,cr];have s4:=Same.new aw (.lst (((cH g m).filterMap eO).map V.int));have g4:upd G p4 (.lst (((cH g m).filterMap eO).map V.int)) p4=some (.lst (((cH g m).filterMap eO).map V.int)):=zd;generalize upd G p4 (.lst (((cH g m).filterMap eO).map V.int))=H4 at s4 g4⊢;have M:=j.trans s4;have aS:=M _ _ g3;have bc:=R.mono M;clear s4 aw j;refine⟨W,J,⟨p,aG.of aS⟩,?_⟩;refine Zy (λi o G=>Same H4 G/\o.length=((cH g m).take i).countP Wn) ⟨Same.refl _,J⟩ (λi o G hi ⟨j,e⟩=>⟨aG.of (j _ _ aS),?_⟩) ?_ ?_
 . rw[e,sizeLine_eq];have:=List.countP_le_length (p:=Wn) (l:=(cH g m).take i);rw[d5]at this;omega
 . rintro i z o G hz ⟨j,ew⟩;obtain⟨tt,n,y⟩:=bc.get' hz;rw[au]at n;obtain⟨d,hd,rfl⟩:=cw.mp n;obtain⟨Z,r1,rfl,C⟩:=fq (y.mono j);have U:((cH g m).take (i+1)).countP Wn=((cH g m).take i).countP Wn+if Wn d=true then 1 else 0:=by rw[cq,hd,List.countP_append];cases d<;>rfl
   refine⟨Z,_,0,.str (dw d),J,J,aE.of C,(show cE (.str (dw d)::r1) ((0:Nat):Int)=_ from y9 J),J,_,J,?_⟩;have ed:decide (V.str (dw d)=V.str "await")=Wn d:=by cases d<;>rfl
   rw[ed];cases ca:Wn d with| true=>rw[ca,if_pos J]at U;refine wf ⟨j,?_⟩;rw[U,cj,ew];rfl| false=>rw[ca,if_neg br]at U;refine yi ⟨j,?_⟩;rw[U,ew];rfl
 rintro o G ⟨j,ew⟩ p5 bi;rw[zl,cr]at ew;have s5:=Same.new bi (.lst o);have g5:upd G p5 (.lst o) p5=some (.lst o):=zd;generalize upd G p5 (.lst o)=H5 at s5 g5⊢;have N:=j.trans s5;have fl:=List.length_filterMap_le eO (cH g m);refine⟨p4,_,J,N _ _ g4,by omega,λd6 H6 s6 n6 a6=>⟨d6,_,J,a6,?_,?_⟩⟩
 . have:=(Vy (l:=(cH g m).filterMap eO) (sn:=[]) List.nodup_nil).length_le_of_subset (λx hx=>by
    rcases Xa.mp hx with h|h
    . cases h
    . exact h:_ ⊆ (cH g m).filterMap eO)
   omega
 refine⟨p5,o,J,.inl (aG.of (s6 _ _ g5)),xp,g,L,lk,J,bB.same (M.trans (N.trans s6)),F,bk,λn0 H7 s7 bd=>⟨by show 3<=1000;decide,λa H8 s8 n8 g8=>?_⟩⟩;rw[ew]at g8;exact kk n0 a H8 (a8.trans (M.trans (N.trans (s6.trans (s7.trans s8))))) bd g8
end
noncomputable abbrev Y0:Stmt:=aX 117
noncomputable abbrev Vj:Stmt:=aX 119
theorem Zx:∀n:Nat,n<100->(n:Int).natAbs.log2<1920:=by decide+kernel
theorem Wq:∀n,n<100->(dS n).length<=2:=by decide+kernel
theorem AA(k B:Nat):∀(xs:List Str)(a:Nat),(∀x∈xs,x.length+k<=B)->xs.foldl (λa x=>a+x.length+k) a<=a+xs.length*B|[],a,_=>by simp| x::r,a,h=>by have d:=AA k B r (a+x.length+k) λy b=>h y (bq _ b);have c:=h x bp;rw[List.foldl_cons,d7,Nat.succ_mul];omega
theorem sA{a:Str}(B:Nat)(h:∀x∈xs,x.length+a.length<=B)(b:xs.length*B<=sizeLine):JoinOk a xs=true:=by unfold JoinOk Builtin.Str.tooLong;rw[List.foldl_toArray];have:=AA a.length B xs 0 h;rw[Bool.not_eq_true',decide_eq_false_iff_not];omega
inductive mw(vs:List V)(H:Hp)(Q:VK)(e0:XK):Prop|mk:∀(v:V)(hs:aB)(N:Nat),vs=[v]->Is H (eH hs) v->dA hs->(∀n,(yd hs [] n).ready=[]->kf hs (yd hs [] n).done=true/\(yd hs [] n).wov.length=N)->N<100->(∀H',Same H H'->Q (.str (Txt.join " " ["all",dS N])) H')->mw vs H Q e0
section
variable{K:W.Frag}{cS cW cU:Addr}
theorem Vd:aA ["house","told"] ["house"] (zf Y0):=.of
theorem L6(D:bG K mg "answer_end" Y0)(T:Txt K mg)(o:Ok P w K mg base "end" 27 ["house"] hJ):Ok P w K mg base "answer_end" 28 ["house"] mw:=by
 refine wa (k:=27) D Vd ?_;rintro f G A c s H R Q E z ⟨v,y,N,rfl,u,L,b,i,k⟩ X;have q:=Vd.nd;refine⟨_,zb (zo (i:=1) q (yc o z (za (pv 0) zc))) (zg (zk (ja PySem.F.plainAttrs_str PySem.F.slot_str_join PySem.F.type_str_join tR zi (za (w9 (za (zr zt (pv 1) ze) (za (yx vk J T.str k7 (za (yf yg J T.len we (za (zr zt (pv 1) ze) zc)) zc)) zc))) zc)))),?_⟩
 refine⟨v,y,J,u,L,λn hn=>(b n hn).1,λn a l U m hn h C=>?_⟩;obtain⟨e,t,r⟩:=C;have g:e.length=N:=by rw[r.length,aa];exact(b n hn).2
 refine⟨J,a,_,_,_,J,J,aE.of h,fq,a,_,_,_,J,J,aE.of h,mB,l,e,J,.inl (aG.of t),_,J,?_,?_⟩
 . rw[g];exact Zx N i
 rw[g];refine⟨by show 2<=1000;decide,λp M j S F=>⟨_,p,["all",dS N],J,J,F,sA 10 (λx d=>?_) (by show 2*10<=sizeLine;decide),k M (m.trans j)⟩⟩;rcases ag.mp d with rfl|d
 . decide
 . rw[ak.mp d];have:=Wq N i;show(dS N).length+1<=10;omega
inductive li(hs:aB)(word:Str)(vals:List V)(r:Str):Prop|fin:∀N:Nat,word="end"->(∀n,(yd hs [] n).ready=[]->kf hs (yd hs [] n).done=true/\(yd hs [] n).wov.length=N)->N<100->r=Txt.join " " ["all",dS N]->li hs word vals r|wal:∀n p:Nat,word="wall"->vals=[.int n,.int p]->Yo hs n p=true->(∀n0,(yd hs [] n0).ready=[]->kf hs (yd hs [] n0).done=true)->(∀x o q st,x<n->o<n->q<p->¬eV hs x o q true st)->r="holds"->li hs word vals r| cos:∀(lk:List Nat×Nat->List Nat×Nat->Bool) (a b c:Nat),word="cost"->Flat hs->(cH hs (zh (plan hs))).length<=300->(∀one other n,(yd hs (yp one.1 one.2) n).ready=[]->decide (other.2<yb (yd hs (yp one.1 one.2) n).done other.1)= !(lk one other))->
   (Xg [] ((cH hs (zh (plan hs))).filterMap eO)).length=a->(cH hs (zh (plan hs))).countP Wn=b->(∀n0,(yd hs [] n0).ready=[]->mI lk (eB hs (dC (yd hs [] n0).wov))=(c:Int))->a<100->b<100->c<100->r=Txt.join " " [dS a,dS b,dS c]->li hs word vals r
inductive mv(vs:List V)(H:Hp)(Q:VK)(e0:XK):Prop|mk:∀(word r:Str)(v:V)(l:Addr)(hs:aB)(vals:List V),vs=[.str word,v,.ref l]->Is H (eH hs) v->dA hs->H l=some (.lst vals)->li hs word vals r->(∀H',Same H H'->Q (.str r) H')->mv vs H Q e0
theorem BC:aA ["word","house","said"] ["word","house","said"] (zf Vj):=.of
theorem JH(D:bG K mg "answer" Vj)(T:Txt K mg)(o1:Ok P w K mg base "answer_end" 28 ["house"] mw)(o2:Ok P w K mg base "tried" 28 ["house","n","p"] lG)(o3:Ok P w K mg base "cost" 27 ["house"] mo):Ok P w K mg base "answer" 29 ["word","house","said"] mv:=by
 refine wa (k:=28) D BC ?_;rintro f a3 A R s H vs Q E hr ⟨ap,r,v,l,hs,av,rfl,W,LH,hl,AN,k⟩ X;have nd:=BC.nd;refine⟨_,zb (ye (zm y0 (pv 0) zi (zu _)) (zg (zk (yc o1 hr (za (pv 1) zc)))) zn) (zb (ye (zm y0 (pv 0) zi (zu _)) (zg xn) zn) (zb (ye (zm y0 (pv 0) zi (zu _)) (zg xn) zn) (zb (ye (zm y0 (pv 0) zi (zu _)) (zg (zk (zr zt (yc o2 hr (za (pv 1) (za (zr y4 (pv 2) ze) (za (zr y4 (pv 2) ze) zc)))) ze))) zn) (zg (zk (ja PySem.F.plainAttrs_str PySem.F.slot_str_join PySem.F.type_str_join tR zi (za (qc (own:=["number"]) (cap:=[]) J (yt (zf Vj) J J (by decide+kernel) (by decide+kernel) (by decide+kernel) trivial) (j1 (yc o3 (hr.mono (by decide)) (za (pv 1) zc))) (λ_ _ _ _=>zp (i:=0) (by show(["number"]:O Str).Nodup;decide+kernel)) (λ_ _ _ _=>xu) (λ_ _ _ _=>yx vk J T.str k7 (za (pv 0) zc))) zc))))))),?_⟩
 rcases AN with⟨N,rfl,u,hN,rfl⟩|⟨n,p,rfl,rfl,e,u,Z,rfl⟩|⟨lk,a,b,c,rfl,hF,F,ah,ha,hb,hc,aS,aK,ay,rfl⟩
 . refine⟨J,_,J,?_⟩;rw[bj J];exact wf ⟨v,hs,N,J,W,LH,u,hN,k⟩
 . refine⟨J,_,J,?_⟩;rw[ki (by decide)];refine yi ⟨J,_,J,?_⟩;rw[ki (by decide)];refine yi ⟨J,_,J,?_⟩;rw[ki (by decide)];refine yi ⟨J,_,J,?_⟩;rw[bj J];refine wf ⟨l,_,_,_,J,J,aG.of hl,fq,l,_,_,_,J,J,aG.of hl,mB,hs,v,n,p,J,W,LH,e,?_,?_,?_⟩
   . intro U a r z _ h hd _;rw[u U h]at hd;cases hd
   . intro x o q st a r z _ h1 h2 h3 h4 _;exact(Z x o q st h1 h2 h3 h4).elim
   . intro a d aw z s' _ ga _ _;exact⟨a,_,_,_,J,J,aE.of ga,fq,k z s'⟩
 . refine⟨J,_,J,?_⟩;rw[ki (by decide)];refine yi ⟨J,_,J,?_⟩;rw[ki (by decide)];refine yi ⟨J,_,J,?_⟩;rw[ki (by decide)];refine yi ⟨J,_,J,?_⟩;rw[ki (by decide)];refine yi ⟨J,hs,v,lk,J,W,hF,F,ah,λU t H1 s1 h y=>?_⟩;rw[ha,hb,hc U h]at y;have j:∀m∈[a,b,c],m<100:=λm e=>by simp only[ag,c5,or_false]at e;omega
   have y:H1 t=some (.tup ([a,b,c].map λm:Nat=>V.int m)):=y;have ek:∀z,Same H z->Q (.str (Txt.join " " ([a,b,c].map dS))) z:=k;have g:[a,b,c].length=3:=rfl;generalize [a,b,c]=S at j y ek g;refine⟨t,J,⟨_,aE.of y⟩,nX (xs:=S.map λm:Nat=>V.int m) (λi G M=>Same H1 M/\G=(S.take i).map λm=>V.str (dS m)) ⟨Same.refl H1,J⟩ (λi G M hi ⟨C,e2⟩=>⟨aE.of (C _ _ y),by rw[e2,aa,d5];exact wz (by omega)⟩) ?_ ?_⟩
   . rintro i x G M L ⟨C,rfl⟩;rw[au]at L;obtain⟨m,e,rfl⟩:=cw.mp L;refine V3 ⟨m,J,Zx m (j m (bv e)),C,?_⟩;rw[cq,e,ax];rfl
   . rintro G M ⟨C,rfl⟩ p2 af;refine⟨_,p2,S.map dS,J,J,?_,sA 10 (λx L=>?_) (by rw[aa,g];decide),ek _ (s1.trans (C.trans (Same.new af _)))⟩
     . rw[zd,aa,cr,bn];rfl
     . obtain⟨m,e,rfl⟩:=bu.mp L;have:=Wq m (j m e);show(dS m).length+1<=10;omega
end
noncomputable abbrev qL:Stmt:=aX 124
noncomputable def mX:List Nat:=[97,98,104,111,115,122]
theorem Gp:∀cs:List Nat,(Txt.join Str.empty (cs.map cA)).cps.toList=cs:=by
 intro cs;have g:Txt.join Str.empty (cs.map cA)=(Str.empty).join (cs.map cA):=StrLaws.glued_eq_join _ _;rw[g];clear g;induction cs with|nil=>rfl| cons c r h=>
   cases r with|nil=>rfl| cons d r=>
     have e:(Str.empty).join ((c::d::r).map cA)=cA c++Str.empty++(Str.empty).join ((d::r).map cA):=rfl;have f:∀a b:Str,(a++b).cps.toList=a.cps.toList++b.cps.toList:=λa b=>by show(a.cps++b.cps).toList=_;simp
     rw[e,f,f,h];rfl
theorem FS:∀c∈mX,nI c=true/\c≠32/\c≠10:=by decide+kernel
theorem Fg(f:1<=cs.length)(d:cs.length<=8)(h:∀c∈cs,c∈mX):fA (Txt.join Str.empty (cs.map cA))=true:=by
 have e:=Gp cs;generalize Txt.join Str.empty (cs.map cA)=x at e;unfold fA;have b:x.length=cs.length:=by rw[<-e];rfl
 rw[cg,decide_eq_true_eq,e,db];exact⟨by omega,λc a=>(FS c (h c a)).1⟩
inductive lU(K:W.Frag)(vs:List V)(H:Hp)(Q:VK)(e0:XK):Prop|mk:∀(a s:Addr)(ns:List Int),vs=[.ref a]->cT K H a s ns->(∀x H',fA x=true->bS a H H'->cT K H' a s ns->Q (.str x) H')->lU K vs H Q e0
section
variable{K:W.Frag}
theorem FO:aA ["deck"] ["deck"] (zf qL):=.of
theorem Fm(D:bG K mg "_law_e_name" qL)(T:Txt K mg)(F:Ok P w K mg base "_law_e_pick" 2 ["deck","many"] (jN K)):Ok P w K mg base "_law_e_name" 3 ["deck"] (lU K):=by
 refine wa (k:=2) D FO ?_;rintro f af A r sh H vs Q E G ⟨a,s,t,rfl,TP,k⟩ X;refine⟨_,zg (zk (ja PySem.F.plainAttrs_str PySem.F.slot_str_join PySem.F.type_str_join tR zi (za (qc (own:=["turn"]) (cap:=[0]) J (yt (zf qL) J J (by decide+kernel) (by decide+kernel) (by decide+kernel) ⟨⟨_,J,.inl J,v8 J⟩,trivial⟩)
  (ww J T.range (za (ya xv ze (yc F G (za (pv 0) (za ze zc)))) zc)) (λ_ _ _ _=>zp (i:=0) (by show(["turn","deck"]:O Str).Nodup;decide+kernel))
  (λ_ _ _ _=>xu) (λ_ _ _ _=>zr D2 zi (yc F G (za (pv 1) (za ze zc))))) zc))),?_⟩
 refine⟨J,a,s,t,8,J,TP,by decide,by decide,λd H1 d0 d8 b1 M=>?_⟩;obtain⟨m,rfl⟩:=Int.eq_ofNat_of_zero_le d0;refine⟨_,_,J,J,(1:Int)+m,J,by omega,by omega,?_⟩;refine jq (lo:=0) (n:=((1:Int)+m).toNat) (λi n l=>bS a H l/\cT K l a s t/\∃b:O Nat,b.length=i/\(∀c∈b,c∈mX)/\n=(b.map cA).map V.str) ⟨b1,M,[],J,(by simp),J⟩ (λi n l hi ⟨_,_,b,g,_,e⟩=>by rw[e,aa,aa,g];exact wz (by omega)) ?_ ?_
 . rintro i n l hi ⟨y,o,b,g,v,rfl⟩;refine V3 ⟨a,s,t,6,J,o,by decide,by decide,λe H2 e0 e6 b2 L=>?_⟩;obtain⟨j,rfl⟩:=Int.eq_ofNat_of_zero_le e0;have Z:j<6:=by omega
   have h:∃c∈mX,cE ("abhosz":Str).cps.toList ((j:Nat):Int)=some c:=by
    have:∀j,j<6->mX[j]?=("abhosz":Str).cps.toList[j]?/\(mX[j]?).isSome=true:=by decide+kernel
    obtain⟨R,N⟩:=this j Z;obtain⟨c,g⟩:=Option.isSome_iff_exists.mp N;exact⟨c,bv g,y9 (R.symm.trans g)⟩
   obtain⟨c,u,h⟩:=h;refine⟨_,_,c,J,J,wz bF,h,y.trans b2,L,b++[c],by simp[g],λz S=>?_,by rw[ax,ax];rfl⟩;rcases ce.mp S with q|q
   . exact v z q
   . rw[ak.mp q];exact u
 . rintro n l ⟨y,o,b,g,v,rfl⟩ p W;have C:=Same.new W (.lst ((b.map cA).map V.str));refine⟨_,p,b.map cA,J,J,zd,sA 1 (λx U=>?_) ?_,k _ _ ?_ (y.trans C.but) (o.same C)⟩
   . obtain⟨c,_,rfl⟩:=bu.mp U;show 1+0<=1;omega
   . rw[aa];exact wz (by omega)
   . exact Fg (by omega) (by omega) v
end
noncomputable abbrev Vf:Stmt:=aX 125
noncomputable def mJ:List Nat:=[1,2,4,8]
noncomputable def rN(n:Nat):Nat:=(mJ.filter λx=>decide (x<n)).length
inductive jM(vs:List V)(H:Hp)(Q:VK)(e0:XK):Prop|mk:∀n:Nat,vs=[.int (n:Int)]->(∀H',Same H H'->Q (.int (rN n:Int)) H')->jM vs H Q e0
section
variable{K:W.Frag}
theorem IY:aA ["n"] ["n"] (zf Vf):=.of
theorem JM(D:bG K mg "_law_e_rounds" Vf)(T:Txt K mg):Ok P w K mg base "_law_e_rounds" 1 ["n"] jM:=by
 refine wa (k:=0) D IY ?_;rintro f u A g y H v Q E F ⟨n,rfl,k⟩ X;refine⟨_,zg (zk (yf yg J T.len we (za (qc (own:=["power"]) (cap:=[0]) J (yt (zf Vf) J J (by decide+kernel) (by decide+kernel) (by decide+kernel) ⟨⟨_,J,.inl J,v8 J⟩,trivial⟩)
  (qi (w9 (za ze (za ze (za ze (za ze zc)))))) (λ_ _ _ _=>zp (i:=0) (by show(["power","n"]:O Str).Nodup;decide+kernel))
  (λ_ _ _ _=>jp (zm mV (pv 0) (pv 1) (zu _))) (λ_ _ _ _=>pv 0)) zc))),?_⟩
 refine⟨by show 4<=1000;decide,λl j o C b=>?_⟩;have b:j l=some (.lst (mJ.map λx:Nat=>V.int x)):=b;refine⟨l,J,⟨_,aG.of b⟩,Zy (xs:=mJ.map λx:Nat=>V.int x) (λi a d=>d=j/\a=((mJ.take i).filter λx=>decide (x<n)).map λx:Nat=>V.int x) ⟨J,J⟩ (λi a d G ⟨e,t⟩=>⟨by rw[e];exact aG.of b,?_⟩) ?_ ?_⟩
 . rw[t,aa];refine wz (c9 (f9 ..) ?_);rw[d5];exact c9 (Nat.min_le_right ..) (by decide)
 . rintro i x a d h ⟨rfl,rfl⟩;rw[au]at h;obtain⟨m,r,rfl⟩:=cw.mp h;have s:mJ.take (i+1)=mJ.take i++[m]:=by rw[cq,r];rfl
   rw[s,List.filter_append,ax];refine⟨_,_,J,J,_,J,jw (λc=>?_) (λc=>?_)⟩
   . have c:decide (m<n)=true:=bj (by have:=cm c;omega);rw[List.filter_cons_of_pos (p:=λx=>decide (x<n)) c];exact⟨J,J⟩
   . have c:¬decide (m<n)=true:=λz=>c (bj (by have:=cm z;omega));rw[List.filter_cons_of_neg (p:=λx=>decide (x<n)) c];exact⟨J,(cp _).symm⟩
 . rintro a d ⟨rfl,rfl⟩ p q;refine⟨p,_,J,.inl (aG.of zd),?_⟩;rw[aa,aa,cr];exact k _ (o.trans (Same.new q _))
end
noncomputable abbrev tV:Stmt:=aX 127
noncomputable def mR(kd:Str)(n:Nat):Nat:=if kd="shared" then 2 else if kd="own" then n else if kd="spread" then 2*rN n else 1
noncomputable def V8(kd:Str)(n p:Nat):Nat:=n*p*(2+mR kd n)+if kd="tree" then 2*(n-1)*p else 0
inductive mj(vs:List V)(H:Hp)(Q:VK)(e0:XK):Prop|mk:∀(kd:Str)(n p:Nat),vs=[.str kd,.int (n:Int),.int (p:Int)]->K4 kd->1<=n->n<=6->p<=3->(∀H',Same H H'->Q (.int (V8 kd n p:Int)) H')->mj vs H Q e0
theorem rR(n:Nat):rN n<=4:=c9 (f9 ..) (by decide)
section
variable{K:W.Frag}
theorem A0:aA ["kind","n","p","r","each","total"] ["kind","n","p"] (zf tV):=.of
theorem GL(D:bG K mg "_law_e_deeds" tV)(v:Ok P w K mg base "_law_e_rounds" 1 ["n"] jM):Ok P w K mg base "_law_e_deeds" 2 ["kind","n","p"] mj:=by
 refine wa (k:=1) D A0 ?_;rintro f G A d M H L Q E m ⟨a,n,p,rfl,x,F,R,S,k⟩ X;have b:=A0.nd;have z:=ji m;refine⟨_,zb (zo (i:=3) b (yc v m (za (pv 1) zc))) (zb (zo (i:=4) b (wg z (Jw (vf zi ze (vf zi (pv 1) (vf zi (ya wb ze (pv 3)) (vf zi ze Ju)))) J J (List.cons_ne_nil _ _) (by decide)) (pv 0))) (zb (zo (i:=5) b (ya wb (ya wb (pv 1) (pv 2)) (ya xv ze (pv 4)))) (zb (ye (zm y0 (pv 0) zi (zu _)) (zg (zo (i:=5) b (ya xv (pv 5) (ya wb (ya wb ze (ya Y6 (pv 1) ze)) (pv 2))))) zn) (zg (zk (pv 5)))))),?_⟩
 have N:=rR n;refine⟨n,J,λi u=>?_⟩;intro q o;have l:=Same.new o (.dK []);have s:upd i q (.dK []) q=some (.dK []):=zd;generalize upd i q (.dK [])=h at l s⊢;refine⟨_,_,J,J,Q6 (by decide),s,[(.inr "shared",.int 2),(.inr "own",.int n),(.inr "spread",.int (2*(rN n:Int))),(.inr "tree",.int 1)],J,(show 4<=15 by decide),?_⟩;have j:Same i (upd h q (.dK (j5 [] [(.inr "shared",.int 2),(.inr "own",.int n),(.inr "spread",.int (2*(rN n:Int))),(.inr "tree",.int 1)]))):=qy l o;have r:upd h q (.dK (j5 [] [(.inr "shared",.int 2),(.inr "own",.int n),(.inr "spread",.int (2*(rN n:Int))),(.inr "tree",.int 1)])) q=some (.dK (j5 [] [(.inr "shared",.int 2),(.inr "own",.int n),(.inr "spread",.int (2*(rN n:Int))),(.inr "tree",.int 1)])):=zd;generalize upd h q (.dK (j5 [] [(.inr "shared",.int 2),(.inr "own",.int n),(.inr "spread",.int (2*(rN n:Int))),(.inr "tree",.int 1)]))=t at j r⊢;have y:DGet t q (.str a) (some (.int (mR a n:Int))):=by
  have e:yq (j5 [] [(.inr "shared",.int 2),(.inr "own",.int n),(.inr "spread",.int (2*(rN n:Int))),(.inr "tree",.int 1)]) (.inr a:aJ)=some (.int (mR a n:Int)):=by rcases x with rfl|rfl|rfl|rfl<;>with_unfolding_all rfl
  exact e▸DGet.k (k:=.inr a) r
 refine⟨q,_,J,y,?_⟩;have C:mR a n<=8:=by
  unfold mR
  repeat' split
  all_goals omega
 have fin:=k t (u.trans j);unfold V8 at fin;generalize mR a n=e at C fin;refine⟨_,_,J,J,Q6 (by omega),_,_,J,J,_,_,J,J,jF (by omega),J,_,J,?_⟩;by_cases c:a="tree"
 . rw[if_pos c]at fin;rw[bj (congrArg V.str c)];refine wf ⟨_,_,J,J,_,_,J,J,Q6 (by decide),_,_,J,J,jF (by omega),_,_,J,J,?_⟩;have g:((n*p*(2+e)+2*(n-1)*p:Nat):Int)=(n:Int)*p*(2+e)+2*((n:Int)-1)*p:=by rw[Int.natCast_add,Int.natCast_mul,Int.natCast_mul,Int.natCast_mul,Int.natCast_mul,Int.natCast_add,Int.natCast_sub F];rfl
   rw[g]at fin;exact fin
 . rw[if_neg c]at fin;rw[ki c];have g:((n*p*(2+e)+0:Nat):Int)=(n:Int)*p*(2+e):=by rw[Nat.add_zero,Int.natCast_mul,Int.natCast_mul,Int.natCast_add];rfl
   rw[g]at fin;exact yi fin
end
noncomputable abbrev km:Stmt:=aX 126
noncomputable def Zd(kd:Str)(n:Nat):Nat:=if kd="shared" then 1 else if kd="own" then n else if kd="spread" then n*rN n else n
noncomputable def dM(kd:Str)(n:Nat):Nat:=if kd="shared" then n else if kd="own" then n*(n-1)else if kd="spread" then n*rN n else 2*(n-1)
inductive mn(vs:List V)(H:Hp)(Q:VK)(e0:XK):Prop|mk:∀(kd:Str)(n p c:Nat),vs=[.str kd,.int (n:Int),.int (p:Int),.str (Txt.join (cA 32) [dS (Zd kd n),dS (dM kd n*p),dS c])]->K4 kd->1<=n->n<=6->p<=3->dM kd n*p<100->c<100->(kd="shared"->c=p)->(kd="spread"->c=rN n*p)->(∀H',Same H H'->Q (.bl true) H')->mn vs H Q e0
theorem t9:∀n,n<100->32 ∉ (dS n).cps.toList/\PyData.strOk (dS n)=true:=by decide+kernel
theorem wI{e a:Expr}{t:TE}(h:e=a)(p:PE X a t):PE X e t:=h▸p
noncomputable def vJ:Stmt->List Expr|.Assign t _ _=>t|_=>[]
noncomputable def aV:Stmt->Expr|.Assign _ e _=>e|_=>.Name "" default
noncomputable def aP:Stmt->Pos|.Assign _ _ p=>p|_=>default
abbrev Kx(i:Nat):Stmt:=(wr km).getD i dH
theorem IK:∃e1 e2:Expr,wr km=[Kx 0,Kx 1,Kx 2,.Assign (vJ (Kx 3)) e1 (aP (Kx 3)),.Assign (vJ (Kx 4)) e2 (aP (Kx 4)),Kx 5,Kx 6]/\e1=aV (Kx 3)/\e2=aV (Kx 4):=⟨_,_,J,J,J⟩
theorem Qu{f:L2.St}{q:Y}{Q:VK}(g:H1 q=none)(c:f[i]?=some (some (.str kd)))(d:kvs.length<=15)(e:yq (j5 [] kvs) (.inr kd:aJ)=some v)(k:∀H',Same H1 H'->Q v H'):upd H1 q (.dK []) q=some (.dK [])/\∃a:O (aJ×V),kvs.map (λb=>(kV b.1,b.2))=a.map (λb=>(kV b.1,b.2))/\a.length<=15/\jA i f (upd (upd H1 q (.dK [])) q (.dK (j5 [] a))) (λy H2=>fj Q (.ref q) y H2):=
 ⟨zd,kvs,J,d,wH c ⟨q,v,J,e▸DGet.k (k:=.inr kd) zd,k _ (qy (Same.new g _) g)⟩⟩
section
variable{K:W.Frag}
theorem Vc:aA ["kind","n","p","told","words","r","boxes","awaits"] ["kind","n","p","told"] (zf km):=.of
theorem L7(D:bG K mg "_law_e_cost_right" km)(T:Txt K mg)(o1:Ok P w K mg base "_law_e_rounds" 1 ["n"] jM):Ok P w K mg base "_law_e_cost_right" 2 ["kind","n","p","told"] mn:=by
 refine wa (k:=1) D Vc ?_;rintro f av A C sh H vs Q E N ⟨a,n,p,c,rfl,F,h1,h6,h3,h,d,cS,cP,k⟩ X;have s:=Vc.nd;have L:=ji N;obtain⟨e1,e2,g,x1,x2⟩:=IK;rw[g];have p1:=wI (X:=X) x1 (wg L (Jw (vf zi ze (vf zi (pv 1) (vf zi (ya wb (pv 1) (pv 5)) (vf zi (pv 1) Ju)))) J J (List.cons_ne_nil _ _) (by decide)) (pv 0));have p2:=wI (X:=X) x2 (wg L (Jw (vf zi (pv 1) (vf zi (ya wb (pv 1) (ya Y6 (pv 1) ze)) (vf zi (ya wb (pv 1) (pv 5)) (vf zi (ya wb ze (ya Y6 (pv 1) ze)) Ju)))) J J (List.cons_ne_nil _ _) (by decide)) (pv 0));refine⟨_,zb (zo (i:=4) s (ja PySem.F.plainAttrs_str PySem.F.slot_str_split PySem.F.type_str_split A3 (pv 3) (za zi zc))) (zb (ye (zm X1 (yf yg J T.len we (za (pv 4) zc)) ze (zu _)) (zg xn) zn) (zb (zo (i:=5) s (yc o1 N (za (pv 1) zc))) (zb (zo (i:=6) s p1 (hs:=by rw[x1];rfl))
  (zb (zo (i:=7) s p2 (hs:=by rw[x2];rfl))
  (zb (ye (zm (Fv (by exact N.units)) (kr Jt (pv 4) Zv (Zu ze)) (w9 (za (yx vk J T.str k7 (za (pv 6) zc)) (za (yx vk J T.str k7 (za (ya wb (pv 7) (pv 2)) zc)) zc))) (zu _)) (zg xn) zn) (zg (zk (pS (qa y0 (pv 0) zi (zu _)) (pS (qa y0 (pv 0) zi (zu _)) (j3 (qa y0 (zr y4 (pv 4) ze) (yx vk J T.str k7 (za (ya wb (wg L (Jw (vf zi ze (vf zi (pv 5) Ju)) J J (List.cons_ne_nil _ _) (by decide)) (pv 0)) (pv 2)) zc)) (zu _)))))))))))),?_⟩
 have i:Zd a n<100:=by
  have v:=rR n;have:n*rN n<=6*4:=Nat.mul_le_mul h6 v;unfold Zd
  repeat' split
  all_goals omega
 have f1:=t9 _ i;have f2:=t9 _ h;have f3:=t9 _ d;have b:=X6 (c:=32) (ps:=[dS (Zd a n),dS (dM a n*p),dS c]) (by simp) (λq hq=>by
  simp only[ag,c5,or_false]at hq;rcases hq with rfl|rfl|rfl
  . exact f1.1
  . exact f2.1
  . exact f3.1)
 have G:(Txt.join (cA 32) [dS (Zd a n),dS (dM a n*p),dS c]).length<=100:=by have e0:Txt.join (cA 32) [dS (Zd a n),dS (dM a n*p),dS c]=(cA 32).join [dS (Zd a n),dS (dM a n*p),dS c]:=StrLaws.glued_eq_join _ _;have e1:=congrArg List.length (V0 32 [dS (Zd a n),dS (dM a n*p),dS c]);rw[e0];refine c9 (Nat.le_of_eq e1) ?_;have l1:(dS (Zd a n)).cps.toList.length<=2:=Wq _ i;have l2:(dS (dM a n*p)).cps.toList.length<=2:=Wq _ h;have l3:(dS c).cps.toList.length<=2:=Wq _ d;simp only[jn,c4,List.map_nil,cj,d7];omega
 generalize Txt.join (cA 32) [dS (Zd a n),dS (dM a n*p),dS c]=x at b G⊢;have b:Txt.split x " "=[dS (Zd a n),dS (dM a n*p),dS c]:=b;refine⟨J,x,_,J,J,J,wz (by omega),by rw[b];exact wz bF,λl H1 s1 n1 r=>?_⟩;rw[b]at r;have r:H1 l=some (.lst [.str (dS (Zd a n)),.str (dS (dM a n*p)),.str (dS c)]):=r;refine⟨l,_,J,.inl (aG.of r),J,_,J,?_⟩;rw[bj (show V.int (([_,_,_]:O V).length:Int)=V.int 3 from rfl)];refine yi ⟨n,J,λH2 s2=>?_⟩;have ah:=s2 _ _ r;have v:=rR n;have Z:((n:Int)-1)=((n-1:Nat):Int):=by omega
 intro q3 U;refine⟨_,_,J,J,Q6 (by omega),Qu (kd:=a) (v:=.int (Zd a n)) (kvs:=[(.inr "shared",.int 1),(.inr "own",.int n),(.inr "spread",.int ((n:Int)*(rN n:Int))),(.inr "tree",.int n)]) U J (show 4<=15 by decide) (by rcases F with rfl|rfl|rfl|rfl<;>with_unfolding_all rfl) λH3 s3=>?_⟩;intro q4 S;refine⟨_,_,J,J,_,_,J,J,Q6 (by omega),_,_,J,J,Q6 (by omega),_,_,J,J,_,_,J,J,Q6 (by decide),Qu (kd:=a) (v:=.int (dM a n)) (kvs:=[(.inr "shared",.int n),(.inr "own",.int ((n:Int)*((n:Int)-1))),(.inr "spread",.int ((n:Int)*(rN n:Int))),(.inr "tree",.int (2*((n:Int)-1)))]) S J (show 4<=15 by decide) (by rw[Z];rcases F with rfl|rfl|rfl|rfl<;>with_unfolding_all rfl) λH4 s4=>?_⟩;have o:=s4 _ _ (s3 _ _ ah);refine⟨2,J,l,_,J,aG.of o,λz h5=>?_⟩;have u:=Same.new h5 (.lst [.str (dS (Zd a n)),.str (dS (dM a n*p))]);have g5:upd H4 z (.lst [.str (dS (Zd a n)),.str (dS (dM a n*p))]) z=some (.lst [.str (dS (Zd a n)),.str (dS (dM a n*p))]):=zd;rw[show jG [V.str (dS (Zd a n)),.str (dS (dM a n*p)),.str (dS c)] none (some 2)=[.str (dS (Zd a n)),.str (dS (dM a n*p))]from rfl];generalize upd H4 z (.lst [.str (dS (Zd a n)),.str (dS (dM a n*p))])=H5 at u g5⊢;refine⟨_,J,Zx _ i,_,_,J,J,jF (by omega),_,J,Zx _ h,by show 2<=1000;decide,λp6 H6 t n6 g6=>?_⟩;have j:∀y∈[dS (Zd a n),dS (dM a n*p)],PyData.strOk y=true:=λy hy=>by
  simp only[ag,c5,or_false]at hy;rcases hy with rfl|rfl
  . exact f1.2
  . exact f2.2
 have iL:∀{q:Y},H6 q=some (.lst [.str (dS (Zd a n)),.str (dS (dM a n*p))])->Is H6 (.lst (sT [dS (Zd a n),dS (dM a n*p)])) (.ref q):=λ{q} e=>⟨q,_,J,e,IsL.strs.mpr J⟩
 refine⟨_,_,iL (t _ _ g5),iL g6,Vz _ j,Vz _ j,BV _,_,J,?_⟩;rw[Ay,bj J];have st:=s1.trans (s2.trans (s3.trans (s4.trans (u.trans t))));refine yi ⟨J,?_⟩;by_cases W:a="own"
 . rw[bj (congrArg V.str W)];exact⟨_,J,wf (k _ st)⟩
 rw[ki W];refine⟨_,J,yi ⟨J,?_⟩⟩;by_cases M:a="tree"
 . rw[bj (congrArg V.str M)];exact⟨_,J,wf (k _ st)⟩
 rw[ki M];refine⟨_,J,yi ⟨l,_,_,_,J,J,aG.of (t _ _ (u _ _ o)),uM,?_⟩⟩;intro q7 R;obtain⟨m,hm,af,ap⟩:∃m:Nat,yq (j5 [] [(.inr "shared",.int 1),(.inr "spread",.int (rN n:Int))]) (.inr a:aJ)=some (.int (m:Int))/\m*p=c/\m<=4:=by
  rcases F with rfl|rfl|rfl|rfl
  . exact⟨1,by with_unfolding_all rfl,by rw[cS J,Nat.one_mul],by decide⟩
  . exact(W J).elim
  . exact⟨rN n,by with_unfolding_all rfl,(cP J).symm,v⟩
  . exact(M J).elim
 refine Qu (kd:=a) (v:=.int (m:Int)) (kvs:=[(.inr "shared",.int 1),(.inr "spread",.int (rN n:Int))]) R J (show 2<=15 by decide) hm λH7 s7=>?_;subst af;refine⟨_,_,J,J,jF (by omega),_,J,Zx _ d,J,?_⟩;rw[bj (show V.str (dS (m*p))=V.str (Str.ofString (toString ((m:Int)*(p:Int))))from rfl)];exact k _ (st.trans s7)
end
section
variable{hs:aB}{held:List ((List Int×Int)×V)}
theorem uw{n:Nat}(h:(yd hs held n).ready=[]):∀k,yd hs held (n+k)=yd hs held n|0=>rfl| k+1=>by show Xy _ _ (yd hs held (n+k))=_;rw[uw h k];unfold Xy;rw[h];rfl
theorem ub{n:Nat}(h:(yd hs held n).ready=[])(g:(yd hs held m).ready=[]):yd hs held n=yd hs held m:=by
 rcases Nat.le_total n m with l|l
 . obtain⟨k,rfl⟩:=Nat.exists_eq_add_of_le l;exact(uw h k).symm
 . obtain⟨k,rfl⟩:=Nat.exists_eq_add_of_le l;exact uw g k
end
open Classical in
noncomputable def oX(hs:aB)(one other:List Nat×Nat):Bool:=if h:∃n,(yd hs (yp one.1 one.2) n).ready=[]then !decide (other.2<yb (yd hs (yp one.1 one.2) h.choose).done other.1)else true
noncomputable def m9(b:Int)(n:Nat)(U:List yz)(one G:List Nat×Nat):Bool:=match one.1,G.1 with| [o],[a]=>if a<n then match fin (U.map λs=>s.map fm) b.toNat o one.2 with|some F=>decide (F.getD a 0<=G.2)|none=>oX (bT b n U) one G else oX (bT b n U) one G|_,_=>oX (bT b n U) one G
theorem D9{hs:aB}(one a:O Nat×Nat)(m:Nat)(h:(yd hs (yp one.1 one.2) m).ready=[]):decide (a.2<yb (yd hs (yp one.1 one.2) m).done a.1)= !(oX hs one a):=by
 unfold oX;have b:∃n,(yd hs (yp one.1 one.2) n).ready=[]:=⟨m,h⟩
 rw[dif_pos b,Bool.not_not,ub h b.choose_spec]
theorem Ea{n:Nat}{e:O yz}(F:Flat (bT b n e))(hl:e.length=n)(one d:O Nat×Nat)(m:Nat)(h:(yd (bT b n e) (yp one.1 one.2) m).ready=[]):decide (d.2<yb (yd (bT b n e) (yp one.1 one.2) m).done d.1)= !(m9 b n e one d):=by
 have g:=D9 one d m h;unfold m9;split
 . rename_i o a l j
   split
   . rename_i i
     split
     . rename_i L f
       rw[l]at h⊢;rw[j];rw[<-rO hl]at f;rw[yU F h f (by rw[mU];exact i)];by_cases c:d.2<L.getD a 0
       . rw[bj c,c6 (by omega)];rfl
       . rw[c6 c,bj (by omega)];rfl
     . exact g
   . exact g
 . exact g
noncomputable def oY(lk:Nat->Bool)(x:Int)(i:Nat):Nat->List Int->List Int|_,[]=>[]|j,h::r=>(if i<j/\lk j=true then(if x>h then x else h)else h)::oY lk x i (j+1) r
noncomputable def pF(lk:Nat->Nat->Bool):Nat->Nat->List Int->List Int|0,_,hs=>hs|f+1,i,hs=>pF lk f (i+1) (oY (lk i) (hs.getD i 0+1) i 0 hs)
theorem zC{lk:Nat->Bool}{x:Int}{i:Nat}:∀{hs:List Int}{j k:Nat},(oY lk x i j hs)[k]?=hs[k]?.map λh=>if i<j+k/\lk (j+k)=true then(if x>h then x else h)else h|[],_,_=>rfl|h::r,j,0=>rfl| h::r,j,k+1=>by show(oY lk x i (j+1) r)[k]?=_;rw[zC,Nat.add_right_comm,Nat.add_assoc];rfl
theorem DX{n:Nat}(a:i<n):oY (lk i) (((List.range n).map (hF lk i)).getD i 0+1) i 0 ((List.range n).map (hF lk i))=(List.range n).map (hF lk (i+1)):=by
 have e:((List.range n).map (hF lk i)).getD i 0=hF lk i i:=by rw[c7,au,List.getElem?_range a];rfl
 rw[e];refine List.ext_getElem? λk=>?_;rw[zC,au,au,Option.map_map];by_cases c:k<n
 . rw[List.getElem?_range c];show some (if i<0+k/\lk i (0+k)=true then _ else _)=some (if i<k/\lk i k=true then _ else _);rw[Nat.zero_add]
 . rw[f8 (by rw[da];omega)];rfl
theorem zB{lk:Nat->Nat->Bool}{n:Nat}:∀{f i:Nat},i+f=n->pF lk f i ((List.range n).map (hF lk i))=(List.range n).map (hF lk n)
 | 0,i,h=>by
   obtain rfl:i=n:=by omega
   rfl
 | f+1,i,h=>by show pF lk f (i+1) _=_;rw[DX (by omega)];exact zB (by omega)
noncomputable def pD(lk:Nat->Nat->Bool)(n:Nat):Int:=(eQ none (pF lk n 0 (List.replicate n 1))).getD 0
theorem Ek(lk:O Nat×Nat->O Nat×Nat->Bool)(a:O (O Nat×Nat)):mI lk a=pD (λi j=>lk (a.getD i ([],0)) (a.getD j ([],0))) a.length:=by
 unfold mI pD;have e:List.replicate a.length (1:Int)=(List.range a.length).map (hF (λi j=>lk (a.getD i ([],0)) (a.getD j ([],0))) 0):=by
  refine List.ext_getElem? λk=>?_;rw[List.getElem?_replicate,au];by_cases c:k<a.length
  . rw[if_pos c,List.getElem?_range c];rfl
  . rw[if_neg c,f8 (by rw[da];omega)];rfl
 rw[e,zB (Nat.zero_add _)]
noncomputable def rK(b:Int)(n:Nat)(G:List yz)(D:Int):Bool:=decide ((yd (bT b n G) [] 200).ready=[]) && decide (pD (λi j=>m9 b n G ((eB (bT b n G) (dC (yd (bT b n G) [] 200).wov)).getD i ([],0)) ((eB (bT b n G) (dC (yd (bT b n G) [] 200).wov)).getD j ([],0))) (eB (bT b n G) (dC (yd (bT b n G) [] 200).wov)).length=D)
theorem EW{n:Nat}{a:O yz}{D:Int}(h:rK b n a D=true)(c:Nat)(h0:(yd (bT b n a) [] c).ready=[]):mI (m9 b n a) (eB (bT b n a) (dC (yd (bT b n a) [] c).wov))=D:=by unfold rK at h;rw[cg,decide_eq_true_eq,decide_eq_true_eq]at h;rw[ub h0 h.1,Ek];exact h.2
noncomputable def mY(kd:Str)(n p:Nat):List yz:=(List.range n).map λi=>eW kd n i p
noncomputable def CD(hs:aB):Nat:=(Xg [] ((cH hs (zh (plan hs))).filterMap eO)).length
noncomputable def M4(hs:aB):Nat:=(cH hs (zh (plan hs))).countP Wn
noncomputable def vL(b:Int)(n:Nat)(G:List yz):Int:=pD (λi j=>m9 b n G ((eB (bT b n G) (dC (yd (bT b n G) [] 200).wov)).getD i ([],0)) ((eB (bT b n G) (dC (yd (bT b n G) [] 200).wov)).getD j ([],0))) (eB (bT b n G) (dC (yd (bT b n G) [] 200).wov)).length
noncomputable def rF(kd:Str)(n p a b c:Nat):Bool:=decide (a<100) && (decide (b<100) && (decide (c<100) && ((decide (n<2) ||decide (p<1)) ||(decide (a=Zd kd n) && (decide (b=dM kd n*p) && ((decide (kd≠"shared") ||decide (c=p)) && (decide (kd≠"spread") ||decide (c=rN n*p))))))))
noncomputable def uH(kd:Str)(n p:Nat):Bool:=uL (jW kd n) n p (mY kd n p) && (((List.range p).all λq=>(List.range n).all λo=>(List.range n).all λa=>uI (jW kd n) (mY kd n p) a o q) && (decide ((yd (hk kd n p) [] 200).ready=[]) && (decide ((yd (hk kd n p) [] 200).wov.length=V8 kd n p) && (decide (V8 kd n p<100) && (decide ((cH (hk kd n p) (zh (plan (hk kd n p)))).length<=300) && (rK (jW kd n) n (mY kd n p) (vL (jW kd n) n (mY kd n p)).toNat && rF kd n p (CD (hk kd n p)) (M4 (hk kd n p)) (vL (jW kd n) n (mY kd n p)).toNat))))))
structure pA(kd:Str)(n p a b c:Nat):Prop where
 a1:a<100
 b1:b<100
 c1:c<100
 aw:2<=n->1<=p->a=Zd kd n
 bw:2<=n->1<=p->b=dM kd n*p
 sh:2<=n->1<=p->kd="shared"->c=p
 sp:2<=n->1<=p->kd="spread"->c=rN n*p
theorem DQ{n a b c:Nat}(h:rF kd n p a b c=true):pA kd n p a b c:=by unfold rF at h;simp only[cg,Bool.or_eq_true,decide_eq_true_eq]at h;obtain⟨l,j,i,g⟩:=h;have f:2<=n->1<=p->_:=λhn d=>g.resolve_left (λz=>by omega);exact⟨l,j,i,λhn d=>(f hn d).1,λhn d=>(f hn d).2.1,λhn d e=>(f hn d).2.2.1.resolve_left (λz=>z e),λhn d e=>(f hn d).2.2.2.resolve_left (λz=>z e)⟩
structure Cv(kd:Str)(n p:Nat):Prop where
 law:dA (hk kd n p)
 fin:li (hk kd n p) "end" [] (Txt.join " " ["all",dS (V8 kd n p)])
 wal:li (hk kd n p) "wall" [.int n,.int p] "holds"
 cos:∃a b c,li (hk kd n p) "cost" [] (Txt.join " " [dS a,dS b,dS c])/\pA kd n p a b c
 d1:V8 kd n p<100
theorem EH{n:Nat}(h:uH kd n p=true):Cv kd n p:=by unfold uH at h;simp only[cg,decide_eq_true_eq,db,dj]at h;obtain⟨u,t,s,r,f,l,j,i⟩:=h;have B:=DE u;have D:=DQ i;refine⟨B.flat.law,.fin (V8 kd n p) J (λm d=>⟨B.all m d,by rw[ub d s];exact r⟩) f J,.wal n p J J B.made B.all (λx o q st a c b S=>?_) J,⟨_,_,_,.cos (m9 (jW kd n) n (mY kd n p)) _ _ _ J B.flat l (Ea B.flat B.len) J J (λg e=>EW j g e) D.a1 D.b1 D.c1 J,D⟩,f⟩;have:=Dg B a c b S (t q b o c x a);cases this
theorem EC:([("shared":Str),"own","spread","tree"].all λkd=>(List.range 6).all λn=>(List.range (if n+1<4 then 4 else 2)).all λp=>uH kd (n+1) p)=true:=by decide+kernel
theorem K4.mem(h:K4 kd):kd∈[("shared":Str),"own","spread","tree"]:=by rcases h with rfl|rfl|rfl|rfl<;>simp
theorem DD{n:Nat}(k:K4 kd)(a:1<=n)(b:n<=6)(hp:p<if n<4 then 4 else 2):Cv kd n p:=by have:=db.mp (db.mp (db.mp EC kd k.mem) (n-1) (dj.mpr (by omega)));rw[Nat.sub_add_cancel a]at this;exact EH (this p (dj.mpr hp))
theorem jC(a b:Str):(a++b).cps.toList=a.cps.toList++b.cps.toList:=by show(a.cps++b.cps).toList=_;simp
theorem j7{a b:Str}{n:Nat}(h:a.length<=m)(g:b.length<=n):(a++b).length<=m+n:=by have e:(a++b).length=a.length+b.length:=Array.size_append;omega
theorem Yv{a b:Str}{n:Nat}(h:a.length<=m)(g:b.length<=n)(k:m+n<=1000):a.length+b.length<=sizeLine:=wz (by omega)
theorem yK(h:x.cps.toList=jn 32 (ps.map λp=>p.cps.toList)):x=Txt.join (cA 32) ps:=by have e:Txt.join (cA 32) ps=(cA 32).join ps:=StrLaws.glued_eq_join _ _;have d:=V0 32 ps;rw[e];have c:x.cps.toList=((cA 32).join ps).cps.toList:=h.trans d.symm;have a:x.cps=((cA 32).join ps).cps:=Array.toList_inj.mp c;cases x;cases b:(cA 32).join ps;rw[b]at a;exact congrArg _ a
theorem xF{c B:Nat}:∀{ps:List (List Nat)},(∀p∈ps,p.length<=B)->(jn c ps).length<=(B+1)*ps.length|[],_=>be _| [p],h=>by have:=h p (by simp);show p.length<=(B+1)*1;omega| p::q::r,h=>by have d:=h p (by simp);have b:=xF (c:=c) (ps:=q::r) λx a=>h x (bq _ a);show(p++c::jn c (q::r)).length<=_;rw[cj,d7,d7,Nat.mul_succ];omega
noncomputable def ko:List (Str×List Str):=[("make",["letters","name","number","number"]),("wall",["name","number","number"]),("end",["name"]),("cost",["name"])]
def nN(w:World)(K:W.Frag)(mg:Str->Option Value):Prop:=∃ad kvs,mg "ROWS"=some (.ref ad)/\nM w K ad kvs/\∀q∈ko,∃b,yq kvs q.1=some (.ref b)/\∀H,aE K H b (q.2.map V.str)
theorem Gi:∀q∈ko,32 ∉ q.1.cps.toList/\10 ∉ q.1.cps.toList/\q.1.length<=8/\q.1≠"house"/\q.2.length<=4:=by decide+kernel
theorem zL:nI 32=false/\nI 10=false:=by decide+kernel
structure uV(x:Str):Prop where
 sp:32 ∉ x.cps.toList
 nl:10 ∉ x.cps.toList
 len:x.length<=8
theorem si(h:fA x=true):uV x:=by unfold fA at h;rw[cg,decide_eq_true_eq,db]at h;exact⟨λm=>absurd (h.2 _ m) (by rw[zL.1];exact br),λm=>absurd (h.2 _ m) (by rw[zL.2];exact br),h.1.2⟩
theorem CF:∀n,n<10->32 ∉ (dS n).cps.toList/\10 ∉ (dS n).cps.toList/\(dS n).length<=8:=by decide+kernel
theorem gc.wds{f:Str}(h:gc f x v):uV x:=by
 rcases h with⟨n,_,rfl,hn,_⟩|⟨_,_,d,_⟩
 . obtain⟨a,b,c⟩:=CF n hn;exact⟨a,b,c⟩
 . exact si d
theorem K4.wd(h:K4 kd):fA kd=true:=by rcases h with rfl|rfl|rfl|rfl<;>decide+kernel
theorem qE{K:W.Frag}{d:Str}{fs:O Str}{rows:O (Str×Str×V)}(B:nN w K mg)(j:(d,fs)∈ko)(e:x.cps.toList=jn 32 ((d::rows.map λr=>r.2.1).map λp=>p.cps.toList))(f:(rows.map λr=>r.1)=fs)(c:∀r∈rows,gc r.1 r.2.1 r.2.2):RowW w K mg x d rows:=by
 obtain⟨u,t,s,o,n⟩:=Gi _ j;obtain⟨ad,g,C,A,z⟩:=B;obtain⟨b,y,v⟩:=z _ j;have D:rows.length<=4:=by have:=congrArg List.length f;rw[aa]at this;rw[this];exact n
 have h:∀p∈d::rows.map (λr=>r.2.1),uV p:=λp a=>by
  rcases ag.mp a with rfl|a
  . exact⟨u,t,s⟩
  . obtain⟨r,l,rfl⟩:=bu.mp a;exact(c r l).wds
 refine⟨yK e,?_,λp a=>(h p a).sp,?_,o,⟨ad,g,b,C,A,y,λH=>?_⟩,c,by omega⟩
 . have m:=xF (c:=32) (B:=8) (ps:=(d::rows.map λr=>r.2.1).map λp=>p.cps.toList) λp a=>by obtain⟨q,i,rfl⟩:=bu.mp a;exact(h q i).len
   have F:=congrArg List.length e;have E:x.length=x.cps.toList.length:=rfl;rw[aa,d7,aa]at m;omega
 . rw[e];refine zI (by decide) λp a=>?_;obtain⟨q,i,rfl⟩:=bu.mp a;exact(h q i).nl
 . have:=v H;rw[show(d,fs).2=fs from rfl,<-f,bn]at this;exact this
noncomputable def oh(n p:Nat):Str:=((" ":Str)++dS n)++" "++dS p
theorem wR(n p:Nat):(oh n p).cps.toList=32::((dS n).cps.toList++32::(dS p).cps.toList):=by have e:(" ":Str).cps.toList=[32]:=rfl;unfold oh;simp only[jC,e];simp
theorem nj{n:Nat}(h:n<10):(dS n).length<=2:=Wq n (by omega)
theorem Et{n:Nat}(a:n<10)(hp:p<10):(oh n p).length<=6:=j7 (m:=4) (n:=2) (j7 (m:=3) (n:=1) (j7 (m:=1) (n:=2) (by decide) (nj a)) (by decide)) (nj hp)
section
variable{K:W.Frag}{nm:Str}{n:Nat}(B:nN w K mg)(k:K4 kd)(hn:fA nm=true)(n9:n<10)(p9:p<10)
theorem EE(a:fA nm=true):gc "letters" nm (.str nm):=.let (by decide) (by decide) a J
theorem Jr(a:fA nm=true):gc "name" nm (.str nm):=.let (by decide) (by decide) a J
theorem qJ(a:n<10):gc "number" (dS n) (.int n):=.num n J J a J
include B hn
theorem F9:RowW w K mg (("end ":Str)++nm) "end" [("name",nm,.str nm)]:=by refine qE B (fs:=["name"]) (by simp[ko]) ?_ J (λr a=>by rw[ak.mp a];exact Jr hn);rw[jC];rfl
theorem Ho:RowW w K mg (("cost ":Str)++nm) "cost" [("name",nm,.str nm)]:=by refine qE B (fs:=["name"]) (by simp[ko]) ?_ J (λr a=>by rw[ak.mp a];exact Jr hn);rw[jC];rfl
include n9 p9
theorem Hr:RowW w K mg (("wall ":Str)++nm++oh n p) "wall" [("name",nm,.str nm),("number",dS n,.int n),("number",dS p,.int p)]:=by
 refine qE B (fs:=["name","number","number"]) (by simp[ko]) ?_ J (λr a=>?_)
 . rw[jC,jC,wR,List.append_assoc];rfl
 . simp only[ag,c5,or_false]at a;rcases a with rfl|rfl|rfl
   . exact Jr hn
   . exact qJ n9
   . exact qJ p9
include k
theorem Hq:RowW w K mg (("make ":Str)++kd++" "++nm++oh n p) "make" [("letters",kd,.str kd),("name",nm,.str nm),("number",dS n,.int n),("number",dS p,.int p)]:=by
 refine qE B (fs:=["letters","name","number","number"]) (by simp[ko]) ?_ J (λr a=>?_)
 . rw[jC,jC,jC,jC,wR,List.append_assoc,List.append_assoc,List.append_assoc];rfl
 . simp only[ag,c5,or_false]at a;rcases a with rfl|rfl|rfl|rfl
   . exact EE k.wd
   . exact Jr hn
   . exact qJ n9
   . exact qJ p9
end
abbrev xK:Stmt:=aX 120
noncomputable abbrev Wg:Stmt:=(xx xK).getD 0 dH
noncomputable abbrev rX:Stmt:=(xx xK).getD 1 dH
noncomputable def fP:List Str:=["houses"]
inductive ml(cD:Addr)(xs:List V)(H:Hp)(Q:VK)(e0:XK):Prop|mk:∀(x dx:Addr),xs=[.ref x]->H x=some (.ins cD dx [])->(∀h H',H h=none->(∀b o,b≠x->H b=some o->H' b=some o)->H' x=some (.ins cD dx [("houses",.ref h)])->H' h=some (.dK [])->Q .non H')->ml cD xs H Q e0
inductive mH(w:World)(K:W.Frag)(mg:Str->Option Value)(H:Hp)(h:Addr)(kvs:List (aJ×V))(x:Str)(Q:VK):Prop| mak:∀(kd nm:Str) (n p:Nat),RowW w K mg x "make" [("letters",kd,.str kd),("name",nm,.str nm),("number",dS n,.int n),("number",dS p,.int p)]->K4 kd->1<=n->n<=16->p<=4->dA (hk kd n p)->kvs.length<100->
   (∀v H',(∀b o,b≠h->H b=some o->H' b=some o)->H' h=some (.dK (v4 kvs (.inr nm) v))->Is H' (eH (hk kd n p)) v->Q (.str "ok") H')->mH w K mg H h kvs x Q|ask:∀(w0 nm r:Str)(rows:List (Str×Str×V))(hs:aB)(v:V),RowW w K mg x w0 (("name",nm,.str nm)::rows)->w0≠"make"->yq kvs (.inr nm)=some v->Is H (eH hs) v->dA hs->li hs w0 (rows.map λr=>r.2.2) r->(∀H',Same H H'->Q (.str r) H')->mH w K mg H h kvs x Q
inductive lP(w:World)(K:W.Frag)(mg:Str->Option Value)(cD:Addr)(vs:List V)(H:Hp)(Q:VK)(e0:XK):Prop|mk:∀(d dx h:Addr)(kvs:List (aJ×V))(x:Str),vs=[.ref d,.str x]->H d=some (.ins cD dx [("houses",.ref h)])->H h=some (.dK kvs)->mH w K mg H h kvs x Q->lP w K mg cD vs H Q e0
theorem M5{x y z u:V}:cE (x::y::z::u::r) 3=some u:=(show cE (x::y::z::u::r) ((3:Nat):Int)=_ from y9 J)
section
variable{K:W.Frag}
theorem LO:aA ["self"] ["self"] (zf Wg):=.of
theorem LQ(D:kB K mg "Desk" "Desk.__init__" cD Wg)(C:aH K cD fP):eX P w K mg base "Desk" cD 1 ["self"] (ml cD):=by
 refine nQ (k:=0) D LO ?_;rintro f m A d s H n Q E p ⟨x,l,rfl,g,k⟩ X;refine⟨_,zg (vb (pv 0) Vt J),λh a=>?_⟩;have c:=Same.new a (.dK []);have i:upd H h (.dK []) h=some (.dK []):=zd;generalize upd H h (.dK [])=q at c i⊢;have j:h≠x:=λz=>by rw[z,g]at a;cases a
 exact⟨x,cD,l,[],J,c _ _ g,C.cls,C.n,(by simp),k h _ a (λb o z e=>by rw[upd_ne z];exact c _ _ e) zd (by rw[upd_ne j];exact i)⟩
theorem yF:aA ["self","row","asked","word","said"] ["self","row"] (zf rX):=.of
theorem EN(D:qk K cD "say" "Desk.say" rX)(T:Txt K mg)(C:aH K cD fP)(o1:Ok P w K mg base "read_row" 5 ["row"] (lR w K mg))(o2:Ok P w K mg base "made" 23 ["kind","n","p"] lZ)(o3:Ok P w K mg base "answer" 29 ["word","house","said"] mv):bU P w K mg base cD "say" 30 ["self","row"] (lP w K mg cD):=by
 refine ku (k:=29) D yF ?_;rintro f ap A G s H vs Q E F ⟨d,Z,h,ah,x,rfl,hd,hh,R⟩ X;have L:=yF.nd;have N:=ji F;refine⟨_,zb (zo (i:=2) L (yc o1 (F.mono (by decide)) (za (pv 1) zc))) (zb (zo (i:=3) L (zr zt (pv 2) ze)) (zb (zo (i:=4) L (zr zt (pv 2) ze)) (zb (ye (zm y0 (pv 3) zi (zu _)) yo zn) (zb (ye (zm y0 (pv 3) zi (zu _)) (zb (Yj N (zx (pv 0) J) (zr y4 (pv 4) ze) (yc o2 (F.mono (by decide)) (za (zr y4 (pv 4) ze) (za (zr y4 (pv 4) ze) (za (zr y4 (pv 4) ze) zc)))) J) (zg (zk zi))) zn) (zb (ye (Wi (IN N (zr y4 (pv 4) ze) (zx (pv 0) J))) (zg xn) zn) (zg (zk (yc o3 F (za (pv 3) (za (wg N (zx (pv 0) J) (zr y4 (pv 4) ze)) (za (kr Jt (pv 4) (Zu ze) Zv) zc))))))))))),?_⟩
 rcases R with⟨kd,y,n,p,t,U,h1,W,h4,LH,af,k⟩|⟨w0,y,r,g,hs,v,t,S,hv,M,LH,AN,k⟩
 . refine⟨x,_,_,J,t,λq l H1 a c m=>?_⟩;refine⟨q,_,_,_,J,J,aE.of m,fq,q,_,_,_,J,J,aE.of m,mB,J,_,J,?_⟩;rw[ki t.ne];refine yi ⟨J,_,J,?_⟩;rw[bj J];refine wf ⟨l,_,_,_,J,J,aG.of c,fq,l,_,_,_,J,J,aG.of c,uM,l,_,_,_,J,J,aG.of c,M5,kd,n,p,J,U,h1,W,h4,LH,λv H2 u M=>?_⟩;have i:=u _ _ (a _ _ hh);refine⟨d,cD,Z,_,_,J,u _ _ (a _ _ hd),C.cls,C.n,J,l,_,_,_,J,J,aG.of (u _ _ c),mB,h,_,J,Q7.k (k:=.inr y) i (wz (by omega)),?_⟩;refine k v _ (λb o z e=>by rw[upd_ne z];exact u _ _ (a _ _ e)) zd (M.tups (λb xs e=>?_) (Wp _));rw[upd_ne λz=>by rw[z,i]at e;cases e];exact e
 . refine⟨x,_,_,J,t,λq l H1 a c m=>?_⟩;refine⟨q,_,_,_,J,J,aE.of m,fq,q,_,_,_,J,J,aE.of m,mB,J,_,J,?_⟩;rw[ki t.ne];refine yi ⟨J,_,J,?_⟩;rw[ki S];have j:=a _ _ hd;have hg:DGet H1 h (.str y) (some v):=hv▸DGet.k (k:=.inr y) (a _ _ hh);refine yi ⟨l,_,_,_,J,J,aG.of c,fq,d,cD,Z,_,_,J,j,C.cls,C.n,J,h,some v,J,hg,_,J,yi ?_⟩;refine⟨d,cD,Z,_,_,J,j,C.cls,C.n,J,l,_,_,_,J,J,aG.of c,fq,h,v,J,hg,1,J,l,_,J,aG.of c,λp3 h3=>?_⟩;rw[c4,At];have s3:=Same.new h3 (.lst (g.map λr=>r.2.2));exact⟨w0,r,v,p3,hs,_,J,M.mono (a.trans s3),LH,zd,AN,λH' s'=>k H' (a.trans (s3.trans s'))⟩
end
noncomputable abbrev rT:Stmt:=aX 128
def Du(K:W.Frag)(t:TA):TE:=λσ H Q=>t σ H λxs H1=>xs.length<=sizeLine/\∀p,H1 p=none->K.lookup p=none->Q (.ref p) (upd H1 p (.lst xs))
theorem Fz{t:TA}(h:PA X es t):PE X (.List es aD) (Du X.K t):=by
 intro c s g H Q I l;refine wpAny_List_spliced (aF (h aD c s g H _ I l) λj a ⟨i,f,d,r,z,q⟩=>⟨by rw[<-r.length];exact z,?_⟩);have m:f a.heap.objs.size=none:=d.hok.fresh (ae _);have hk:X.K.lookup a.heap.objs.size=none:=by cases e:X.K.lookup a.heap.objs.size with|none=>rfl|some o=>exact absurd (aq (d.kIn _ _ e)) (cy _)
 exact⟨.ref a.heap.objs.size,upd f a.heap.objs.size (.lst i),d.laid (t':=a.toks) (λb u e=>aj _ e) (ae _) ⟨z,j,0,r,bf _ J⟩,J,q _ m hk⟩
theorem Em{k:Nat}{sp:Sp}{p:Pos}(h:eX X.prog X.w X.K X.mg X.base x C k ps sp)(b:aQ (k+1) X.A)(d:Gl X x:=by rfl)(a:(x==("__debug__":Str))=false:=by decide):PE X (.Call (.Name x p) [] [] aD) (pV C sp [] E0 kE):=by obtain⟨f,g,F,e,M,c⟩:=h;exact GZ M F b d c e .nil nO a
theorem rG{x:V}{A B:Prop}(h:B):if(!decide (x=x))=true then A else B:=by simp_all
theorem cT.put{K:W.Frag}{H d:Hp}{s h:Y}(t:cT K H a s ns)(hh:H h=some (.dK kvs))(k:∀b o,b≠h->H b=some o->d b=some o):cT K d a s ns:=by
 obtain⟨⟨p,r,c,f,e⟩,q,n,l⟩:=t;refine⟨⟨p,r,k _ _ (λz=>by rw[z,hh]at c;cases c) c,f,e⟩,?_,n,l⟩;rcases q with(q|⟨o,q⟩)|q
 . exact .inl (.inl (k _ _ (λz=>by rw[z,hh]at q;cases q) q))
 . exact .inl (.inr ⟨o,k _ _ (λz=>by rw[z,hh]at q;cases q) q⟩)
 . exact .inr q
inductive eN(K:W.Frag)(vs:List V)(H:Hp)(Q:VK)(e0:XK):Prop|mk:∀(a:Addr)(ns:List Int),vs=[.ref a]->aG K H a (ns.map V.int)->ns.length<=63->(∀H',Q (.bl true) H')->eN K vs H Q e0
section
variable{K:W.Frag}
theorem yQ:aA ["script","deck","k","kind","n","p","name","size","desk","told"] ["script"] (zf rT):=.of
theorem EJ{f0:Y}(F:iK K "law" "law" rT f0 Cc)(T:Txt K mg)(B:nN w K mg)(C:aH K cD fP)(oP:Ok P w K mg base "_law_e_pick" 2 ["deck","many"] (jN K))(oN:Ok P w K mg base "_law_e_name" 3 ["deck"] (lU K))(oI:eX P w K mg base "Desk" cD 1 ["self"] (ml cD))(oS:bU P w K mg base cD "say" 30 ["self","row"] (lP w K mg cD))(oD:Ok P w K mg base "_law_e_deeds" 2 ["kind","n","p"] mj)(oC:Ok P w K mg base "_law_e_cost_right" 2 ["kind","n","p","told"] mn):cF P w K mg base fR 31 f0 Cc ["script"] (eN K):=by
 refine F.ok yQ (λvs H Q E h=>by cases h;subst_vars;rfl) λbd A ay sh H vs Q E hr h=>?_;obtain⟨s,L,rfl,hS,a6,kk⟩:=h;have m:=yQ.nd;have W:=hr.mono (show 2<=30 by decide);have r3:=hr.mono (show 3<=30 by decide);refine⟨_,zb (zo (i:=1) m (Fz (za (pv 0) (za ze (za ze zc)))))
  (zb (wy PassesOwn.never J (ww J T.range (za ze zc)) (zp (i:=2) m) (zb (ye (PW.pt (Qr (zm Je (pv 2) ze (zu _)) (Vl (zm rZ (zr y4 (pv 1) ze) (yf yg J T.len we (za (pv 0) zc)) (zu _))))) (zg Hh) zn) (zb (zo (i:=3) m (zr y4 (w9 (za zi (za zi (za zi (za zi zc))))) (yc oP W (za (pv 1) (za ze zc))))) (zb (zo (i:=4) m (ya xv ze (yc oP W (za (pv 1) (za ze zc))))) (zb (zo (i:=5) m (yc oP W (za (pv 1) (za ze zc)))) (zb (ye (PW.pt (Qr (zm Je (pv 4) ze (zu _)) (Vl (zm Je (pv 5) ze (zu _))))) (zg (zo (i:=5) m ze)) zn) (zb (zo (i:=6) m (yc oN r3 (za (pv 1) zc))) (zb (zo (i:=7) m (ya wj (ya wj (ya wj zi (yx vk J T.str k7 (za (pv 4) zc))) zi) (yx vk J T.str k7 (za (pv 5) zc)))) (zb (zo (i:=8) m (Em oI W)) (zb (ye (PW.pt (Xz (zm X1 (v6 oS C.cls hr (pv 8) (za (ya wj (ya wj (ya wj (ya wj zi (pv 3)) zi) (pv 6)) (pv 7)) zc)) zi (zu _)) (Z1 (zm X1 (v6 oS C.cls hr (pv 8) (za (ya wj (ya wj zi (pv 6)) (pv 7)) zc)) zi (zu _))))) (zg xn) zn) (zb (ye (zm X1 (v6 oS C.cls hr (pv 8) (za (ya wj zi (pv 6)) zc)) (ya wj zi (yx vk J T.str k7 (za (yc oD W (za (pv 3) (za (pv 4) (za (pv 5) zc)))) zc))) (zu _)) (zg xn) zn) (zb (zo (i:=9) m (v6 oS C.cls hr (pv 8) (za (ya wj zi (pv 6)) zc))) (zg (ye (PW.pt (Xz (xt (y7 (Y4 T.isi T.str k7 (pv 9)))) (Z1 (PW.pt (Qr (zm Je (pv 4) ze (zu _)) (Qr (zm Je (pv 5) ze (zu _)) (Vl (xt (y7 (yc oC W (za (pv 3) (za (pv 4) (za (pv 5) (za (pv 9) zc)))))))))))))) (zg xn) zn))))))))))))))
  (zg (zk jy))),?_⟩
 refine⟨bF,λa ha M=>?_⟩;have sa:=Same.new ha (.lst [.ref s,.int 0,.int 0]);have T0:cT K (upd H a (.lst [.ref s,.int 0,.int 0])) a s L:=by
  have e:s≠a:=λz=>by
   rcases hS with(q|⟨o,q⟩)|⟨o,a8,n,q,_⟩
   . rw[z,ha]at q;cases q
   . rw[z,ha]at q;cases q
   . have M:K.lookup a=none:=M;rw[z,M]at q;cases q
  exact⟨⟨0,0,zd,dz 0,dz 0⟩,sa.seq hS,e,a6⟩
 generalize upd H a (.lst [.ref s,.int 0,.int 0])=H0 at T0 sa⊢;refine⟨5,J,by decide,by decide,?_⟩;let a7:Nat->L2.St->Hp->Prop:=λi σ H'=>cT K H' a s L/\∃x2 x3 x4 x5 x6 x7 x8 x9,σ=[some (.ref s),some (.ref a),x2,x3,x4,x5,x6,x7,x8,x9];refine Xs (lo:=0) a7 ⟨T0,none,none,none,none,none,none,none,none,J⟩ ?_ (λσ H1 _=>kk H1);rintro i σ H1 hi ⟨T1,x2,x3,x4,x5,x6,x7,x8,x9,rfl⟩;dsimp only[js,pM,Ends.sq,nK,tC,pX];refine uj (t:=pL _ _ _) (λj G=>j=[some (.ref s),some (.ref a),some (.int (0+(i:Int))),x3,x4,x5,x6,x7,x8,x9]/\G=H1) ?_ (λfin=>?_);rotate_left
 . obtain⟨p0,r0,ea,bb,ba⟩:=T1.at';refine⟨_,_,J,J,_,J,jw (λ_=>?_) (λ_=>yi (fin _ _ ⟨J,J⟩))⟩;exact⟨a,_,_,_,J,J,aG.of ea,mB,s,_,J,.inl T1.seq,_,_,J,J,_,J,jw (λ_=>kk _) (λ_=>fin _ _ ⟨J,J⟩)⟩
 rintro j G ⟨rfl,rfl⟩;refine⟨by show 4<=1000;decide,λl3 H3 s3 n3 g3=>?_⟩;have aS:l3≠a:=λz=>by obtain⟨p0,r0,ea,_⟩:=T1.at';rw[z,ea]at n3;cases n3
 refine⟨a,s,L,4,J,T1.same s3,by decide,by decide,λd H4 d0 d4 b4 T4=>?_⟩;obtain⟨g,Z,a3⟩:∃g,K4 g/\cE [V.str "shared",.str "own",.str "spread",.str "tree"] d=some (.str g):=by
  have:d=0\/d=1\/d=2\/d=3:=by omega
  rcases this with rfl|rfl|rfl|rfl
  . exact⟨_,.inl J,J⟩
  . exact⟨_,.inr (.inl J),J⟩
  . exact⟨_,.inr (.inr (.inl J)),J⟩
  . exact⟨_,.inr (.inr (.inr J)),J⟩
 refine⟨l3,_,_,_,J,J,aG.of (b4 _ _ aS g3),a3,?_⟩;refine⟨a,s,L,6,J,T4,by decide,by decide,λd2 H5 e0 e6 b5 T5=>⟨_,_,J,J,?_⟩⟩;obtain⟨N,hN⟩:∃N:Nat,1+d2=(N:Int):=⟨(1+d2).toNat,by omega⟩
 rw[hN];have N1:1<=N:=by omega
 have N6:N<=6:=by omega
 refine⟨a,s,L,4,J,T5,by decide,by decide,λd3 H6 f0 f4 b6 T6=>?_⟩;obtain⟨p0,rfl⟩:=Int.eq_ofNat_of_zero_le f0;dsimp only[pM,Ends.sq,nK,tC,pX];refine uj (t:=pL _ _ _) (λj G=>(∃p:Nat,p<(if N<4 then 4 else 2)/\j=[some (.ref s),some (.ref a),some (.int (0+(i:Int))),some (.str g),some (.int (N:Int)),some (.int (p:Int)),x6,x7,x8,x9])/\G=H6) ?_ (λfin=>?_);rotate_left
 . refine⟨_,_,J,J,_,J,jw (λc=>?_) (λc=>yi (fin _ _ ⟨⟨p0,?_,J⟩,J⟩))⟩
   . refine⟨_,_,J,J,_,J,jw (λc2=>fin _ _ ⟨⟨1,by split<;>omega,J⟩,J⟩) (λc2=>fin _ _ ⟨⟨p0,?_,J⟩,J⟩)⟩;have:¬(1<p0):=λz=>c2 (bj (by omega));split<;>omega
   . have:¬(3<N):=λz=>c (bj (by omega));rw[if_pos (by omega)];omega
 rintro j G ⟨⟨p,hp,rfl⟩,rfl⟩;have O:=DD Z N1 N6 hp;have p3:p<=3:=by split at hp<;>omega
 refine⟨a,s,L,J,T6,λX H7 hw b7 T7=>?_⟩;have n9:N<10:=by omega
 have p9:p<10:=by omega
 have wk:=(si Z.wd).len;have U:=(si hw).len;have ws:=Et n9 p9;refine⟨_,J,Zx N (by omega),_,_,J,J,Yv (m:=1) (n:=2) (by decide) (nj n9) (by decide),_,_,J,J,Yv (m:=3) (n:=1) (j7 (m:=1) (n:=2) (by decide) (nj n9)) (by decide) (by decide),_,J,Zx p (by omega),_,_,J,J,Yv (m:=4) (n:=2) (j7 (m:=3) (n:=1) (j7 (m:=1) (n:=2) (by decide) (nj n9)) (by decide)) (nj p9) (by decide),?_⟩;intro x u hx a5 bc;refine⟨x,u,J,zd,λh H8 hh kp gx gh=>⟨J,?_⟩⟩;have s8:Same H7 H8:=λb o e=>kp b o (zj e hx) (by rw[upd_ne (zj e hx),upd_ne (zj e a5)];exact e);have T8:=T7.same s8;refine⟨x,u,_,J,gx,J,_,_,J,J,Yv (m:=5) (n:=8) (by decide) wk (by decide),_,_,J,J,Yv (m:=13) (n:=1) (j7 (m:=5) (n:=8) (by decide) wk) (by decide) (by decide),_,_,J,J,Yv (m:=14) (n:=8) (j7 (m:=13) (n:=1) (j7 (m:=5) (n:=8) (by decide) wk) (by decide)) U (by decide),_,_,J,J,Yv (m:=22) (n:=6) (j7 (m:=14) (n:=8) (j7 (m:=13) (n:=1) (j7 (m:=5) (n:=8) (by decide) wk) (by decide)) U) ws (by decide),x,u,h,[],_,J,gx,gh,.mak g X N p (Hq B Z hw n9 p9) Z N1 (by omega) (by omega) O.law (by decide) λv H9 af R iv=>⟨J,_,J,rG ?_⟩⟩;have aK:x≠h:=λz=>by rw[z,gh]at gx;cases gx
 have t:=af _ _ aK gx;have T9:=T8.put gh af;have l:yq (v4 [] (.inr X) v) (.inr X:aJ)=some v:=by simp[v4,yq]
 refine⟨x,u,_,J,t,J,_,_,J,J,Yv (m:=5) (n:=8) (by decide) U (by decide),_,_,J,J,Yv (m:=13) (n:=6) (j7 (m:=5) (n:=8) (by decide) U) ws (by decide),x,u,h,_,_,J,t,R,.ask "wall" X "holds" [("number",dS N,.int N),("number",dS p,.int p)] (hk g N p) v (Hr B hw n9 p9) (by decide) l iv O.law O.wal λbk r=>⟨J,_,J,rG ?_⟩⟩;have D:=r _ _ t;refine⟨x,u,_,J,D,J,_,_,J,J,Yv (m:=5) (n:=8) (by decide) U (by decide),x,u,h,_,_,J,D,r _ _ R,.ask "end" X _ [] (hk g N p) v (F9 B hw) (by decide) l (iv.mono r) O.law O.fin λbi aw=>?_⟩;refine⟨g,N,p,J,Z,N1,N6,p3,λbh f=>⟨_,J,Zx _ O.d1,_,_,J,J,Yv (m:=5) (n:=2) (by decide) (Wq _ O.d1) (by decide),J,_,J,?_⟩⟩;have ee:("all ":Str)++dS (V8 g N p)=Txt.join " " ["all",dS (V8 g N p)]:=yK (by rw[jC];rfl);rw[<-ee];refine rG ?_;have f:=r.trans (aw.trans f);have y:=f _ _ t;obtain⟨ca,cb,cc,AN,S⟩:=O.cos;refine⟨x,u,_,J,y,J,_,_,J,J,Yv (m:=5) (n:=8) (by decide) U (by decide),x,u,h,_,_,J,y,f _ _ R,.ask "cost" X _ [] (hk g N p) v (Ho B hw) (by decide) l (iv.mono f) O.law AN λah av=>?_⟩;have next:∀{H'},Same ah H'->cT K H' a s L:=λ{H'} s'=>T9.same (f.trans (av.trans s'));refine⟨.str _,"str",_,_,J,(show Is ah (.str _) (.str _)from rfl).ty,J2 K (.str _),_,J,yi ?_⟩;refine⟨_,_,J,J,_,J,jw (λc1=>?_) (λ_=>yi ⟨next (Same.refl _),_,_,_,_,_,_,_,_,J⟩)⟩;refine⟨_,_,J,J,_,J,jw (λc2=>?_) (λ_=>yi ⟨next (Same.refl _),_,_,_,_,_,_,_,_,J⟩)⟩;have n2:2<=N:=by have:=cm c1;omega
 have p1:1<=p:=by have:=cm c2;omega
 refine⟨g,N,p,cc,?_,Z,N1,N6,p3,?_,S.c1,S.sh n2 p1,S.sp n2 p1,λbg ap=>⟨_,J,yi ⟨next ap,_,_,_,_,_,_,_,_,J⟩⟩⟩
 . rw[<-S.aw n2 p1,<-S.bw n2 p1];rfl
 . rw[<-S.bw n2 p1];exact S.b1
end
abbrev NS(K:W.Frag)(x:Str)(v:Option Value):Prop:=W.nsIn K mainGlobals x=some v
def FD(K:W.Frag)(x:Str)(st:Stmt)(f:Addr)(G:FuncData):Prop:=NS K x (some (.ref f))/\iK K x x st f G
def FE(K:W.Frag)(x:Str)(st:Stmt):Prop:=∃f fd,FD K x st f fd
def CI(K:W.Frag)(x:Str)(i:Int):Prop:=∃t,NS K x (some (.int i t))
def KT(K:W.Frag)(a:Addr)(xs:List Str):Prop:=∀H,aE K H a (xs.map V.str)
section
variable{K:W.Frag}{y z:Str}{f D N M:Addr}{kV doc pm cdv ct:Value}{b:Bool}{i:Int}{t u v:Tok}{n:Nat}
theorem oZ(e:W.nsIn K mainGlobals x=some (some (.ref f)))(l:K.lookup f=some ⟨oc,od,.func (W.fnOf x x (jd st) (wr st) (zf st) .none kV doc pm an cdv ct),osl⟩)(c:W.codeIn K cdv x=true)(k:W.keepIn K (.ref f)=true):FD K x st f (W.fnOf x x (jd st) (wr st) (zf st) .none kV doc pm an cdv ct):=⟨e,sR l c k⟩
theorem Cb(e:W.nsIn K mainGlobals x=some (some (.ref f)))(l:K.lookup f=some ⟨oc,od,.func (W.fnOf x x (jd st) (wr st) (zf st) .none kV doc pm an cdv ct),osl⟩)(c:W.codeIn K cdv x=true)(k:W.keepIn K (.ref f)=true):FE K x st:=⟨_,_,oZ e l c k⟩
theorem FE.d(X:K.In h)(G:h.Ns mainGlobals mg)(a:FE K x st):bG K mg x st:=let⟨f,b,e,F⟩:=a;⟨f,b,F,W.mg_of X G e⟩
theorem Ci(e:W.nsIn K mainGlobals x=some (some (.int i t))):CI K x i:=⟨_,e⟩
theorem CI.d(X:K.In h)(G:h.Ns mainGlobals mg)(e:CI K x i):∃t,mg x=some (.int i t):=let⟨t,e⟩:=e;⟨t,W.mg_of X G e⟩
theorem M9(l:K.lookup a=some ⟨.type "tuple",od,.seq #[.str x t,.str y u,.str z v] n,osl⟩):KT K a [x,y,z]:=λH=>.inr ⟨_,_,n,l,J,J,bF,.cons ⟨_,J⟩ (.cons ⟨_,J⟩ (.cons ⟨_,J⟩ .nil))⟩
theorem M8{q:Str}{b:Tok}(l:K.lookup a=some ⟨.type "tuple",od,.seq #[.str x t,.str y u,.str z v,.str q b] n,osl⟩):KT K a [x,y,z,q]:=λH=>.inr ⟨_,_,n,l,J,J,bF,.cons ⟨_,J⟩ (.cons ⟨_,J⟩ (.cons ⟨_,J⟩ (.cons ⟨_,J⟩ .nil)))⟩
end
section
variable{K:W.Frag}{m q:Str}{f:Addr}{fs:List Str}{kV doc pm cdv ct:Value}
def DI(K:W.Frag)(q:Str)(C:Addr)(st:Stmt):Prop:=∃f fd,iK K "__init__" q st f fd/\Mk K C f
theorem DI.d(X:K.In h)(G:h.Ns mainGlobals mg)(e:NS K x (some (.ref C)))(a:DI K q C st):kB K mg x q C st:=let⟨f,b,F,M⟩:=a;⟨f,b,F,M,W.mg_of X G e⟩
theorem Cg(l:K.lookup f=some ⟨oc,od,.func (W.fnOf "__init__" q (jd st) (wr st) (zf st) .none kV doc pm an cdv ct),osl⟩)(c:W.codeIn K cdv q=true)(k:W.keepIn K (.ref f)=true)(e:W.makesIn K C=true)(d:W.findIn K (.ref C) "__init__"=some (some (.ref f)))(b:W.isFn K (.ref f)=true)(a:W.keepIn K (.ref C)=true):DI K q C st:=⟨_,_,sR l c k,e,d,b,a⟩
theorem Cf(l:K.lookup f=some ⟨oc,od,.func (W.fnOf m q (jd st) (wr st) (zf st) .none kV doc pm an cdv ct),osl⟩)(c:W.codeIn K cdv q=true)(k:W.keepIn K (.ref f)=true)(b:W.findIn K (.ref C) m=some (some (.ref f)))(a:W.isFn K (.ref f)=true):qk K C m q st:=⟨_,_,sR l c k,b,a,k⟩
theorem Cj(a:W.plainGet K C Str.empty=true)(b:W.hasDictIn K C=true)(c:W.plainOver K C=true)(d:W.findIn K (.ref C) "__setattr__"=some (some (.builtin "object.__setattr__")))(e:∀f∈fs,W.findIn K (.ref C) f=some none):aH K C fs:=⟨⟨a,b,c,d⟩,e⟩
end
theorem Na{K:W.Frag}{t:Tok}{n:Nat}(l:K.lookup a=some ⟨.type "tuple",od,.seq #[.str x t] n,osl⟩):KT K a [x]:=λH=>.inr ⟨_,_,n,l,J,J,bF,.cons ⟨_,J⟩ .nil⟩
theorem Ch{K:W.Frag}{t:Y}{s:Nat}{r:Tok}{i:Y}{p:Tok}{d:Y}{o:Tok}{g:Y}{n:Tok}{f:Y}{m:Tok}{c:Y}{l:Tok}{b:Y}{j:Tok}{a:Y}(X:K.In h)(G:h.Ns mainGlobals mg)(e:W.nsIn K mainGlobals "ROWS"=some (some (.ref t)))(A:K.lookup t=some ⟨.type "dict",none,.dict #[⟨hashStr w "house",.str "house" r,.ref i⟩,⟨hashStr w "end",.str "end" p,.ref d⟩,⟨hashStr w "must",.str "must" o,.ref g⟩,⟨hashStr w "moment",.str "moment" n,.ref f⟩,⟨hashStr w "wall",.str "wall" m,.ref c⟩,⟨hashStr w "cost",.str "cost" l,.ref b⟩,⟨hashStr w "make",.str "make" j,.ref a⟩] s,#[]⟩)(C:(t==sysModules)=false) (v:KT K a ["letters","name","number","number"]) (y:KT K c ["name","number","number"]) (z:KT K d ["name"]) (x:KT K b ["name"]):nN w K mg:=by
 refine⟨t,[("house",.ref i),("end",.ref d),("must",.ref g),("moment",.ref f),("wall",.ref c),("cost",.ref b),("make",.ref a)],W.mg_of X G e,⟨C,by show(["house","end","must","moment","wall","cost","make"]:O Str).Nodup;decide+kernel,[("house",r,.ref i),("end",p,.ref d),("must",o,.ref g),("moment",n,.ref f),("wall",m,.ref c),("cost",l,.ref b),("make",j,.ref a)],s,A,(.cons ⟨J,J⟩ (.cons ⟨J,J⟩ (.cons ⟨J,J⟩ (.cons ⟨J,J⟩ (.cons ⟨J,J⟩ (.cons ⟨J,J⟩ (.cons ⟨J,J⟩ .nil)))))))⟩,λq u=>?_⟩;simp only[ko,ag,c5,or_false]at u;rcases u with rfl|rfl|rfl|rfl
 . exact⟨a,by with_unfolding_all rfl,v⟩
 . exact⟨c,by with_unfolding_all rfl,y⟩
 . exact⟨d,by with_unfolding_all rfl,z⟩
 . exact⟨b,by with_unfolding_all rfl,x⟩
theorem uN{l:W.OpenLaw}{K:W.Frag}{fa fL g f kR m d U Z kD:Y}(X:K.In h)(G:h.Ns mainGlobals mg)(e5:mg "law"=some (.ref fa))(b0:FE K "is_whole" We) (b1:FE K "is_within" Yy) (b2:FE K "is_tuple_within" jm) (b3:FE K "is_letters" Zb) (b4:FE K "is_word" Qj) (b5:FE K "is_box" Kv) (b6:FE K "are_members" Z0) (b7:FE K "is_calling" Yg) (b8:FE K "is_deed" Qk) (b9:FE K "is_script" Zr) (gL:FE K "is_frame" Wf) (gK:FE K "is_well_formed" qu) (gJ:FE K "brought_by_scripts" Qp) (gI:FE K "is_small_enough" Zj) (gG:FE K "is_allowed" Yh) (gE:FE K "fits" sU) (gD:FE K "is_house" Yf) (gC:FE K "need_of" Kt) (gB:FE K "said_in" Xn) (gA:FE K "is_met" Ku) (gz:FE K "first_run" Yz) (gx:FE K "woven_on" X8) (gv:FE K "is_made" Ze) (gt:FE K "need_house" Ye) (gr:FE K "plan_of" Qi) (gq:FE K "made_plan" Yx) (gn:FE K "triples" Xm) (gl:FE K "say_of" Ve) (gk:FE K "come_of" Qn) (gi:FE K "go_of" tX) (gh:FE K "tried" uo) (gf:FE K "shared_deeds" Ks) (gd:FE K "own_deeds" nP) (gb:FE K "tree_deeds" Kq) (ga:FE K "spread_deeds" Kr) (f7:FE K "met_by" t6) (f6:FE K "script_of" Wa) (f5:FE K "boxes_of" Qq) (f4:FE K "made" Vg) (f3:FE K "named" ul) (f2:FE K "depth_of" Vi) (f1:FE K "cost" Qm) (f0:FE K "end" rS) (fy:FE K "is_number" Yi) (fx:FE K "read_word" Wc) (fv:FE K "read_words" Zq) (ft:FE K "read_row" Qh) (fn:FE K "answer_end" Y0) (fl:FE K "answer" Vj) (ff:FE K "_law_e_mixed" uk) (fb:FE K "_law_e_pick" sX) (e9:FE K "_law_e_name" qL) (e8:FE K "_law_e_rounds" Vf) (e7:FE K "_law_e_cost_right" km) (e6:FE K "_law_e_deeds" tV) (bL:FD K "law" rT fL dL) (n0:CI K "BOXES" 0) (n1:CI K "WALLS" 1) (n2:CI K "FIRSTS" 2) (n3:CI K "SCRIPTS" 3) (n4:CI K "MOST_BOXES" 99) (n5:CI K "MOST_WALLS" 6) (n6:CI K "MOST_FIRSTS" 40) (n7:CI K "MOST_SCRIPTS" 20) (n8:CI K "MOST_DEEDS_OF_SCRIPT" 80) (n9:CI K "MOST_HANDS" 60) (ec:CI K "MOST_DEEDS" 1200) (eb:CI K "MOST_RAISED" 99) (ea:CI K "MOST_AWAITED" 9999) (d8:CI K "MOST_WORKED" 999) (d6:CI K "MOST_LETTERS" 8) (e4:NS K "MODES" (some (.ref g))) (S:KT K g ["both","come","go"]) (d4:CI K "MOST_MEETERS" 16) (d3:CI K "MOST_PHASES" 4) (d2:CI K "MOST_DEEDS_OF_COST" 300) (e3:NS K "KINDS" (some (.ref f))) (R:KT K f ["shared","own","spread","tree"]) (d1:CI K "MOST_FIGURES" 30) (z:NS K "isinstance" none/\NS K "int" none/\NS K "bool" none/\NS K "str" none/\NS K "tuple" none/\NS K "dict" none/\NS K "list" none/\NS K "len" none/\NS K "all" none/\NS K "sum" none/\NS K "range" none/\NS K "enumerate" none/\NS K "sorted" none/\NS K "zip" none/\NS K "max" none/\NS K "set" none) (B:nN w K mg) (uR:NS K "Role" (some (.ref kR))) (c:aH K kR aT) (iR:DI K "Role.__init__" kR Wb) (uP:NS K "Plan" (some (.ref m))) (a:aH K m aZ) (iP:DI K "Plan.__init__" m Wd) (ez:qk K m "enter" "Plan.enter" tW) (ey:qk K m "at_first" "Plan.at_first" Xo) (ew:qk K m "every_deed" "Plan.every_deed" Zs) (ev:qk K m "what" "Plan.what" sZ) (uU:NS K "Run" (some (.ref d))) (b:aH K d cJ) (iU:DI K "Run.__init__" d Z7) (er:qk K d "put" "Run.put" rW) (eo:qk K d "level" "Run.level" tZ) (en:qk K d "next_deed" "Run.next_deed" sV) (el:qk K d "may_go_on" "Run.may_go_on" rV) (ek:qk K d "has_done" "Run.has_done" Ql) (ej:qk K d "has_done_all" "Run.has_done_all" Vh) (ei:qk K d "do" "Run.do" mK) (eg:qk K d "changed" "Run.changed" Qo) (uW:NS K "Weaver" (some (.ref U))) (vW:aH K U cG) (iW:DI K "Weaver.__init__" U Yd) (ee:qk K U "step" "Weaver.step" sY) (ed:qk K U "weave" "Weaver.weave" uq) (uS:NS K "Stop" (some (.ref Z))) (N:aH K Z dU) (iS:DI K "Stop.__init__" Z X9) (eu:qk K Z "lacks" "Stop.lacks" tY) (et:qk K Z "up_to" "Stop.up_to" qM) (uD:NS K "Desk" (some (.ref kD))) (vD:aH K kD fP) (iD:DI K "Desk.__init__" kD Wg) (e0:qk K kD "say" "Desk.say" rX) (hb:∀(s:Shared)(v:I),BindsTo s dL ⟨[v],[]⟩ [("script",v)]):
  ∃fd:FuncData,(∀(s:Shared)(v:I),BindsTo s fd ⟨[v],[]⟩ [("script",v)])/\∀base:Heap,K.In base->base.Ns mainGlobals mg->cF l.prog w K mg base fR 31 fa fd ["script"] (eN K):=by
 have e:=e5.symm.trans (W.mg_of X G bL.1);cases e;obtain⟨z0,z1,z2,z3,z4,z5,z6,z7,z8,z9,ay,aw,av,ap,ah,af⟩:=z;have T:Txt K mg:=⟨n0.d X G,n1.d X G,n2.d X G,n3.d X G,n4.d X G,n5.d X G,n6.d X G,n7.d X G,n8.d X G,n9.d X G,ec.d X G,eb.d X G,ea.d X G,d8.d X G,d6.d X G,⟨g,W.mg_of X G e4,S⟩,W.mg_none_of X G z0,W.mg_none_of X G z1,W.mg_none_of X G z2,W.mg_none_of X G z3,W.mg_none_of X G z4,W.mg_none_of X G z5,W.mg_none_of X G z6,W.mg_none_of X G z7,W.mg_none_of X G z8,W.mg_none_of X G z9,W.mg_none_of X G ay,W.mg_none_of X G aw,W.mg_none_of X G av,W.mg_none_of X G ap⟩
 have TM:mD mg:=⟨d4.d X G,d3.d X G⟩
 have hC:=d2.d X G;have hK:∃aK,mg "KINDS"=some (.ref aK)/\∀H,aE K H aK [.str "shared",.str "own",.str "spread",.str "tree"]:=⟨f,W.mg_of X G e3,R⟩
 have hF:=d1.d X G;have zM:mg "max"=none:=W.mg_none_of X G ah;have zS:mg "set"=none:=W.mg_none_of X G af;refine⟨dL,hb,λbase XB _=>?_⟩;have F:=bL.2;have o1:=LG (P:=l.prog) (w:=w) (base:=base) (mg:=mg) (b0.d X G) T;have p:=Mb (b1.d X G) o1;have o3:=Wj (P:=l.prog) (w:=w) (base:=base) (mg:=mg) (b2.d X G) T;have P:=Mu (P:=l.prog) (w:=w) (base:=base) (mg:=mg) (b3.d X G) T;have o4:=KP (b4.d X G) T P;have o5:=JJ (b5.d X G) T p;have o8:=K2 (P:=l.prog) (w:=w) (base:=base) (mg:=mg) (b6.d X G) T;have o9:=Mt (b7.d X G) T o3 p o8;have dV:=KN (b8.d X G) T o3 p o5 o4;have dT:=Ma (b9.d X G) T o3 dV;have dN:=LS (gL.d X G) T o3 p;have dK:=Vx (gK.d X G) T dN dT o9;have dE:=KJ (P:=l.prog) (w:=w) (base:=base) (mg:=mg) (gJ.d X G) T;have dv:=LF (gI.d X G) T dE;have du:=Ms (P:=l.prog) (w:=w) (base:=base) (mg:=mg) (gG.d X G);have dt:=Fl (gE.d X G) T du;have Q:=LT (gD.d X G) T dK dv dt;have dr:=JL (P:=l.prog) (w:=w) (base:=base) (mg:=mg) (gC.d X G);have dq:=Lu (P:=l.prog) (w:=w) (base:=base) (mg:=mg) (gB.d X G) T;have dp:=JK (P:=l.prog) (w:=w) (base:=base) (mg:=mg) (gA.d X G);have dn:=LK (P:=l.prog) (w:=w) (base:=base) (mg:=mg) (iR.d X G uR) c;have dh:=GO ez T a c dn dr;have dg:=LI (iP.d X G uP) T a dh;have de:=KH (P:=l.prog) (w:=w) (base:=base) (mg:=mg) ey T a c;have c3:=EM (P:=l.prog) (w:=w) (base:=base) (mg:=mg) er b a c;have c2:=KS (iU.d X G uU) T b a c3;have j:=L9 (gz.d X G) a de c2;have C:=Fn (P:=l.prog) (w:=w) (base:=base) (mg:=mg) en T b a c;have c1:=GR (P:=l.prog) (w:=w) (base:=base) (mg:=mg) (cP:=m) (cR:=kR) eo b;have M:=EK el b a c C c1 dp;have L:=KK (P:=l.prog) (w:=w) (base:=base) (mg:=mg) eg;have E:=Dh ei T b a c L;have D:=KM (P:=l.prog) (w:=w) (base:=base) (mg:=mg) ek b;have n:=JI (P:=l.prog) (w:=w) (base:=base) (mg:=mg) ej T b a c;have c0:=Mw (P:=l.prog) (w:=w) (base:=base) (mg:=mg) (cP:=m) (cR:=kR) (iW.d X G uW) T vW b;have cv:=Fp ee vW b a c E;have co:=Hs ed vW b a c C M cv;have i:=LN (gx.d X G) vW c0 co;have A:=LM (iS.d X G uS) N j i;have y:=GQ eu N b D;have cn:=Fr (P:=l.prog) (w:=w) (base:=base) (mg:=mg) (cU:=d) et T N;have cl:=KO (gv.d X G) T TM a c p dq;have ck:=Mv (gt.d X G) Q;have o:=KQ (gr.d X G) ck dg;have cc:=Mc (gq.d X G) o cl;have cb:=Lv (P:=l.prog) (w:=w) (base:=base) (mg:=mg) (gn.d X G) T;have u:=JN (P:=l.prog) (w:=w) (base:=base) (mg:=mg) (gl.d X G) T a c;have ca:=KL (gk.d X G) u;have bN:=GP (gi.d X G) u;have x:=GW (gh.d X G) T b N cc j i n cb ca bN A y cn;have bM:=JO (P:=l.prog) (w:=w) (base:=base) (mg:=mg) (gf.d X G);have bK:=EL (P:=l.prog) (w:=w) (base:=base) (mg:=mg) (gd.d X G) T;have bJ:=Fq (P:=l.prog) (w:=w) (base:=base) (mg:=mg) (gb.d X G) T;have bI:=JP (P:=l.prog) (w:=w) (base:=base) (mg:=mg) (ga.d X G) T;have bE:=GT (f7.d X G) bM bK bI bJ;have bD:=LL (f6.d X G) T bE;have bC:=KI (P:=l.prog) (w:=w) (base:=base) (mg:=mg) (f5.d X G);have bB:=GS (f4.d X G) T TM hK p bD bC Q;have t:=Fs (P:=l.prog) (w:=w) (base:=base) (mg:=mg) ev a c;have bx:=L8 (P:=l.prog) (w:=w) (base:=base) (mg:=mg) ew T a c;have bw:=GV (P:=l.prog) (w:=w) (base:=base) (mg:=mg) (f3.d X G);have bl:=GN (f2.d X G) T zM a N j i bw t A y;have bk:=Fk (f1.d X G) T zS hC a o bx t bl;have bi:=EI (f0.d X G) b o j i n;have bh:=LR (P:=l.prog) (w:=w) (base:=base) (mg:=mg) (fy.d X G) T hF;have bg:=LJ (fx.d X G) T bh o4 P;have bd:=Md (fv.d X G) T bg;have bc:=KR (ft.d X G) T bd;have bb:=L6 (fn.d X G) T bi;have ba:=JH (fl.d X G) T bb x bk;have a8:=LQ (P:=l.prog) (w:=w) (base:=base) (mg:=mg) (iD.d X G uD) vD;have a7:=EN e0 T vD bc bB ba;have a6:=GU (P:=l.prog) (w:=w) (base:=base) (mg:=mg) (ff.d X G);have r:=Fo (fb.d X G) T a6;have a5:=Fm (e9.d X G) T r;have q:=JM (P:=l.prog) (w:=w) (base:=base) (mg:=mg) (e8.d X G) T;have a3:=GL (e6.d X G) q;have aS:=L7 (e7.d X G) T q;exact EJ F T B vD r a5 a8 a7 a3 aS
theorem MF{l:W.OpenLaw}{q:Program}{b:O Str}{p:(Str->Option I)->Heap->Prop}{g:World->Heap->Prop}{d:DefRec}{K:Params->W.Frag}(j:l.most=some 63)(c:d.params.defaults=[])(n:∀(w:World)(h:Heap),g w h->(K w.params).In h)
  (F:∀(w:World) (mg:Str->Option I) (e:Y) (h:Heap),(K w.params).In h->h.Ns mainGlobals mg->mg d.name=some (.ref e)-> ∃fd:FuncData,(∀(s:Shared)(u:I),BindsTo s fd ⟨[u],[]⟩ [("script",u)])/\∀base:Heap,(K w.params).In base->base.Ns mainGlobals mg->cF l.prog w (K w.params) mg base fR 31 e fd ["script"] (eN (K w.params))):
  W.WalkO q b p g l.row.toRowW d [] (λf vs=>PySem.call f vs):=
 L2.qN (n:=63) (k:=31) (x:="script") (CX:=λ_=>fR) (sp:=λw=>eN (K w.params)) j (by decide) c ⟨J,by decide,by decide⟩ n F (λ_ _ a i m _ o=>⟨a,i,J,o,m,λ_=>rfl⟩) λ_ _ _ _ _ z=>z
end My

structure PySem.W.Fast:Prop where(tw754005277431502925 tw6612745740463257001 tw1625257848496728250 tw16098354019450644156 tw2557677359649459222 tw7183837363431703286 tw13613421360446629927 tw13566228623734647011 tw10304101441663623858 tw10071874474323335547 tw18297543681335318097 tw2634461109323507419 tw16171573163714445722 tw3586515186550583032 tw17186744512990752491 tw18172504763037763660 tw326862632260740384 tw3377697315099422871 tw8154157559853837710 tw9047729780515252909 tw14522114059423288658 tw15789679071687560786 tw6297338783484405798 tw14689913898123092214 tw15324898144542312348 tw1105159511840899443 tw17886732167050510461 tw16291203339263481724 tw9744655985216009483 tw3162450288659470320 tw2416757709124289028 tw11597563590586083890 tw8052212836879510696 tw12745737315258753421 tw11980318861331367984 tw14130014927463789044 tw5642935395745255544 tw5846757264522462985 tw4584738625873212152 tw17492336874215090777 tw12181641029584153213 tw2410531335097070823 tw1569887014703755112 tw1921230240356375481 tw9232382410290525131 tw11608371492559031844 tw10532315097398624670 tw2329802967873232357 tw9330080632754193382 tw14536798927390002173 tw6329479389628286341 tw12719321874127312686 tw18012592468511421474 tw10849398129566934110 tw4076611443797060904 tw4379311317215007873 tw13661815007245840727 tw11126389267452269823 tw1684468703733111291 tw3781174715764249813 tw7374356869818446320 tw12159686483521629991 tw12926497203951070104 tw5619807220639264961 tw17079049795927417381 tw15035119305663705221 tw6596332256520147566 tw601364419633828138 tw3048654690308224508 tw1933402685577982396 tw8683617183603602710 tw12553025725337297769 tw13972779734040995339 tw15000367917350368528 tw602069243859870357 tw1625849714319493801 tw16309059588410238446 tw2587868762374534635 tw15039413616991865823 tw13006515862930324211 tw17323883726380610526 tw15824810074193223326 tw124453267558844047 tw16413481556835423117 tw12239105612140882804 tw10896905141020260862 tw12463538606654349898 tw5378899120358553309 tw1604706635120487713 tw17794582326384526455 tw15528739815382837279 tw2424704283163458440 tw7990709135316882820 tw16077405403509928302 tw16913338543650477834 tw16635424532018301569 tw15742671175709190065 tw15833825752332426127 tw1835356118061298565 tw16914597363406050098 tw3295965892642125608 tw10719235567740096392 tw17529536751138753033 tw3087130226642971278 tw528701880775505142 tw4718467414657370673 tw3732451038541470802 tw2158136613050980592 tw12870529463595744774 tw6162343976721511794 tw4343222204278480084 tw6788603385053479919 tw1998275999538779309 tw10493150593994663404 tw1025281201039819425 tw14006018005771743124 tw228631180519616713 tw18338163802718489501 tw18164057864974108980 tw11670467354814986753 tw4599889402898376963 tw14045706035259912400 tw400194010044762554 tw8018118601761305601 tw14228177189849448125 tw10762971162424109356 tw10728288230955714170 tw13720464923634957905 tw12681744288855891182 tw10352340434435228555 tw7297465302444823189 tw3952126496944519080 tw5007759048157245206 tw11533597617497122592 tw8095823975215135809 tw18361212545242662441 tw17784824643775373410 tw5134916255626382035 tw13450268142248026217 tw17399057171475256085 tw1019148540629245650 tw3050880684079329689 tw2942978246689145451 tw6817099429544084730 tw2467045107549225721 tw15714227656460231990 tw17167722788886940707 tw179512055188080203 tw3831921892290787358 tw5739094909796881174 tw13836456286215192761 tw4450619627330100268 tw17588844272561842421 tw2948381154558352572 tw3742816199079540584 tw13040718159199914251 tw17799108216185719465 tw3988088032629095770 tw13933758594933128770 tw14479184043378756041 tw13526976132597064733 tw1505733498694610130 tw8045885472075059816 tw17292256773068433954 tw18104536030310792217 tw11308690441450023682 tw12462501506061860672 tw17237620035094092919 tw17035635544597560284 tw7057479264585936267 tw17752299250127148439 tw8193767610668549517 tw17796267350178666541 tw5715393113626295312 tw2778168147496228394 tw8310162225757587875 tw4079963403150095126 tw907618023518557729 tw456094892910336074 tw5289198986160803737 tw10807021850111120967 tw4352410454470794411 tw13169628078838549971 tw3189813626782760217 tw7469275790711154696 tw17488728855800440726 tw11527243890784899745 tw5001201713132273713 tw531750630869174373 tw526114070508647778 tw7385565380577675376 tw17829711129724826483 tw5997159022132356628 tw8922218567484998905 tw12059622697536985310 tw4778065708737779588 tw9483309805404844750 tw14552956068696441560 tw15723646752234684970 tw7456372123134872931 tw3059585802315697698 tw8192675332056823691 tw865610339104439070 tw5547437279919137518 tw470214146127988970 tw5719618518903593472 tw12267428855300686560 tw10878725277824541751 tw9152735598322904884 tw16884857186967795658 tw11294654686067008603 tw2878470444651315154 tw4229067562897442689 tw6186421441396628352 tw4876830225551368358 tw13320389049734765079 tw11868288031521171524 tw14057782756616514043 tw18092935508126890925 tw378387680969518420 tw450645243930884291 tw15969757793451064461 tw1548055744868497682 tw1305442472806669014 tw5222751587842052488 tw7503336102997718369 tw8861677005166293933 tw14219415809285512866 tw18155339588153297818 tw588962889082441965 tw14560424762716362283 tw1140453665657312484 tw3043069902392414687 tw15763381862493796884 tw13358576429552298431 tw10497266341548039524 tw4984370149855163528 tw16903944996407068261 tw8136494384010322543 tw17298251151950281305 tw13246025285150471402 tw14531261007927584310 tw8771315595662500605 tw6941573048830194022 tw16513387756428563577 tw17055322774681797500 tw4378255435497900509 tw8318798106722960907 tw15896266853316450566 tw296215146620715034 tw11354278539736904655 tw18393370556249473896 tw2782115989207014725 tw10785480717628033806 tw13021011112911476269 tw15726034167663402136 tw15249109400978012376 tw2183630560676442712 tw9931278318768943381 tw5857981368037567614 tw5942935482986945052 tw8082135414944589140 tw10605470678982969809 tw15116211391272972874 tw7835795217090000443 tw16641867095610979447 tw10688967588161901632 tw3229346894180973142 tw1375717812256573312 tw9980458847270097428 tw2339658410014015283 tw4484899157896366165 tw635492291133685620 tw2674244998244598827 tw6394394887862015595 tw15438370458228318132 tw5341245973850688493 tw6234327880679186709 tw12553903947047005186 tw1406776294126121901:True)
open PySem PySem.W PyProof.Rows
set_option maxRecDepth 100000 in
set_option maxHeartbeats 0 in
theorem PySem.Challenge.cw_meetwall_k69_desk_makes_them_holds : PySem.Challenge.rw_meetwall_k69_desk_makes_them.Holds := by
 w_on;o_law;k_head;(case hw=>w_witness2)
 k_fill
 refine My.MF (l:=PySem.Challenge.rw_meetwall_k69_desk_makes_them) rfl rfl (λw h Y=>PySem.W.kIn_of Y) ?F
 case F=>
  intro w mg fa h KX G hmg;refine' My.uN (w:=w) KX G hmg ?_ ?_ ?_ ?_ ?_ ?_ ?_ ?_ ?_ ?_ ?_ ?_ ?_ ?_ ?_ ?_ ?_ ?_ ?_ ?_ ?_ ?_ ?_ ?_ ?_ ?_ ?_ ?_ ?_ ?_ ?_ ?_ ?_ ?_ ?_ ?_ ?_ ?_ ?_ ?_ ?_ ?_ ?_ ?_ ?_ ?_ ?_ ?_ ?_ ?_ ?_ ?_ ?_ ?_ ?_ ?bL ?_ ?_ ?_ ?_ ?_ ?_ ?_ ?_ ?_ ?_ ?_ ?_ ?_ ?_ ?_ ?mo3 ?mm3 ?_ ?_ ?_ ?mo4 ?mm4 ?_ ?z ?de ?uR ?vR ?iR ?uP ?vP ?iP ?mP0 ?mP1 ?mP2 ?mP3 ?uU ?vU ?iU ?mU0 ?mU1 ?mU2 ?mU3 ?mU4 ?mU5 ?mU6 ?mU7 ?uW ?vW ?iW ?mW0 ?mW1 ?uS ?vS ?iS ?mS0 ?mS1 ?uD ?vD ?iD ?mD0 ?hb
  (case bL=>refine' My.oZ ?a ?l ?c ?k;(case a=>k_is);(case l=>k_is);(case c=>k_is);(case k=>k_is))
  (case hb=>exact λs v=>.of_eq rfl)
  (case z=>refine⟨?_,?_,?_,?_,?_,?_,?_,?_,?_,?_,?_,?_,?_,?_,?_,?_⟩<;>(unfold My.NS;k_is))
  (case mo3=>unfold My.NS;k_is)
  (case mm3=>refine' My.M9 ?a;(case a=>k_is))
  (case mo4=>unfold My.NS;k_is)
  (case mm4=>refine' My.M8 ?a;(case a=>k_is))
  (case de=>refine' My.Ch (w:=w) KX G ?a ?b ?c ?_ ?_ ?_ ?_;(case a=>k_is);(case b=>k_is);(case c=>rfl);all_goals first|(refine' My.Na ?a;(case a=>k_is))|(refine' My.M9 ?a;(case a=>k_is))|(refine' My.M8 ?a;(case a=>k_is)))
  (case uR=>unfold My.NS;k_is)
  (case vR=>refine' My.Cj ?a ?b ?c ?d ?e;(case a=>k_is);(case b=>k_is);(case c=>k_is);(case d=>k_is);(case e=>intro f hf;simp only[My.aT,List.mem_cons,List.not_mem_nil,or_false]at hf;rcases hf with rfl|rfl|rfl|rfl|rfl|rfl<;>k_is))
  (case iR=>refine' My.Cg ?l ?c ?k ?m1 ?m2 ?m3 ?m4;(case m2=>k_is);(case l=>k_is);(case c=>k_is);(case k=>k_is);(case m1=>k_is);(case m3=>k_is);(case m4=>k_is))
  (case uP=>unfold My.NS;k_is)
  (case vP=>refine' My.Cj ?a ?b ?c ?d ?e;(case a=>k_is);(case b=>k_is);(case c=>k_is);(case d=>k_is);(case e=>intro f hf;simp only[My.aZ,List.mem_cons,List.not_mem_nil,or_false]at hf;rcases hf with rfl|rfl<;>k_is))
  (case iP=>refine' My.Cg ?l ?c ?k ?m1 ?m2 ?m3 ?m4;(case m2=>k_is);(case l=>k_is);(case c=>k_is);(case k=>k_is);(case m1=>k_is);(case m3=>k_is);(case m4=>k_is))
  (case mP0=>refine' My.Cf ?l ?c ?k ?m2 ?m3;(case m2=>k_is);(case l=>k_is);(case c=>k_is);(case k=>k_is);(case m3=>k_is))
  (case mP1=>refine' My.Cf ?l ?c ?k ?m2 ?m3;(case m2=>k_is);(case l=>k_is);(case c=>k_is);(case k=>k_is);(case m3=>k_is))
  (case mP2=>refine' My.Cf ?l ?c ?k ?m2 ?m3;(case m2=>k_is);(case l=>k_is);(case c=>k_is);(case k=>k_is);(case m3=>k_is))
  (case mP3=>refine' My.Cf ?l ?c ?k ?m2 ?m3;(case m2=>k_is);(case l=>k_is);(case c=>k_is);(case k=>k_is);(case m3=>k_is))
  (case uU=>unfold My.NS;k_is)
  (case vU=>refine' My.Cj ?a ?b ?c ?d ?e;(case a=>k_is);(case b=>k_is);(case c=>k_is);(case d=>k_is);(case e=>intro f hf;simp only[My.cJ,List.mem_cons,List.not_mem_nil,or_false]at hf;rcases hf with rfl|rfl|rfl|rfl|rfl<;>k_is))
  (case iU=>refine' My.Cg ?l ?c ?k ?m1 ?m2 ?m3 ?m4;(case m2=>k_is);(case l=>k_is);(case c=>k_is);(case k=>k_is);(case m1=>k_is);(case m3=>k_is);(case m4=>k_is))
  (case mU0=>refine' My.Cf ?l ?c ?k ?m2 ?m3;(case m2=>k_is);(case l=>k_is);(case c=>k_is);(case k=>k_is);(case m3=>k_is))
  (case mU1=>refine' My.Cf ?l ?c ?k ?m2 ?m3;(case m2=>k_is);(case l=>k_is);(case c=>k_is);(case k=>k_is);(case m3=>k_is))
  (case mU2=>refine' My.Cf ?l ?c ?k ?m2 ?m3;(case m2=>k_is);(case l=>k_is);(case c=>k_is);(case k=>k_is);(case m3=>k_is))
  (case mU3=>refine' My.Cf ?l ?c ?k ?m2 ?m3;(case m2=>k_is);(case l=>k_is);(case c=>k_is);(case k=>k_is);(case m3=>k_is))
  (case mU4=>refine' My.Cf ?l ?c ?k ?m2 ?m3;(case m2=>k_is);(case l=>k_is);(case c=>k_is);(case k=>k_is);(case m3=>k_is))
  (case mU5=>refine' My.Cf ?l ?c ?k ?m2 ?m3;(case m2=>k_is);(case l=>k_is);(case c=>k_is);(case k=>k_is);(case m3=>k_is))
  (case mU6=>refine' My.Cf ?l ?c ?k ?m2 ?m3;(case m2=>k_is);(case l=>k_is);(case c=>k_is);(case k=>k_is);(case m3=>k_is))
  (case mU7=>refine' My.Cf ?l ?c ?k ?m2 ?m3;(case m2=>k_is);(case l=>k_is);(case c=>k_is);(case k=>k_is);(case m3=>k_is))
  (case uW=>unfold My.NS;k_is)
  (case vW=>refine' My.Cj ?a ?b ?c ?d ?e;(case a=>k_is);(case b=>k_is);(case c=>k_is);(case d=>k_is);(case e=>intro f hf;simp only[My.cG,List.mem_cons,List.not_mem_nil,or_false]at hf;rcases hf with rfl|rfl|rfl|rfl|rfl|rfl<;>k_is))
  (case iW=>refine' My.Cg ?l ?c ?k ?m1 ?m2 ?m3 ?m4;(case m2=>k_is);(case l=>k_is);(case c=>k_is);(case k=>k_is);(case m1=>k_is);(case m3=>k_is);(case m4=>k_is))
  (case mW0=>refine' My.Cf ?l ?c ?k ?m2 ?m3;(case m2=>k_is);(case l=>k_is);(case c=>k_is);(case k=>k_is);(case m3=>k_is))
  (case mW1=>refine' My.Cf ?l ?c ?k ?m2 ?m3;(case m2=>k_is);(case l=>k_is);(case c=>k_is);(case k=>k_is);(case m3=>k_is))
  (case uS=>unfold My.NS;k_is)
  (case vS=>refine' My.Cj ?a ?b ?c ?d ?e;(case a=>k_is);(case b=>k_is);(case c=>k_is);(case d=>k_is);(case e=>intro f hf;simp only[My.dU,List.mem_cons,List.not_mem_nil,or_false]at hf;rcases hf with rfl|rfl<;>k_is))
  (case iS=>refine' My.Cg ?l ?c ?k ?m1 ?m2 ?m3 ?m4;(case m2=>k_is);(case l=>k_is);(case c=>k_is);(case k=>k_is);(case m1=>k_is);(case m3=>k_is);(case m4=>k_is))
  (case mS0=>refine' My.Cf ?l ?c ?k ?m2 ?m3;(case m2=>k_is);(case l=>k_is);(case c=>k_is);(case k=>k_is);(case m3=>k_is))
  (case mS1=>refine' My.Cf ?l ?c ?k ?m2 ?m3;(case m2=>k_is);(case l=>k_is);(case c=>k_is);(case k=>k_is);(case m3=>k_is))
  (case uD=>unfold My.NS;k_is)
  (case vD=>refine' My.Cj ?a ?b ?c ?d ?e;(case a=>k_is);(case b=>k_is);(case c=>k_is);(case d=>k_is);(case e=>intro f hf;simp only[My.fP,List.mem_cons,List.not_mem_nil,or_false]at hf;rcases hf with rfl<;>k_is))
  (case iD=>refine' My.Cg ?l ?c ?k ?m1 ?m2 ?m3 ?m4;(case m2=>k_is);(case l=>k_is);(case c=>k_is);(case k=>k_is);(case m1=>k_is);(case m3=>k_is);(case m4=>k_is))
  (case mD0=>refine' My.Cf ?l ?c ?k ?m2 ?m3;(case m2=>k_is);(case l=>k_is);(case c=>k_is);(case k=>k_is);(case m3=>k_is))
  all_goals first|(refine' My.Cb ?a ?l ?c ?k;(case a=>k_is);(case l=>k_is);(case c=>k_is);(case k=>k_is))|(refine' My.Ci ?a;(case a=>k_is))
